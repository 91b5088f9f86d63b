/- net: Read. -/
import Derived.Test.YtgdlnjhbencjkaaNRd
import Derived.Test.YtgdlnjhbencjkaaNTake
import Derived.StillTailTactics
namespace Go.Proofs.Ytgdlnjhbencjkaa
open Go.RowKit

def ten (f : F) : Option (Int × Int × Int × Int × Int × Int × Int × Int × F × ByteArray) := match f with
  | .cons _ n0 _ _ (.cons _ n1 _ _ (.cons _ n2 _ _ (.cons _ n3 _ _ (.cons _ n4 _ _ (.cons _ n5 _ _ (.cons _ n6 _ _ (.cons _ n7 _ _ (.cons _ _ _ c8 (.cons _ _ s9 _ .nil))))))))) => some (n0, n1, n2, n3, n4, n5, n6, n7, c8, s9)
  | _ => none
/-- The message that a node stands for. -/
def msgO (x : Nd) : Option Mg :=
  if shapedB x = true then match ten x.kids with
    | none => none
    | some (n0, n1, n2, n3, n4, n5, n6, n7, c8, s9) =>
      if 2147483648 < n0 ∨ 2147483648 < n1 ∨ 2147483648 < n2 ∨ 1 < n7 then none else match entsO c8 with
        | none => none
        | some l => some ⟨n0, n1 - 1, n2 - 1, n3.toNat, n4.toNat, n5.toNat, n6.toNat, n7 == 1, l, s9⟩
  else none
def msgOO : Option Nd → Option Mg
  | none => none
  | some x => msgO x
def rdO (l : List UInt8) : Option Mg := msgOO (readO l)
theorem ten_kids {f : F} (h : f.len = 10) : ∃ k0 n0 s0 c0 k1 n1 s1 c1 k2 n2 s2 c2 k3 n3 s3 c3 k4 n4 s4 c4 k5 n5 s5 c5 k6 n6 s6 c6 k7 n7 s7 c7 k8 n8 s8 c8 k9 n9 s9 c9, f = .cons k0 n0 s0 c0 (.cons k1 n1 s1 c1 (.cons k2 n2 s2 c2 (.cons k3 n3 s3 c3 (.cons k4 n4 s4 c4 (.cons k5 n5 s5 c5 (.cons k6 n6 s6 c6 (.cons k7 n7 s7 c7 (.cons k8 n8 s8 c8 (F.cons k9 n9 s9 c9 .nil))))))))) := by
  have go : ∀ (m : Nat) (f : F), f.len = m + 1 → ∃ k n s c r, f = .cons k n s c r ∧ r.len = m := fun m f h => by
    cases f with
    | nil => simp [F.len] at h
    | cons k n s c r => exact ⟨k, n, s, c, r, rfl, by simpa [F.len] using h⟩
  obtain ⟨k0, n0, s0, c0, r0, rfl, h0⟩ := go 9 f h
  obtain ⟨k1, n1, s1, c1, r1, rfl, h1⟩ := go 8 r0 h0
  obtain ⟨k2, n2, s2, c2, r2, rfl, h2⟩ := go 7 r1 h1
  obtain ⟨k3, n3, s3, c3, r3, rfl, h3⟩ := go 6 r2 h2
  obtain ⟨k4, n4, s4, c4, r4, rfl, h4⟩ := go 5 r3 h3
  obtain ⟨k5, n5, s5, c5, r5, rfl, h5⟩ := go 4 r4 h4
  obtain ⟨k6, n6, s6, c6, r6, rfl, h6⟩ := go 3 r5 h5
  obtain ⟨k7, n7, s7, c7, r7, rfl, h7⟩ := go 2 r6 h6
  obtain ⟨k8, n8, s8, c8, r8, rfl, h8⟩ := go 1 r7 h7
  obtain ⟨k9, n9, s9, c9, r9, rfl, h9⟩ := go 0 r8 h8
  have := F.len_zero h9
  subst this
  exact ⟨k0, n0, s0, c0, k1, n1, s1, c1, k2, n2, s2, c2, k3, n3, s3, c3, k4, n4, s4, c4, k5, n5, s5, c5, k6, n6, s6, c6, k7, n7, s7, c7, k8, n8, s8, c8, k9, n9, s9, c9, rfl⟩
def RmRes (B : Nat) (w : World) (o : Option Mg) (e : Ending) (w' : World) : Prop :=
  ∃ (m : Mg) (ev : Value) (b : Bool), e = .returned (.tuple #[.agg (mgL m ev).toArray, .bool b]) ∧ (b = false → o = none ∧ m = mgNil ∧ ev = .slice none 0 0) ∧ (b = true → o = some m) ∧ EOwn w' B ev m.ents ∧ Below B w w'
theorem RmRes.no {B : Nat} {w w' : World} {o : Option Mg} (h : o = none) (hb : Below B w w') : RmRes B w o (.returned (.tuple #[.agg #[.int .i64 0, .int .i64 0, .int .i64 0, .int .u64 0, .int .u64 0, .int .u64 0, .int .u64 0, .bool false, .slice none 0 0, .string ⟨#[]⟩], .bool false])) w' := ⟨mgNil, .slice none 0 0, false, rfl, fun _ => ⟨h, rfl, rfl⟩, fun e => (by cases e), EOwn.nil _ _, hb⟩
theorem RmRes.yes {B : Nat} {w w' : World} {R : Option Mg} {n0 n1 n2 n3 n4 n5 n6 n7 : Int} {E : List Ent} {s9 : ByteArray} {ev : Value} (h : R = some ⟨n0, n1 - 1, n2 - 1, n3.toNat, n4.toNat, n5.toNat, n6.toNat, n7 == 1, E, s9⟩) (hn : 0 ≤ n3 ∧ 0 ≤ n4 ∧ 0 ≤ n5 ∧ 0 ≤ n6)
    (ho : EOwn w' B ev E) (hb : Below B w w') : RmRes B w R (.returned (.tuple #[.agg #[.int .i64 n0, .int .i64 (n1 - 1), .int .i64 (n2 - 1), .int .u64 n3, .int .u64 n4, .int .u64 n5, .int .u64 n6, .bool (n7 == 1), ev, .string s9], .bool true])) w' := by
  obtain ⟨h3, h4, h5, h6⟩ := hn
  refine ⟨_, ev, true, ?_, fun e => (by cases e), fun _ => h, ho, hb⟩
  simp only [mgL, Int.toNat_of_nonneg h3, Int.toNat_of_nonneg h4, Int.toNat_of_nonneg h5, Int.toNat_of_nonneg h6]
theorem i64_w (x : Int) (h0 : 0 ≤ x) (h1 : x ≤ 2147483648) : IntKind.i64.wrap x = x ∧ IntKind.i64.wrap (x - 1) = x - 1 := by
  simp only [IntKind.wrap, IntKind.signed, IntKind.bits]; constructor <;> simp <;> omega
set_option maxHeartbeats 8000000 in
set_option maxRecDepth 100000 in
theorem read_msg (s : ByteArray) (w : World) (hs : s.size ≤ 10000000) : Calls Try.prog 22 #[.string s] w (RmRes w.heap.size w (rdO s.data.toList)) := by
  obtain ⟨W0, hW0⟩ : ∃ W0, W0 = w.alloc (.cells #[.int .i64 0, .int .i64 0, .int .i64 0, .int .u64 0, .int .u64 0, .int .u64 0, .int .u64 0, .bool false, .slice none 0 0, .string ⟨#[]⟩] 32) := ⟨_, rfl⟩
  have hb0 : Below w.heap.size w W0 := by rw [hW0]; exact (Below.refl _ _).alloc (Nat.le_refl _) _
  have hz0 : W0.heap[w.heap.size]? = some (.cells #[.int .i64 0, .int .i64 0, .int .i64 0, .int .u64 0, .int .u64 0, .int .u64 0, .int .u64 0, .bool false, .slice none 0 0, .string ⟨#[]⟩] 32 (0, 0)) := by rw [hW0]; exact heap_alloc_new _ _
  have K := Lib.hid (read_prog s W0 hs)
  obtain ⟨O, hO⟩ : ∃ O, readO s.data.toList = O := ⟨_, rfl⟩
  have HR : Hid (rdO s.data.toList = msgOO O) := Lib.hid (by rw [← hO]; rfl)
  obtain ⟨R, hR⟩ : ∃ R, rdO s.data.toList = R := ⟨_, rfl⟩
  rw [hR] at HR ⊢
  have HOK : Hid (∀ x, O = some x → x.ok) := Lib.hid (fun x hx => by
    rw [← hO, readO] at hx
    cases hp : parse 20 s.data.toList with
    | none => rw [hp] at hx; cases hx
    | some p =>
      obtain ⟨y, r⟩ := p
      rw [hp] at hx
      cases r with
      | nil =>
        obtain rfl : y = x := Option.some.inj hx
        exact (parse_inv 20 _ _ _ hp).2.2 (by have : s.data.toList.length = s.size := by simp
                                              omega)
      | cons a r => cases hx)
  rw [hO] at K
  have HB0 := Lib.hid hb0
  have HZ0 := Lib.hid hz0
  have hlt0 := block_lt hz0
  clear hO hR hs hb0 hz0
  go_enter Try.func22, Try.ntmps22
  go_wp2_with fail
  simp only [← hW0]
  clear hW0
  refine K.out.mono ?_
  rintro e w1 ⟨x, ka, kn, kc, b, rfl, hb1, h1, h2, hk⟩
  have hz1 := block_kept HZ0.out hlt0 hb1
  have HB1 := Lib.hid (HB0.out.trans (hb1.mono HB0.out.size))
  obtain ⟨g0, g1, g2, g3, g4, g5, g6, g7, g8, g9⟩ := cells10 hz1
  obtain ⟨f0, f1, f2, f3, f4, f5, f6, f7, f8, f9⟩ := free10 hz1
  have HZ1 := Lib.hid hz1
  have hlt1 := block_lt hz1
  unfold nodeV
  clear K hb1 hz1
  cases b with
  | false =>
    have HNO : Hid (R = none) := Lib.hid (by rw [HR.out, (h2 rfl).1]; rfl)
    clear h1 h2 hk
    have HBA := Lib.hid (HB1.out.alloc HB1.out.size (.cells #[.int .i64 x.k, .int .u64 x.n, .string x.s, .slice ka kn kc] 76))
    have hza := ((Below.refl w1.heap.size w1).alloc (Nat.le_refl _) (.cells #[.int .i64 x.k, .int .u64 x.n, .string x.s, .slice ka kn kc] 76)).block _ hlt1
    have HZA := Lib.hid (hza.trans HZ1.out)
    clear hza
    go_wp2_with fail
    have hz5 := set10_heap (w := w1) HZ1.out (.int .i64 0) (.int .i64 0) (.int .i64 0) (.int .u64 0) (.int .u64 0) (.int .u64 0) (.int .u64 0) (.bool false) (.slice none 0 0) (.string ⟨#[]⟩)
    have hz6 : ((set10 w1 w.heap.size (.int .i64 0) (.int .i64 0) (.int .i64 0) (.int .u64 0) (.int .u64 0) (.int .u64 0) (.int .u64 0) (.bool false) (.slice none 0 0) (.string ⟨#[]⟩)).alloc (.cells #[.int .i64 x.k, .int .u64 x.n, .string x.s, .slice ka kn kc] 76)).heap[w.heap.size]? = _ := (heap_alloc_old _ _ (block_lt hz5)).trans hz5
    have hb5 := HB1.out.trans (set10_below (w := w1) (Nat.le_refl w.heap.size) (.int .i64 0) (.int .i64 0) (.int .i64 0) (.int .u64 0) (.int .u64 0) (.int .u64 0) (.int .u64 0) (.bool false) (.slice none 0 0) (.string ⟨#[]⟩))
    have hb6 := hb5.alloc hb5.size (.cells #[.int .i64 x.k, .int .u64 x.n, .string x.s, .slice ka kn kc] 76)
    unfold set10 at hz6 hb6
    exact bodyPost_ret (results_take rfl rfl rfl hz6 rfl) rfl (RmRes.no HNO.out hb6)
  | true =>
    have HX : Hid (O = some x) := Lib.hid (h1 rfl)
    obtain ⟨_, _, hsh⟩ := hk.shape
    injection hsh with hs1 hs2 hs3
    subst hs1 hs2 hs3
    obtain ⟨W1, hW1⟩ : ∃ W1, W1 = w1.alloc (.cells #[.int .i64 x.k, .int .u64 x.n, .string x.s, .slice ka x.kids.len kc] 76) := ⟨_, rfl⟩
    have hb2 : Below w1.heap.size w1 W1 := by rw [hW1]; exact (Below.refl _ _).alloc (Nat.le_refl _) _
    have hn1 : W1.heap[w1.heap.size]? = some (.cells #[.int .i64 x.k, .int .u64 x.n, .string x.s, .slice ka x.kids.len kc] 76 (0, 0)) := by rw [hW1]; exact heap_alloc_new _ _
    have hz2 := (hb2.block _ hlt1).trans HZ1.out
    have HB2 := Lib.hid (HB1.out.trans (hb2.mono HB1.out.size))
    have hk2 := hk.mono (S' := fun b => b < w1.heap.size) (w' := W1) (fun b hb => hb.2) (fun b hb => hb2.block b hb.2)
    have K2 := Lib.hid (shaped_prog x _ ka kc W1 (fun b hb => Nat.lt_of_lt_of_le hb hb2.size) hk2)
    have HK2 := Lib.hid hk2
    have HZ2 := Lib.hid hz2
    have HN1 := Lib.hid hn1
    obtain ⟨y0, y1, y2, y3, z0, z1, z2, z3⟩ := block4 hn1
    clear h1 h2 hk hb2 hn1 hz2 hk2
    go_wp2_with fail
    simp only [← hW1]
    clear hW1
    refine K2.out.mono ?_
    rintro e w2 ⟨rfl, hb3⟩
    have hz3 := (hb3.block _ (block_lt HZ2.out)).trans HZ2.out
    have hn3 := (hb3.block _ (block_lt HN1.out)).trans HN1.out
    have HB3 := Lib.hid (HB2.out.trans (hb3.mono HB2.out.size))
    have hk3 := HK2.out.mono (S' := fun b => b < w1.heap.size) (w' := w2) (fun b hb => hb) (fun b hb => hb3.block b (by have := block_lt HN1.out; omega))
    have HLT := Lib.hid (Nat.lt_of_lt_of_le (block_lt HN1.out) hb3.size)
    clear K2 hb3 g0 g1 g2 g3 g4 g5 g6 g7 g8 g9 f0 f1 f2 f3 f4 f5 f6 f7 f8 f9 y0 y1 y2 y3 z0 z1 z2 z3 HK2
    obtain ⟨g0, g1, g2, g3, g4, g5, g6, g7, g8, g9⟩ := cells10 hz3
    obtain ⟨f0, f1, f2, f3, f4, f5, f6, f7, f8, f9⟩ := free10 hz3
    obtain ⟨y0, y1, y2, y3, z0, z1, z2, z3⟩ := block4 hn3
    have HZ3 := Lib.hid hz3
    have HN3 := Lib.hid hn3
    have HMS : Hid (msgO x = if shapedB x = true then match ten x.kids with
      | none => none
      | some (n0, n1, n2, n3, n4, n5, n6, n7, c8, s9) =>
        if 2147483648 < n0 ∨ 2147483648 < n1 ∨ 2147483648 < n2 ∨ 1 < n7 then none else match entsO c8 with
          | none => none
          | some l => some ⟨n0, n1 - 1, n2 - 1, n3.toNat, n4.toNat, n5.toNat, n6.toNat, n7 == 1, l, s9⟩
      else none) := Lib.hid rfl
    have HRX : Hid (R = msgO x) := Lib.hid (by rw [HR.out, HX.out]; rfl)
    have HSB : Hid (shapedB x = true → x.kids.len = 10) := Lib.hid (fun h => by unfold shapedB at h; simp at h; exact h.2.1)
    obtain ⟨sb, hsb⟩ : ∃ b, shapedB x = b := ⟨_, rfl⟩
    rw [hsb] at HMS HSB ⊢
    cases sb with
    | false =>
      have HNO : Hid (R = none) := Lib.hid (by rw [HRX.out, HMS.out, if_neg (by simp)])
      clear hz3 hn3 hk3 hsb y0 y1 y2 y3 z0 z1 z2 z3
      go_wp2_with fail
      refine bodyPost_ret (results_take rfl rfl rfl (set10_heap (w := w2) HZ3.out _ _ _ _ _ _ _ _ _ _) rfl) rfl (RmRes.no HNO.out (HB3.out.trans (set10_below (Nat.le_refl _) _ _ _ _ _ _ _ _ _ _)))
    | true =>
      have HXO := Lib.hid (HOK.out x HX.out)
      rw [if_pos rfl] at HMS
      have h10 := HSB.out rfl
      obtain ⟨k0, n0, s0, c0, k1, n1, s1, c1, k2, n2, s2, c2, k3, n3, s3, c3, k4, n4, s4, c4, k5, n5, s5, c5, k6, n6, s6, c6, k7, n7, s7, c7, k8, n8, s8, c8, k9, n9, s9, c9, hf⟩ := ten_kids h10
      obtain ⟨g, o, cap, hv, hg, hl⟩ := hk3.lies (by omega)
      rw [hf] at hl
      have hXO := HXO.out.2.2.2
      rw [hf] at hXO
      rw [h10] at hv y3 HN3 ⊢
      injection hv with hv1 _ hv3
      subst hv1 hv3
      obtain ⟨⟨kv0, a0, b0, d0, e0, q0⟩, hl0⟩ := lies_cons.1 hl
      obtain ⟨⟨kv1, a1, b1, d1, e1, q1⟩, hl1⟩ := lies_cons.1 hl0
      obtain ⟨⟨kv2, a2, b2, d2, e2, q2⟩, hl2⟩ := lies_cons.1 hl1
      obtain ⟨⟨kv3, a3, b3, d3, e3, q3⟩, hl3⟩ := lies_cons.1 hl2
      obtain ⟨⟨kv4, a4, b4, d4, e4, q4⟩, hl4⟩ := lies_cons.1 hl3
      obtain ⟨⟨kv5, a5, b5, d5, e5, q5⟩, hl5⟩ := lies_cons.1 hl4
      obtain ⟨⟨kv6, a6, b6, d6, e6, q6⟩, hl6⟩ := lies_cons.1 hl5
      obtain ⟨⟨kv7, a7, b7, d7, e7, q7⟩, hl7⟩ := lies_cons.1 hl6
      obtain ⟨⟨kv8, a8, b8, d8, e8, q8⟩, hl8⟩ := lies_cons.1 hl7
      obtain ⟨⟨kv9, a9, b9, d9, e9, q9⟩, hl9⟩ := lies_cons.1 hl8
      obtain ⟨va, vc, rfl⟩ := q8.shape
      obtain ⟨⟨o0, _⟩, _, _, _, ⟨o1, _⟩, _, _, _, ⟨o2, _⟩, _, _, _, ⟨o3, o3'⟩, _, _, _, ⟨o4, o4'⟩, _, _, _, ⟨o5, o5'⟩, _, _, _, ⟨o6, o6'⟩, _, _, _, ⟨o7, _⟩, _, _, _, ⟨_, _⟩, _, h8l, o8, _⟩ := hXO
      have HMS2 : Hid (R = if 2147483648 < n0 ∨ 2147483648 < n1 ∨ 2147483648 < n2 ∨ 1 < n7 then none else match entsO c8 with
          | none => none
          | some l => some ⟨n0, n1 - 1, n2 - 1, n3.toNat, n4.toNat, n5.toNat, n6.toNat, n7 == 1, l, s9⟩) := Lib.hid (by rw [HRX.out, HMS.out, hf]; rfl)
      have p0 : w2.cell? ⟨g, o + 1, none⟩ = some (.int .u64 n0) := b0
      have p1 : w2.cell? ⟨g, o + 4 + 1, none⟩ = some (.int .u64 n1) := b1
      have p2 : w2.cell? ⟨g, o + 8 + 1, none⟩ = some (.int .u64 n2) := b2
      have p3 : w2.cell? ⟨g, o + 12 + 1, none⟩ = some (.int .u64 n3) := b3
      have p4 : w2.cell? ⟨g, o + 16 + 1, none⟩ = some (.int .u64 n4) := b4
      have p5 : w2.cell? ⟨g, o + 20 + 1, none⟩ = some (.int .u64 n5) := b5
      have p6 : w2.cell? ⟨g, o + 24 + 1, none⟩ = some (.int .u64 n6) := b6
      have p7 : w2.cell? ⟨g, o + 28 + 1, none⟩ = some (.int .u64 n7) := b7
      have p8 : w2.cell? ⟨g, o + 32 + 3, none⟩ = some (.slice va c8.len vc) := e8
      have p9 : w2.cell? ⟨g, o + 36 + 2, none⟩ = some (.string s9) := d9
      have H8 : Hid (c8.len ≤ 268435456) := Lib.hid (Nat.le_of_lt h8l)
      have KE := Lib.hid (fun W (hW : Below w2.heap.size w2 W) => readEntries_prog c8 (fun b => b < w1.heap.size) (.slice va c8.len vc) W (fun b hb => Nat.lt_of_lt_of_le hb (Nat.le_trans (Nat.le_of_lt HLT.out) hW.size)) (q8.mono (fun _ h => h) (fun b hb => hW.block b (Nat.lt_trans hb HLT.out))) o8 H8.out)
      have hgw : g < w2.heap.size := Nat.lt_trans hg HLT.out
      clear hz3 hn3 hk3 hsb hf hl hl0 hl1 hl2 hl3 hl4 hl5 hl6 hl7 hl8 hl9 q0 q1 q2 q3 q4 q5 q6 q7 q8 q9 a0 a1 a2 a3 a4 a5 a6 a7 a8 a9 b0 b1 b2 b3 b4 b5 b6 b7 b8 b9 d0 d1 d2 d3 d4 d5 d6 d7 d8 d9 e0 e1 e2 e3 e4 e5 e6 e7 e8 e9 hg h10
      obtain ⟨W5, hW5⟩ : ∃ W5, W5 = (set10 w2 w.heap.size (.int .i64 0) (.int .i64 0) (.int .i64 0) (.int .u64 0) (.int .u64 0) (.int .u64 0) (.int .u64 0) (.bool false) (.slice none 0 0) (.string ⟨#[]⟩)).drew := ⟨_, rfl⟩
      have HEZ : Hid (W5.heap[w.heap.size]? = some (.cells #[.int .i64 0, .int .i64 0, .int .i64 0, .int .u64 0, .int .u64 0, .int .u64 0, .int .u64 0, .bool false, .slice none 0 0, .string ⟨#[]⟩] 32 (0, 0))) := Lib.hid (by rw [hW5, drew_heap]; exact set10_heap (w := w2) HZ3.out (.int .i64 0) (.int .i64 0) (.int .i64 0) (.int .u64 0) (.int .u64 0) (.int .u64 0) (.int .u64 0) (.bool false) (.slice none 0 0) (.string ⟨#[]⟩))
      have HEB : Hid (Below w.heap.size w W5) := Lib.hid (by rw [hW5]; exact Below.drewR (HB3.out.trans (set10_below (w := w2) (Nat.le_refl w.heap.size) (.int .i64 0) (.int .i64 0) (.int .i64 0) (.int .u64 0) (.int .u64 0) (.int .u64 0) (.int .u64 0) (.bool false) (.slice none 0 0) (.string ⟨#[]⟩))))
      unfold set10 at hW5
      have HW5 := Lib.hid hW5
      clear hW5
      by_cases t0 : 2147483648 < n0
      · have HNO : Hid (R = none) := Lib.hid (by rw [HMS2.out, if_pos (.inl t0)])
        go_wp2_with fail
        go_region
        go_wp2_with fail
        rw [← HW5.out]
        exact bodyPost_ret (results_take rfl rfl rfl HEZ.out rfl) rfl (RmRes.no HNO.out HEB.out)
      · by_cases t1 : 2147483648 < n1
        · have HNO : Hid (R = none) := Lib.hid (by rw [HMS2.out, if_pos (.inr (.inl t1))])
          go_wp2_with fail
          go_region
          go_wp2_with fail
          rw [← HW5.out]
          exact bodyPost_ret (results_take rfl rfl rfl HEZ.out rfl) rfl (RmRes.no HNO.out HEB.out)
        · by_cases t2 : 2147483648 < n2
          · have HNO : Hid (R = none) := Lib.hid (by rw [HMS2.out, if_pos (.inr (.inr (.inl t2)))])
            go_wp2_with fail
            go_region
            go_wp2_with fail
            rw [← HW5.out]
            exact bodyPost_ret (results_take rfl rfl rfl HEZ.out rfl) rfl (RmRes.no HNO.out HEB.out)
          · by_cases t7 : 1 < n7
            · have HNO : Hid (R = none) := Lib.hid (by rw [HMS2.out, if_pos (.inr (.inr (.inr t7)))])
              go_wp2_with fail
              go_region
              go_wp2_with fail
              rw [← HW5.out]
              exact bodyPost_ret (results_take rfl rfl rfl HEZ.out rfl) rfl (RmRes.no HNO.out HEB.out)
            · rw [if_neg (by omega)] at HMS2
              go_wp2_with fail
              go_region
              go_wp2_with fail
              refine (KE.out _ (Below.refl _ _).drew).mono ?_
              rintro e w3 ⟨rv, rb, rfl, hno, hyes, hb4⟩
              have hb4' : Below w2.heap.size w2 w3 := (Below.refl _ _).drew.trans hb4
              have hz4 := (hb4'.block _ (block_lt HZ3.out)).trans HZ3.out
              have HZ4 := Lib.hid hz4
              have HB4 := Lib.hid (HB3.out.trans (hb4'.mono HB3.out.size))
              have y3' := cellB hb4' y3
              have p3' := cellB hb4' p3
              have p4' := cellB hb4' p4
              have p5' := cellB hb4' p5
              have p6' := cellB hb4' p6
              have p7' := cellB hb4' p7
              have p9' := cellB hb4' p9
              have hlt3 : w1.heap.size < w2.heap.size := HLT.out
              have hbl : w.heap.size < w1.heap.size := hlt1
              clear g0 g1 g2 g3 g4 g5 g6 g7 g8 g9 f0 f1 f2 f3 f4 f5 f6 f7 f8 f9 y0 y1 y2 y3 z0 z1 z2 z3 p0 p1 p2 p3 p4 p5 p6 p7 p8 p9 HW5 HEZ HEB hb4
              obtain ⟨g0, g1, g2, g3, g4, g5, g6, g7, g8, g9⟩ := cells10 hz4
              obtain ⟨f0, f1, f2, f3, f4, f5, f6, f7, f8, f9⟩ := free10 hz4
              clear hz4
              cases rb with
              | false =>
                obtain ⟨hn, rfl⟩ := hno rfl
                have HNO : Hid (R = none) := Lib.hid (by rw [HMS2.out, hn])
                clear hno hyes hn
                obtain ⟨W6, hW6⟩ : ∃ W6, W6 = set10 w3 w.heap.size (.int .i64 0) (.int .i64 0) (.int .i64 0) (.int .u64 0) (.int .u64 0) (.int .u64 0) (.int .u64 0) (.bool false) (.slice none 0 0) (.string ⟨#[]⟩) := ⟨_, rfl⟩
                have HEZ : Hid (W6.heap[w.heap.size]? = some (.cells #[.int .i64 0, .int .i64 0, .int .i64 0, .int .u64 0, .int .u64 0, .int .u64 0, .int .u64 0, .bool false, .slice none 0 0, .string ⟨#[]⟩] 32 (0, 0))) := Lib.hid (by rw [hW6]; exact set10_heap (w := w3) HZ4.out (.int .i64 0) (.int .i64 0) (.int .i64 0) (.int .u64 0) (.int .u64 0) (.int .u64 0) (.int .u64 0) (.bool false) (.slice none 0 0) (.string ⟨#[]⟩))
                have HEB : Hid (Below w.heap.size w W6) := Lib.hid (by rw [hW6]; exact HB4.out.trans (set10_below (w := w3) (Nat.le_refl w.heap.size) (.int .i64 0) (.int .i64 0) (.int .i64 0) (.int .u64 0) (.int .u64 0) (.int .u64 0) (.int .u64 0) (.bool false) (.slice none 0 0) (.string ⟨#[]⟩)))
                unfold set10 at hW6
                have HW6 := Lib.hid hW6
                clear hW6
                go_wp2_with fail
                rw [← HW6.out]
                exact bodyPost_ret (results_take rfl rfl rfl HEZ.out rfl) rfl (RmRes.no HNO.out HEB.out)
              | true =>
                obtain ⟨E, hE, hoE⟩ := hyes rfl
                obtain ⟨ra, rc, rfl, _⟩ := hoE.shape
                have HRS : Hid (R = some ⟨n0, n1 - 1, n2 - 1, n3.toNat, n4.toNat, n5.toNat, n6.toNat, n7 == 1, E, s9⟩) := Lib.hid (by rw [HMS2.out, hE])
                have HOE : Hid (EOwn w3 w.heap.size (.slice ra E.length rc) E) := Lib.hid (EOwn.base (B := w2.drew.heap.size) hoE (fun k hk => by have := EOwn.low (B := w2.drew.heap.size) hoE k hk; have h9 : w2.drew.heap.size = w2.heap.size := rfl; omega))
                have i0 := (i64_w n0 o0 (by omega)).1
                have i1 := i64_w n1 o1 (by omega)
                have i2 := i64_w n2 o2 (by omega)
                obtain ⟨i1a, i1b⟩ := i1
                obtain ⟨i2a, i2b⟩ := i2
                clear hno hyes hE hoE KE
                obtain ⟨W7, hW7⟩ : ∃ W7, W7 = (set10 w3 w.heap.size (.int .i64 n0) (.int .i64 (n1 - 1)) (.int .i64 (n2 - 1)) (.int .u64 n3) (.int .u64 n4) (.int .u64 n5) (.int .u64 n6) (.bool (n7 == 1)) (.slice ra E.length rc) (.string s9)).drew := ⟨_, rfl⟩
                have HEZ : Hid (W7.heap[w.heap.size]? = some (.cells #[.int .i64 n0, .int .i64 (n1 - 1), .int .i64 (n2 - 1), .int .u64 n3, .int .u64 n4, .int .u64 n5, .int .u64 n6, .bool (n7 == 1), .slice ra E.length rc, .string s9] 32 (0, 0))) := Lib.hid (by rw [hW7, drew_heap]; exact set10_heap (w := w3) HZ4.out (.int .i64 n0) (.int .i64 (n1 - 1)) (.int .i64 (n2 - 1)) (.int .u64 n3) (.int .u64 n4) (.int .u64 n5) (.int .u64 n6) (.bool (n7 == 1)) (.slice ra E.length rc) (.string s9))
                have HEB : Hid (Below w.heap.size w W7) := Lib.hid (by rw [hW7]; exact Below.drewR (HB4.out.trans (set10_below (w := w3) (Nat.le_refl w.heap.size) (.int .i64 n0) (.int .i64 (n1 - 1)) (.int .i64 (n2 - 1)) (.int .u64 n3) (.int .u64 n4) (.int .u64 n5) (.int .u64 n6) (.bool (n7 == 1)) (.slice ra E.length rc) (.string s9))))
                have HEE : Hid (EOwn W7 w.heap.size (.slice ra E.length rc) E) := Lib.hid (by
                  rw [hW7]
                  refine HOE.out.mv fun k hk => ?_
                  rw [drew_heap]
                  exact set10_other w3 w.heap.size (.int .i64 n0) (.int .i64 (n1 - 1)) (.int .i64 (n2 - 1)) (.int .u64 n3) (.int .u64 n4) (.int .u64 n5) (.int .u64 n6) (.bool (n7 == 1)) (.slice ra E.length rc) (.string s9) k (by obtain ⟨cc, hcc⟩ := EOwn.typ HOE.out k hk; exact ty_ne hcc HZ4.out (by decide)))
                unfold set10 at hW7
                have HW7 := Lib.hid hW7
                have HNN := Lib.hid (And.intro o3 (And.intro o4 (And.intro o5 o6)))
                clear hW7
                go_wp2_with fail
                go_still_tail 41, (by kernel_rfl)
                go_wp2_with fail
                rw [← HW7.out]
                exact bodyPost_ret (results_take rfl rfl rfl HEZ.out rfl) rfl (RmRes.yes HRS.out HNN.out HEE.out HEB.out)
end Go.Proofs.Ytgdlnjhbencjkaa
