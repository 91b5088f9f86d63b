/- vidimusref03.size. vidimusref03.node: all but lists. vidimusref03.node: texts, other letters, no size. vidimusref03.node: lists; Read. vidimusref03.node whole; Read. -/
import Derived.Test.YtmpjpaomgifpcaaGreatDoorBCodR
namespace Go.Proofs.YtmpjpaomgifpcaaGreatDoor.Cod
open Go.RowKit

def RsRes (s : ByteArray) (A : Nat) (w : World) (e : Ending) (w' : World) : Prop :=
  ∃ (m en : Int), e = .returned (.tuple #[.int .i64 m, .int .i64 en]) ∧ w = w' ∧
    ((en = -1 ∧ szP 4 (s.data.toList.drop A) = none) ∨ ∃ (M E : Nat), m = M ∧ en = E ∧ A < E ∧ E ≤ s.size ∧ szP 4 (s.data.toList.drop A) = some (M, s.data.toList.drop E))
def RsRel (s : ByteArray) (A : Nat) (w : World) (a sh i : Value) (wr : World) : Prop :=
  ∃ (k p acc : Nat) (z : Int), k ≤ 4 ∧ Hid (p = A + k) ∧ p ≤ s.size ∧ i = .int .i64 p ∧ a = .int .i64 acc ∧ sh = .int .i64 z ∧ Hid (z = 128 ^ k) ∧ acc < 128 ^ k ∧ Hid (szQ k acc (4 - k) (s.data.toList.drop p) = szP 4 (s.data.toList.drop A)) ∧ w = wr
theorem RsEnd {a b c d : Int} (h : a = b) (k : c = d) : Ending.returned (.tuple #[.int .i64 a, .int .i64 c]) = .returned (.tuple #[.int .i64 b, .int .i64 d]) := by rw [h, k]

set_option maxRecDepth 30000 in
set_option maxHeartbeats 1000000 in
theorem size_ref (s : ByteArray) (A : Nat) (w : World) (hs : s.size ≤ 100000000) (hA : A ≤ s.size) : Calls Tryz.prog 115 #[.string s, .int .i64 A] w (RsRes s A w) := by
  have hsI : (s.size : Int) ≤ 100000000 := by omega
  have hAI : (A : Int) ≤ (s.size : Int) := by omega
  have hA0 : (0 : Int) ≤ (A : Int) := by omega
  go_enter Tryz.func115, Tryz.ntmps115
  go_wp2_with fail
  go_loopw [6, 7, 8] (RsRel s A w) (fun _ _ i _ => (A + 4) - (intOf i).toNat)
  case atStart => exact ⟨0, A, 0, 1, by omega, Lib.hid rfl, hA, rfl, rfl, rfl, Lib.hid rfl, by omega, Lib.hid (szQ_start _ _), rfl⟩
  case round =>
    obtain ⟨k, p, acc, z, hk4, hp, hps, rfl, rfl, rfl, hz, hacc, hQ, rfl⟩ := hrel
    have hp0 : (0 : Int) ≤ (p : Int) := by omega
    by_cases hlt : k < 4 ∧ p < s.size
    · obtain ⟨hl4, hls⟩ := hlt
      have hlsI : (p : Int) < (s.size : Int) := by omega
      have hl4I : (p : Int) < (A : Int) + 4 := by have := hp.out; omega
      have hdrop : s.data.toList.drop p = s[p] :: s.data.toList.drop (p + 1) := by
        rw [List.drop_eq_getElem_cons (by simpa using hls)]; rfl
      obtain ⟨c, hc⟩ : ∃ c, c = s[p] := ⟨_, rfl⟩
      have hc256 := c.toNat_lt
      have hb0 : (0 : Int) ≤ (c.toNat : Int) := by omega
      have hb1 : (c.toNat : Int) ≤ 255 := by omega
      have hQ2 := hQ.out
      rw [hdrop, ← hc] at hQ2
      have HC := Lib.hid hc
      clear hdrop hQ
      by_cases hcs : c.toNat < 128
      · have hlast := szQ_last k acc (4 - k - 1) c (s.data.toList.drop (p + 1)) hcs
        rw [show 4 - k - 1 + 1 = 4 - k by omega] at hlast
        rw [hlast] at hQ2
        obtain ⟨B, hB⟩ : ∃ B, B = acc + 128 ^ k * c.toNat := ⟨_, rfl⟩
        rw [← hB] at hQ2
        have HB := Lib.hid hB
        have hzz := hz.out
        have hlt128 : (c.toNat : Int) < 128 := by omega
        clear hlast hcs hB hz
        by_cases hc0 : c.toNat = 0
        · have hz0 : ((c.toNat : Int) == 0) = true := by rw [hc0]; rfl
          by_cases hk0 : k = 0
          · have hnA : ¬ ((A : Int) < (p : Int)) := by have := hp.out; omega
            have HQ := Lib.hid hQ2
            have HC0 := Lib.hid hc0
            clear hQ2 hc0
            subst hk0
            obtain rfl : z = 1 := hzz
            rw [hc] at hlt128 hz0 hb0 hb1
            clear hc
            go_wp2_with fail
            go_ret2
            refine ⟨_, _, rfl, rfl, .inr ⟨B, p + 1, ?_, by simp, by have := hp.out; omega, by omega, ?_⟩⟩
            · rw [HB.out, HC.out]; omega
            · rw [← HQ.out, if_neg (by omega)]
          · have hnA : (A : Int) < (p : Int) := by have := hp.out; omega
            have HQ : Hid (szP 4 (s.data.toList.drop A) = none) := Lib.hid (by rw [← hQ2, if_pos ⟨by omega, hc0⟩])
            clear hQ2 hc0
            have : k = 1 ∨ k = 2 ∨ k = 3 := by omega
            rw [hc] at hlt128 hz0 hb0 hb1
            clear hc
            rcases this with rfl | rfl | rfl
            · obtain rfl : z = 128 := hzz
              go_wp2_with fail
              go_ret2
              exact ⟨_, _, rfl, rfl, .inl ⟨rfl, HQ.out⟩⟩
            · obtain rfl : z = 16384 := hzz
              go_wp2_with fail
              go_ret2
              exact ⟨_, _, rfl, rfl, .inl ⟨rfl, HQ.out⟩⟩
            · obtain rfl : z = 2097152 := hzz
              go_wp2_with fail
              go_ret2
              exact ⟨_, _, rfl, rfl, .inl ⟨rfl, HQ.out⟩⟩
        · have hz0 : ((c.toNat : Int) == 0) = false := by simpa using hc0
          have HQ : Hid (szP 4 (s.data.toList.drop A) = some (B, s.data.toList.drop (p + 1))) := Lib.hid (by rw [← hQ2, if_neg (by omega)])
          clear hQ2 hc0
          have : k = 0 ∨ k = 1 ∨ k = 2 ∨ k = 3 := by omega
          rw [hc] at hlt128 hz0 hb0 hb1
          clear hc
          rcases this with rfl | rfl | rfl | rfl
          · obtain rfl : z = 1 := hzz
            go_wp2_with fail
            go_ret2
            refine ⟨_, _, rfl, rfl, .inr ⟨B, p + 1, ?_, by simp, by have := hp.out; omega, by omega, HQ.out⟩⟩
            rw [HB.out, HC.out]; omega
          · obtain rfl : z = 128 := hzz
            go_wp2_with fail
            go_ret2
            refine ⟨_, _, rfl, rfl, .inr ⟨B, p + 1, ?_, by simp, by have := hp.out; omega, by omega, HQ.out⟩⟩
            rw [HB.out, HC.out]; omega
          · obtain rfl : z = 16384 := hzz
            go_wp2_with fail
            go_ret2
            refine ⟨_, _, rfl, rfl, .inr ⟨B, p + 1, ?_, by simp, by have := hp.out; omega, by omega, HQ.out⟩⟩
            rw [HB.out, HC.out]; omega
          · obtain rfl : z = 2097152 := hzz
            go_wp2_with fail
            go_ret2
            refine ⟨_, _, rfl, rfl, .inr ⟨B, p + 1, ?_, by simp, by have := hp.out; omega, by omega, HQ.out⟩⟩
            rw [HB.out, HC.out]; omega
      · have hge : ¬ ((c.toNat : Int) < 128) := by omega
        have hstep := szQ_step k acc (4 - k - 1) c (s.data.toList.drop (p + 1)) (by omega)
        rw [show 4 - k - 1 + 1 = 4 - k by omega] at hstep
        rw [hstep] at hQ2
        obtain ⟨B, hB⟩ : ∃ B, B = acc + 128 ^ k * (c.toNat % 128) := ⟨_, rfl⟩
        rw [← hB] at hQ2
        have HB := Lib.hid hB
        have HQ := Lib.hid hQ2
        have hzz := hz.out
        clear hstep hcs hB hQ2 hz
        have : k = 0 ∨ k = 1 ∨ k = 2 ∨ k = 3 := by omega
        rw [hc] at hge hb0 hb1
        clear hc
        rcases this with rfl | rfl | rfl | rfl
        · obtain rfl : z = 1 := hzz
          go_wp2_with fail
          go_roundw
          case rel => exact ⟨1, p + 1, B, 128, by omega, Lib.hid (by have := hp.out; omega), by omega, by simp, by congr 1; have := HB.out; rw [HC.out] at this; omega, rfl, Lib.hid rfl, by have := HB.out; omega, HQ, rfl⟩
          case measure => rw [intOf_int, intOf_int]; have := hp.out; omega
        · obtain rfl : z = 128 := hzz
          go_wp2_with fail
          go_roundw
          case rel => exact ⟨2, p + 1, B, 16384, by omega, Lib.hid (by have := hp.out; omega), by omega, by simp, by congr 1; have := HB.out; rw [HC.out] at this; omega, rfl, Lib.hid rfl, by have := HB.out; omega, HQ, rfl⟩
          case measure => rw [intOf_int, intOf_int]; have := hp.out; omega
        · obtain rfl : z = 16384 := hzz
          go_wp2_with fail
          go_roundw
          case rel => exact ⟨3, p + 1, B, 2097152, by omega, Lib.hid (by have := hp.out; omega), by omega, by simp, by congr 1; have := HB.out; rw [HC.out] at this; omega, rfl, Lib.hid rfl, by have := HB.out; omega, HQ, rfl⟩
          case measure => rw [intOf_int, intOf_int]; have := hp.out; omega
        · obtain rfl : z = 2097152 := hzz
          go_wp2_with fail
          go_roundw
          case rel => exact ⟨4, p + 1, B, 268435456, by omega, Lib.hid (by have := hp.out; omega), by omega, by simp, by congr 1; have := HB.out; rw [HC.out] at this; omega, rfl, Lib.hid rfl, by have := HB.out; omega, HQ, rfl⟩
          case measure => rw [intOf_int, intOf_int]; have := hp.out; omega
    · have HN : Hid (szP 4 (s.data.toList.drop A) = none) := Lib.hid (by
        rw [← hQ.out]
        refine szQ_end _ _ _ _ ?_
        rcases Nat.lt_or_ge k 4 with h | h
        · exact .inr (List.drop_of_length_le (by simp; omega))
        · exact .inl (by omega))
      by_cases h4 : p < s.size
      · have hA4 : ¬ ((p : Int) < (A : Int) + 4) := by have := hp.out; omega
        go_wp2_with fail
        go_ret2
        exact ⟨_, _, rfl, rfl, .inl ⟨rfl, HN.out⟩⟩
      · have hps2 : ¬ ((p : Int) < (s.size : Int)) := by omega
        go_wp2_with fail
        go_ret2
        exact ⟨_, _, rfl, rfl, .inl ⟨rfl, HN.out⟩⟩
end Go.Proofs.YtmpjpaomgifpcaaGreatDoor.Cod
namespace Go.Proofs.YtmpjpaomgifpcaaGreatDoor.Cod
open Go.RowKit

/-- What the reference hands back: a node and where it ends. -/
def NRes (o : Option (Nd × List UInt8)) (s : ByteArray) (B : Nat) (w : World) (e : Ending) (w' : World) : Prop :=
  ∃ (x : Nd) (ka : Option Addr) (kn kc : Nat) (en : Int), e = .returned (.tuple #[.agg #[.int .i64 x.k, .int .u64 x.n, .string x.s, .slice ka kn kc], .int .i64 en]) ∧ Below B w w' ∧
    ((en = -1 ∧ o = none) ∨ ∃ E : Nat, en = E ∧ E ≤ s.size ∧ o = some (x, s.data.toList.drop E) ∧ KidsAt w' (fun g => B ≤ g ∧ g < w'.heap.size) x.kids (.slice ka kn kc))
def NodeOk (d : Nat) : Prop := ∀ (s : ByteArray) (A : Nat) (w : World), s.size ≤ 100000000 → A ≤ s.size → d ≤ 20 →
  Calls Tryz.prog 84 #[.string s, .int .i64 A, .int .i64 d] w (NRes (parse d (s.data.toList.drop A)) s w.heap.size w)

def zeroBlk : Obj := .cells #[.int .i64 0, .int .u64 0, .string ⟨#[]⟩, .slice none 0 0] 80 (0, 0)

theorem set4_blk {w2 : World} {g0 : Nat} {o1 o2 o3 o4 : Nat} {x1 x2 x3 x4 : Value} {B : Nat} (hb : Below B w2 w2) (hg : B ≤ g0) : Below B w2 ((((w2.setCell ⟨g0, o1, none⟩ x1).setCell ⟨g0, o2, none⟩ x2).setCell ⟨g0, o3, none⟩ x3).setCell ⟨g0, o4, none⟩ x4) :=
  (((hb.setCell hg _).setCell hg _).setCell hg _).setCell hg _

set_option maxRecDepth 30000 in
set_option maxHeartbeats 2000000 in
theorem node_none (s : ByteArray) (A d : Nat) (w : World) (h : s.size ≤ A ∨ d = 0) :
    Calls Tryz.prog 84 #[.string s, .int .i64 A, .int .i64 d] w (NRes (parse d (s.data.toList.drop A)) s w.heap.size w) := by
  have hp : Hid (parse d (s.data.toList.drop A) = none) := Lib.hid (by
    rcases h with h | h
    · rw [List.drop_of_length_le (by simpa using h)]; cases d <;> rw [parse]
    · subst h; rw [parse])
  obtain ⟨O, hO⟩ : ∃ O, parse d (s.data.toList.drop A) = O := ⟨_, rfl⟩
  rw [hO] at hp ⊢
  clear hO
  by_cases hA2 : s.size ≤ A
  · have hI : (s.size : Int) ≤ (A : Int) := by omega
    clear h
    go_enter Tryz.func84, Tryz.ntmps84
    go_wp2_with fail
    exact bodyPost_ret (v := .tuple #[nodeV 0 0 ⟨#[]⟩ (.slice none 0 0), .int .i64 (-1)]) (by simp [results, Tryz.results84, go_sem, nodeV]) rfl ⟨⟨0, 0, ⟨#[]⟩, .nil⟩, none, 0, 0, _, rfl, ((Below.refl _ w).alloc (Nat.le_refl _) _).alloc (by simp) _, .inl ⟨rfl, hp.out⟩⟩
  · have hI : ¬ (s.size : Int) ≤ (A : Int) := by omega
    have hd1 : (d : Int) < 1 := by omega
    clear h
    go_enter Tryz.func84, Tryz.ntmps84
    go_wp2_with fail
    exact bodyPost_ret (v := .tuple #[nodeV 0 0 ⟨#[]⟩ (.slice none 0 0), .int .i64 (-1)]) (by simp [results, Tryz.results84, go_sem, nodeV]) rfl ⟨⟨0, 0, ⟨#[]⟩, .nil⟩, none, 0, 0, _, rfl, ((Below.refl _ w).alloc (Nat.le_refl _) _).alloc (by simp) _, .inl ⟨rfl, hp.out⟩⟩

theorem size_some (s : ByteArray) (a : Int) (A m E : Nat) (w : World) (ha : a = (A : Int)) (hs : s.size ≤ 100000000) (hA : A ≤ s.size) (hE : E ≤ s.size) (hz : szP 4 (s.data.toList.drop A) = some (m, s.data.toList.drop E)) :
    Calls Tryz.prog 115 #[.string s, .int .i64 a] w fun e w' => e = .returned (.tuple #[.int .i64 m, .int .i64 E]) ∧ w = w' := by
  subst ha
  refine (size_ref s A w hs hA).mono ?_
  rintro e w' ⟨m', en, rfl, rfl, ⟨_, h⟩ | ⟨M, E', rfl, rfl, _, hE', h⟩⟩
  · rw [h] at hz; cases hz
  · rw [h] at hz
    have h1 := Option.some.inj hz
    have h2 : M = m := congrArg Prod.fst h1
    have h3 : (s.data.toList.drop E').length = (s.data.toList.drop E).length := congrArg (fun p => p.2.length) h1
    simp at h3
    obtain rfl : E' = E := by omega
    rw [h2]; exact ⟨rfl, rfl⟩
theorem size_none (s : ByteArray) (a : Int) (A : Nat) (w : World) (ha : a = (A : Int)) (hs : s.size ≤ 100000000) (hA : A ≤ s.size) (hz : szP 4 (s.data.toList.drop A) = none) :
    Calls Tryz.prog 115 #[.string s, .int .i64 a] w fun e w' => ∃ m : Int, e = .returned (.tuple #[.int .i64 m, .int .i64 (-1)]) ∧ w = w' := by
  subst ha
  refine (size_ref s A w hs hA).mono ?_
  rintro e w' ⟨m', en, rfl, rfl, ⟨h0, h⟩ | ⟨M, E', rfl, rfl, _, hE', h⟩⟩
  · rw [h0]; exact ⟨m', rfl, rfl⟩
  · rw [h] at hz; cases hz
/-- Two blocks of zero nodes. -/
def two (w : World) : World := (w.alloc (.cells #[.int .i64 0, .int .u64 0, .string ⟨#[]⟩, .slice none 0 0] 80)).alloc (.cells #[.int .i64 0, .int .u64 0, .string ⟨#[]⟩, .slice none 0 0] 80)
theorem two_below (w : World) : Below w.heap.size w (two w) := ((Below.refl _ w).alloc (Nat.le_refl _) _).alloc (by simp) _

def numO (o : Option (Int × List UInt8)) : Option (Nd × List UInt8) := match o with | none => none | some (n, t) => some (⟨0, n, ⟨#[]⟩, .nil⟩, t)
def txtO (o : Option (ByteArray × List UInt8)) : Option (Nd × List UInt8) := match o with | none => none | some (q, t) => some (⟨1, 0, q, .nil⟩, t)

def NnRel (l : List UInt8) (m : Nat) (w1 : World) (a i : Value) (wr : World) : Prop :=
  ∃ (k : Nat) (x : Int), k ≤ m ∧ i = .int .i64 k ∧ a = .int .u64 x ∧ Hid (x = (valB (l.take k) : Int)) ∧ w1 = wr

set_option maxRecDepth 30000 in
set_option maxHeartbeats 2000000 in
theorem node_num (s : ByteArray) (A d E m : Nat) (w : World) (hs : s.size ≤ 100000000) (hA : A < s.size) (hE : E ≤ s.size) (hm : Lim m) (hc : s[A].toNat = 110)
    (hz : szP 4 (s.data.toList.drop (A + 1)) = some (m, s.data.toList.drop E)) :
    Calls Tryz.prog 84 #[.string s, .int .i64 A, .int .i64 ((d + 1 : Nat) : Int)] w
      (NRes (numO (numP m (s.data.toList.drop E))) s w.heap.size w) := by
  have hsI : (s.size : Int) ≤ 100000000 := by omega
  have hAI : ¬ ((s.size : Int) ≤ (A : Int)) := by omega
  have hAs : (A : Int) ≤ 100000000 := by omega
  have hA1 : (0 : Int) ≤ (A : Int) := by omega
  have hdI : ¬ (((d + 1 : Nat) : Int) < 1) := by omega
  obtain ⟨dd, hdd⟩ : ∃ dd : Int, dd = ((d + 1 : Nat) : Int) := ⟨_, rfl⟩
  rw [← hdd] at hdI ⊢
  have hcall := Lib.hid (size_some s ((A : Int) + 1) (A + 1) m E (two w) (by omega) hs (by omega) hE hz)
  have hce : ((s[A].toNat : Int) == 110) = true := by rw [hc]; rfl
  have hEI : (E : Int) ≤ (s.size : Int) := by omega
  have hE0 : (0 : Int) ≤ (E : Int) := by omega
  have hm0 : (0 : Int) ≤ (m : Int) := by omega
  have hmI : (m : Int) ≤ 268435456 := by unfold Lim at hm; omega
  obtain ⟨O, hO⟩ : ∃ O, numO (numP m (s.data.toList.drop E)) = O := ⟨_, rfl⟩
  have HO := Lib.hid hO
  have HM := Lib.hid hm
  rw [hO]
  clear hc hz hdd hO hm
  unfold two at hcall
  by_cases h8 : 8 < m
  · have hp : Hid (O = none) := Lib.hid (by rw [← HO.out, numP, if_pos (.inl h8)]; rfl)
    have h8' : (8 : Int) < (m : Int) := by omega
    go_enter Tryz.func84, Tryz.ntmps84
    go_wp2_with fail
    refine hcall.out.mono ?_
    rintro e w1 ⟨rfl, rfl⟩
    go_wp2_with fail
    exact bodyPost_ret (v := .tuple #[nodeV 0 0 ⟨#[]⟩ (.slice none 0 0), .int .i64 (-1)]) (by simp [results, Tryz.results84, go_sem, nodeV]) rfl ⟨⟨0, 0, ⟨#[]⟩, .nil⟩, none, 0, 0, _, rfl, two_below w, .inl ⟨rfl, hp.out⟩⟩
  have h8' : ¬ (8 : Int) < (m : Int) := by omega
  by_cases hl : s.size < E + m
  · have hp : Hid (O = none) := Lib.hid (by rw [← HO.out, numP, if_pos (.inr (.inl (by simp; omega)))]; rfl)
    have hl' : (s.size : Int) < (E : Int) + (m : Int) := by omega
    go_enter Tryz.func84, Tryz.ntmps84
    go_wp2_with fail
    refine hcall.out.mono ?_
    rintro e w1 ⟨rfl, rfl⟩
    go_wp2_with fail
    exact bodyPost_ret (v := .tuple #[nodeV 0 0 ⟨#[]⟩ (.slice none 0 0), .int .i64 (-1)]) (by simp [results, Tryz.results84, go_sem, nodeV]) rfl ⟨⟨0, 0, ⟨#[]⟩, .nil⟩, none, 0, 0, _, rfl, two_below w, .inl ⟨rfl, hp.out⟩⟩
  have hl' : ¬ (s.size : Int) < (E : Int) + (m : Int) := by omega
  by_cases hz0 : 0 < m ∧ (s.data.toList.drop E).head? = some 0
  · have hp : Hid (O = none) := Lib.hid (by rw [← HO.out, numP, if_pos (.inr (.inr hz0))]; rfl)
    obtain ⟨h0, hh⟩ := hz0
    have h00 : E < s.size := by omega
    have hs0 : s[E].toNat = 0 := by
      rw [List.drop_eq_getElem_cons (by simpa using h00)] at hh
      have := Option.some.inj hh
      have h2 : s[E] = 0 := this
      rw [h2]; rfl
    have hs0' : ((s[E].toNat : Int) == 0) = true := by rw [hs0]; rfl
    have hs0n : (s[E].toNat == 0) = true := by rw [hs0]; rfl
    have h0' : (0 : Int) < (m : Int) := by omega
    have h00I : (E : Int) < (s.size : Int) := by omega
    clear hs0 hh
    go_enter Tryz.func84, Tryz.ntmps84
    go_wp2_with fail
    refine hcall.out.mono ?_
    rintro e w1 ⟨rfl, rfl⟩
    go_wp2_with fail
    exact bodyPost_ret (v := .tuple #[nodeV 0 0 ⟨#[]⟩ (.slice none 0 0), .int .i64 (-1)]) (by simp [results, Tryz.results84, go_sem, nodeV]) rfl ⟨⟨0, 0, ⟨#[]⟩, .nil⟩, none, 0, 0, _, rfl, two_below w, .inl ⟨rfl, hp.out⟩⟩
  have hp : Hid (O = some (⟨0, (valB ((s.data.toList.drop E).take m) : Int), ⟨#[]⟩, .nil⟩, s.data.toList.drop (E + m))) := Lib.hid (by
    rw [← HO.out, numP, if_neg (by simp; exact ⟨by omega, by omega, by simpa using hz0⟩), List.drop_drop]; rfl)
  by_cases h0 : 0 < m
  · have h00 : E < s.size := by omega
    have hs0 : s[E].toNat ≠ 0 := by
      intro h
      apply hz0
      refine ⟨h0, ?_⟩
      rw [List.drop_eq_getElem_cons (by simpa using h00)]
      have : s[E] = 0 := UInt8.toNat_inj.1 h
      exact congrArg some this
    have hs0' : ((s[E].toNat : Int) == 0) = false := by simpa using hs0
    have hs0n : (s[E].toNat == 0) = false := by simpa using hs0
    have h0' : (0 : Int) < (m : Int) := by omega
    have h00I : (E : Int) < (s.size : Int) := by omega
    clear hz0 hs0
    go_enter Tryz.func84, Tryz.ntmps84
    go_wp2_with fail
    refine hcall.out.mono ?_
    rintro e w1 ⟨rfl, rfl⟩
    go_wp2_with fail
    go_loopw [11, 12] (NnRel (s.data.toList.drop E) m (two w)) (fun _ i _ => m - (intOf i).toNat)
    case atStart => exact ⟨0, 0, by omega, rfl, rfl, Lib.hid (by simp [valB]), rfl⟩
    case round =>
      obtain ⟨k, x, hk, rfl, rfl, hx, hw⟩ := hrel
      subst hw
      unfold two
      by_cases hlt : k < m
      · have hk0 : (0 : Int) ≤ (k : Int) := by omega
        have hks : E + k < s.size := by omega
        have hksI : (E : Int) + (k : Int) < (s.size : Int) := by omega
        have hEk : ((E : Int) + (k : Int)).toNat = E + k := by omega
        have hb0 : (0 : Int) ≤ ((s[E + k]'(by omega)).toNat : Int) := by omega
        have hb1 : ((s[E + k]'(by omega)).toNat : Int) ≤ 255 := by have := (s[E + k]'(by omega)).toNat_lt; omega
        have hv := valB_lt ((s.data.toList.drop E).take k)
        have hvs : Hid (valB ((s.data.toList.drop E).take (k + 1)) = valB ((s.data.toList.drop E).take k) * 256 + s[E + k].toNat) := Lib.hid (by
          rw [List.take_succ_eq_append_getElem (by simp; omega), valB_snoc, List.getElem_drop]; rfl)
        have hpw : 256 ^ ((s.data.toList.drop E).take k).length ≤ 256 ^ 7 := Nat.pow_le_pow_right (by decide) (by simp; omega)
        have h7 : (256 : Nat) ^ 7 = 72057594037927936 := by decide
        obtain ⟨V, hV⟩ : ∃ V, V = valB ((s.data.toList.drop E).take k) := ⟨_, rfl⟩
        have hxV : x = (V : Int) := by rw [hx.out, hV]
        have x0 : 0 ≤ x := by omega
        have x1 : x < 72057594037927936 := by omega
        have HV := Lib.hid hV
        have HXV := Lib.hid hxV
        clear hV hxV hv hpw h7
        go_wp2_with fail
        go_roundw
        case rel => exact ⟨k + 1, x * 256 + (s[E + k].toNat : Int), by omega, by go_num, rfl, Lib.hid (by rw [hvs.out, HXV.out, HV.out]; simp), rfl⟩
        case measure => rw [intOf_int, intOf_int]; omega
      · obtain rfl : m = k := by omega
        go_wp2_with fail
        refine bodyPost_ret (v := .tuple #[nodeV 0 x ⟨#[]⟩ (.slice none 0 0), .int .i64 ((E : Int) + (m : Int))]) (by simp [results, Tryz.results84, go_sem, nodeV]) rfl ⟨⟨0, x, ⟨#[]⟩, .nil⟩, none, 0, 0, _, rfl, ?_, .inr ⟨E + m, by simp, by omega, by rw [hp.out, hx.out], .inl ⟨rfl, rfl⟩⟩⟩
        exact ((Below.refl _ w).alloc (Nat.le_refl _) _).alloc (by simp) _
  · have h0' : ¬ (0 : Int) < (m : Int) := by omega
    have h0d : decide ((0 : Int) < (m : Int)) = false := by simpa using h0'
    clear hz0 h0
    go_enter Tryz.func84, Tryz.ntmps84
    go_wp2_with fail
    refine hcall.out.mono ?_
    rintro e w1 ⟨rfl, rfl⟩
    go_wp2_with fail
    go_loopw [11, 12] (NnRel (s.data.toList.drop E) m (two w)) (fun _ i _ => m - (intOf i).toNat)
    case atStart => exact ⟨0, 0, by omega, rfl, rfl, Lib.hid (by simp [valB]), rfl⟩
    case round =>
      obtain ⟨k, x, hk, rfl, rfl, hx, hw⟩ := hrel
      subst hw
      unfold two
      by_cases hlt : k < m
      · exfalso; omega
      · obtain rfl : m = k := by omega
        go_wp2_with fail
        refine bodyPost_ret (v := .tuple #[nodeV 0 x ⟨#[]⟩ (.slice none 0 0), .int .i64 ((E : Int) + (m : Int))]) (by simp [results, Tryz.results84, go_sem, nodeV]) rfl ⟨⟨0, x, ⟨#[]⟩, .nil⟩, none, 0, 0, _, rfl, ?_, .inr ⟨E + m, by simp, by omega, by rw [hp.out, hx.out], .inl ⟨rfl, rfl⟩⟩⟩
        exact ((Below.refl _ w).alloc (Nat.le_refl _) _).alloc (by simp) _
end Go.Proofs.YtmpjpaomgifpcaaGreatDoor.Cod
namespace Go.Proofs.YtmpjpaomgifpcaaGreatDoor.Cod
open Go.RowKit

set_option maxRecDepth 30000 in
set_option maxHeartbeats 2000000 in
theorem node_txt (s : ByteArray) (A d E m : Nat) (w : World) (hs : s.size ≤ 100000000) (hA : A < s.size) (hE : E ≤ s.size) (hm : Lim m) (hc : s[A].toNat = 115)
    (hz : szP 4 (s.data.toList.drop (A + 1)) = some (m, s.data.toList.drop E)) :
    Calls Tryz.prog 84 #[.string s, .int .i64 A, .int .i64 ((d + 1 : Nat) : Int)] w
      (NRes (txtO (txtP m (s.data.toList.drop E))) s w.heap.size w) := by
  have hsI : (s.size : Int) ≤ 100000000 := by omega
  have hAI : ¬ ((s.size : Int) ≤ (A : Int)) := by omega
  have hAs : (A : Int) ≤ 100000000 := by omega
  have hA1 : (0 : Int) ≤ (A : Int) := by omega
  have hdI : ¬ (((d + 1 : Nat) : Int) < 1) := by omega
  obtain ⟨dd, hdd⟩ : ∃ dd : Int, dd = ((d + 1 : Nat) : Int) := ⟨_, rfl⟩
  rw [← hdd] at hdI ⊢
  have hcall := Lib.hid (size_some s ((A : Int) + 1) (A + 1) m E (two w) (by omega) hs (by omega) hE hz)
  have hce : ((s[A].toNat : Int) == 110) = false := by rw [hc]; rfl
  have hce2 : ((s[A].toNat : Int) == 115) = true := by rw [hc]; rfl
  clear hc
  obtain ⟨O, hO⟩ : ∃ O, txtO (txtP m (s.data.toList.drop E)) = O := ⟨_, rfl⟩
  have HO := Lib.hid hO
  rw [hO]
  clear hO
  have hEI : (E : Int) ≤ (s.size : Int) := by omega
  have hE0 : (0 : Int) ≤ (E : Int) := by omega
  have hm0 : (0 : Int) ≤ (m : Int) := by omega
  have hmI : (m : Int) ≤ 268435456 := by unfold Lim at hm; omega
  have HM := Lib.hid hm
  have HDD := Lib.hid hdd
  clear hz hdd hm
  unfold two at hcall
  by_cases hl : s.size < E + m
  · have hp : Hid (O = none) := Lib.hid (by rw [← HO.out, txtP, if_pos (by simp; omega)]; rfl)
    have hl' : (s.size : Int) < (E : Int) + (m : Int) := by omega
    go_enter Tryz.func84, Tryz.ntmps84
    go_wp2_with fail
    refine hcall.out.mono ?_
    rintro e w1 ⟨rfl, rfl⟩
    go_wp2_with fail
    exact bodyPost_ret (v := .tuple #[nodeV 0 0 ⟨#[]⟩ (.slice none 0 0), .int .i64 (-1)]) (by simp [results, Tryz.results84, go_sem, nodeV]) rfl ⟨⟨0, 0, ⟨#[]⟩, .nil⟩, none, 0, 0, _, rfl, two_below w, .inl ⟨rfl, hp.out⟩⟩
  · have hl' : ¬ (s.size : Int) < (E : Int) + (m : Int) := by omega
    have hl2 : (E : Int) + (m : Int) ≤ (s.size : Int) := by omega
    have hl3 : (E : Int) ≤ (E : Int) + (m : Int) := by omega
    have hp : Hid (O = some (⟨1, 0, s.extract E (E + m), .nil⟩, s.data.toList.drop (E + m))) := Lib.hid (by
      have e1 : (⟨((s.data.toList.drop E).take m).toArray⟩ : ByteArray) = s.extract E (E + m) := by
        apply ByteArray.ext
        apply Array.ext'
        simp [List.extract_eq_take_drop]
      rw [← HO.out, txtP, if_neg (by simp; omega), e1, List.drop_drop]; rfl)
    go_enter Tryz.func84, Tryz.ntmps84
    go_wp2_with fail
    refine hcall.out.mono ?_
    rintro e w1 ⟨rfl, rfl⟩
    go_wp2_with fail
    refine bodyPost_ret (v := .tuple #[nodeV 1 0 (s.extract E (E + m)) (.slice none 0 0), .int .i64 ((E : Int) + (m : Int))]) (by simp [results, Tryz.results84, go_sem, nodeV]) rfl ⟨⟨1, 0, s.extract E (E + m), .nil⟩, none, 0, 0, _, rfl, ?_, .inr ⟨E + m, by simp, by omega, hp.out, .inl ⟨rfl, rfl⟩⟩⟩
    exact ((Below.refl _ w).alloc (Nat.le_refl _) _).alloc (by simp) _

set_option maxRecDepth 30000 in
set_option maxHeartbeats 2000000 in
theorem node_oth (s : ByteArray) (A d E m : Nat) (w : World) (hs : s.size ≤ 100000000) (hA : A < s.size) (hE : E ≤ s.size) (hm : Lim m) (hc1 : s[A].toNat ≠ 110) (hc2 : s[A].toNat ≠ 115) (hc3 : s[A].toNat ≠ 108)
    (hz : szP 4 (s.data.toList.drop (A + 1)) = some (m, s.data.toList.drop E)) :
    Calls Tryz.prog 84 #[.string s, .int .i64 A, .int .i64 ((d + 1 : Nat) : Int)] w
      (NRes (none) s w.heap.size w) := by
  have hsI : (s.size : Int) ≤ 100000000 := by omega
  have hAI : ¬ ((s.size : Int) ≤ (A : Int)) := by omega
  have hAs : (A : Int) ≤ 100000000 := by omega
  have hA1 : (0 : Int) ≤ (A : Int) := by omega
  have hdI : ¬ (((d + 1 : Nat) : Int) < 1) := by omega
  obtain ⟨dd, hdd⟩ : ∃ dd : Int, dd = ((d + 1 : Nat) : Int) := ⟨_, rfl⟩
  rw [← hdd] at hdI ⊢
  have hcall := Lib.hid (size_some s ((A : Int) + 1) (A + 1) m E (two w) (by omega) hs (by omega) hE hz)
  have hce : ((s[A].toNat : Int) == 110) = false := by simp; omega
  have hce2 : ((s[A].toNat : Int) == 115) = false := by simp; omega
  have hce3 : ((s[A].toNat : Int) == 108) = false := by simp; omega
  clear hc1 hc2 hc3
  have hEI : (E : Int) ≤ (s.size : Int) := by omega
  have hE0 : (0 : Int) ≤ (E : Int) := by omega
  have hm0 : (0 : Int) ≤ (m : Int) := by omega
  have hmI : (m : Int) ≤ 268435456 := by unfold Lim at hm; omega
  have HM := Lib.hid hm
  have HDD := Lib.hid hdd
  clear hz hdd hm
  unfold two at hcall
  go_enter Tryz.func84, Tryz.ntmps84
  go_wp2_with fail
  refine hcall.out.mono ?_
  rintro e w1 ⟨rfl, rfl⟩
  go_wp2_with fail
  exact bodyPost_ret (v := .tuple #[nodeV 0 0 ⟨#[]⟩ (.slice none 0 0), .int .i64 (-1)]) (by simp [results, Tryz.results84, go_sem, nodeV]) rfl ⟨⟨0, 0, ⟨#[]⟩, .nil⟩, none, 0, 0, _, rfl, two_below w, .inl ⟨rfl, rfl⟩⟩

set_option maxRecDepth 30000 in
set_option maxHeartbeats 2000000 in
theorem node_nosize (s : ByteArray) (A d : Nat) (w : World) (hs : s.size ≤ 100000000) (hA : A < s.size) (hz : szP 4 (s.data.toList.drop (A + 1)) = none) :
    Calls Tryz.prog 84 #[.string s, .int .i64 A, .int .i64 ((d + 1 : Nat) : Int)] w (NRes none s w.heap.size w) := by
  have hsI : (s.size : Int) ≤ 100000000 := by omega
  have hAI : ¬ ((s.size : Int) ≤ (A : Int)) := by omega
  have hAs : (A : Int) ≤ 100000000 := by omega
  have hA1 : (0 : Int) ≤ (A : Int) := by omega
  have hdI : ¬ (((d + 1 : Nat) : Int) < 1) := by omega
  obtain ⟨dd, hdd⟩ : ∃ dd : Int, dd = ((d + 1 : Nat) : Int) := ⟨_, rfl⟩
  rw [← hdd] at hdI ⊢
  have hcall := Lib.hid (size_none s ((A : Int) + 1) (A + 1) (two w) (by omega) hs (by omega) hz)
  clear hz hdd
  unfold two at hcall
  go_enter Tryz.func84, Tryz.ntmps84
  go_wp2_with fail
  refine hcall.out.mono ?_
  rintro e w1 ⟨m, rfl, rfl⟩
  go_wp2_with fail
  exact bodyPost_ret (v := .tuple #[nodeV 0 0 ⟨#[]⟩ (.slice none 0 0), .int .i64 (-1)]) (by simp [results, Tryz.results84, go_sem, nodeV]) rfl ⟨⟨0, 0, ⟨#[]⟩, .nil⟩, none, 0, 0, _, rfl, two_below w, .inl ⟨rfl, rfl⟩⟩
end Go.Proofs.YtmpjpaomgifpcaaGreatDoor.Cod
namespace Go.Proofs.YtmpjpaomgifpcaaGreatDoor.Cod
open Go.RowKit

theorem heap_alloc3 (w : World) (o1 o2 o3 : Obj) : (((w.alloc o1).alloc o2).alloc o3).heap[w.heap.size + 2]? = some o3 := by
  have := heap_alloc_new ((w.alloc o1).alloc o2) o3
  simpa using this

def NkRel (s : ByteArray) (d m : Nat) (O : Option (F × List UInt8)) (w : World) (s10 s14 : Value) (wr : World) : Prop :=
  ∃ (i P : Nat) (f : F) (v : Value) (cs : List Value), s10 = .int .i64 P ∧ s14 = .int .i64 i ∧ i ≤ m ∧ P ≤ s.size ∧ Hid (O = restO f (kidsP (parse d) (m - i) (s.data.toList.drop P))) ∧ f.len ≤ P ∧
    Hid (wr.heap[w.heap.size]? = some (.cells #[.int .i64 0, .int .u64 0, .string ⟨#[]⟩, .slice none 0 0] 80 (0, 0))) ∧
    Hid (wr.heap[w.heap.size + 1]? = some (.cells #[.int .i64 0, .int .u64 0, .string ⟨#[]⟩, .slice none 0 0] 80 (0, 0))) ∧
    Hid (wr.heap[w.heap.size + 1 + 1]? = some (.cells #[.int .i64 2, .int .u64 0, .string ⟨#[]⟩, v] 80 (0, 0))) ∧
    Hid (wr.ownsRow (w.heap.size + 3) 80 4 v f.len cs) ∧ Hid (CellsOf wr (fun b => w.heap.size + 3 ≤ b ∧ b < wr.heap.size ∧ v.ownBlock ≠ some b) f cs) ∧ Below w.heap.size w wr ∧ w.heap.size + 3 ≤ wr.heap.size

theorem nd_keep {X : World} {P : Program} {f : FuncId} {args : Array Value} {o : Option (Nd × List UInt8)} {s : ByteArray} (g : Nat) {ob : Obj} (h : X.heap[g]? = some ob) (g2 : Nat) {ob2 : Obj} (h2 : X.heap[g2]? = some ob2) (hc : Calls P f args X (NRes o s X.heap.size X)) :
    Calls P f args X fun e w' => ∃ (x : Nd) (ka : Option Addr) (kn kc : Nat) (en : Int), e = .returned (.tuple #[.agg #[.int .i64 x.k, .int .u64 x.n, .string x.s, .slice ka kn kc], .int .i64 en]) ∧ Below X.heap.size X w' ∧
    ((en = -1 ∧ o = none) ∨ ∃ E : Nat, en = E ∧ E ≤ s.size ∧ o = some (x, s.data.toList.drop E) ∧ KidsAt w' (fun g => X.heap.size ≤ g ∧ g < w'.heap.size) x.kids (.slice ka kn kc)) ∧ w'.heap[g]? = some ob ∧ w'.heap[g2]? = some ob2 :=
  hc.mono fun _ _ ⟨x, ka, kn, kc, en, he, hb, h1⟩ => ⟨x, ka, kn, kc, en, he, hb, h1, block_kept h ((Array.getElem?_eq_some_iff.1 h).1) hb, block_kept h2 ((Array.getElem?_eq_some_iff.1 h2).1) hb⟩

set_option maxRecDepth 30000 in
set_option maxHeartbeats 2000000 in
theorem node_list (s : ByteArray) (A d E m : Nat) (w : World) (hs : s.size ≤ 100000000) (hd : d < 20) (hA : A < s.size) (hE : E ≤ s.size) (hm : Lim m) (hc : s[A].toNat = 108) (HN : NodeOk d)
    (hz : szP 4 (s.data.toList.drop (A + 1)) = some (m, s.data.toList.drop E)) :
    Calls Tryz.prog 84 #[.string s, .int .i64 A, .int .i64 ((d + 1 : Nat) : Int)] w
      (NRes (kidsO (kidsP (parse d) m (s.data.toList.drop E))) s w.heap.size w) := by
  have hsI : (s.size : Int) ≤ 100000000 := by omega
  have hAI : ¬ ((s.size : Int) ≤ (A : Int)) := by omega
  have hAs : (A : Int) ≤ 100000000 := by omega
  have hA1 : (0 : Int) ≤ (A : Int) := by omega
  have hdI : ¬ (((d + 1 : Nat) : Int) < 1) := by omega
  obtain ⟨dd, hdd⟩ : ∃ dd : Int, dd = ((d + 1 : Nat) : Int) := ⟨_, rfl⟩
  rw [← hdd] at hdI ⊢
  have hcall := Lib.hid (size_some s ((A : Int) + 1) (A + 1) m E (two w) (by omega) hs (by omega) hE hz)
  have hce : ((s[A].toNat : Int) == 110) = false := by rw [hc]; rfl
  have hce2 : ((s[A].toNat : Int) == 115) = false := by rw [hc]; rfl
  have hce3 : ((s[A].toNat : Int) == 108) = true := by rw [hc]; rfl
  have HNO := Lib.hid HN
  clear HN
  clear hc
  obtain ⟨O, hO⟩ : ∃ O, kidsP (parse d) m (s.data.toList.drop E) = O := ⟨_, rfl⟩
  have HO := Lib.hid hO
  rw [hO]
  clear hO
  have hEI : (E : Int) ≤ (s.size : Int) := by omega
  have hE0 : (0 : Int) ≤ (E : Int) := by omega
  have hm0 : (0 : Int) ≤ (m : Int) := by omega
  have hmI : (m : Int) ≤ 268435456 := by unfold Lim at hm; omega
  have HM := Lib.hid hm
  have HDD := Lib.hid hdd
  clear hz hdd hm
  unfold two at hcall
  go_enter Tryz.func84, Tryz.ntmps84
  go_wp2_with fail
  refine hcall.out.mono ?_
  rintro e w1 ⟨rfl, rfl⟩
  clear hcall
  go_wp2_with fail
  go_loopw [10, 14] (NkRel s d m O w) (fun _ i _ => m - (intOf i).toNat)
  case atStart =>
    refine ⟨0, E, .nil, .slice none 0 0, [], rfl, rfl, by omega, hE, Lib.hid ?_, by simp [F.len], Lib.hid ?_, Lib.hid ?_, Lib.hid ?_, Lib.hid ?_, Lib.hid ?_, ?_, ?_⟩
    · rw [restO_nil]; exact HO.out.symm
    · rw [Below.heap_alloc _ _ _ (by simp; omega), Below.heap_alloc _ _ _ (by simp)]; exact heap_alloc_new w _
    · rw [Below.heap_alloc _ _ _ (by simp)]; exact heap_alloc2 w _ _
    · exact heap_alloc3 w _ _ _
    · exact World.ownsRow_nil _ _ _ _
    · exact rfl
    · exact (((Below.refl _ w).alloc (Nat.le_refl _) _).alloc (by simp) _).alloc (by simp; omega) _
    · simp
  case round =>
    obtain ⟨i, P, f, v, cs, rfl, rfl, hi, hP, hZ, hfl, hz6, hz8, hz9, hown, hcs, hb, hsz⟩ := hrel
    by_cases hlt : i < m
    · have hi0 : (0 : Int) ≤ (i : Int) := by omega
      have hi1 : (i : Int) ≤ 268435456 := by omega
      have hdd1 : dd - 1 = (d : Int) := by have := HDD.out; omega
      have hddw : wrap64 (dd - 1) = (d : Int) := by rw [hdd1]; exact IntWalk.wrap64_in _ (by omega)
      have hddw2 : IntKind.i64.wrap (dd - 1) = (d : Int) := by rw [hdd1]; exact IntWalk.i64_in _ (by omega)
      have hcall := Lib.hid (nd_keep w.heap.size hz6.out (w.heap.size + 1) hz8.out (HNO.out s P wr hs hP (by omega)))
      go_wp2_with fail
      refine hcall.out.mono ?_
      rintro e w4 ⟨x, ka, kn, kc, en, rfl, hb4, h1, hk6, hk8⟩
      obtain ⟨c0, c1, c2, c3, f0, f1, f2, f3⟩ := block4 hk6
      obtain ⟨a0, a1, a2, a3, _, _, _, _⟩ := block4 hk8
      have hlt6 : w.heap.size < w4.heap.size := by have := hb4.size; omega
      have hlt8 : w.heap.size + 1 < w4.heap.size := by have := hb4.size; omega
      clear hcall
      rcases h1 with ⟨rfl, hn⟩ | ⟨E', rfl, hE', hp, hkid⟩
      · have hO2 : Hid (kidsO O = none) := Lib.hid (by rw [hZ.out, show m - i = (m - i - 1) + 1 by omega, restO_none _ _ _ _ hn]; rfl)
        clear hn hk6 hk8
        go_wp2_with fail
        refine bodyPost_ret (v := .tuple #[nodeV 0 0 ⟨#[]⟩ (.slice none 0 0), .int .i64 (-1)]) (by simp [results, Tryz.results84, go_sem, nodeV, c0, c1, c2, c3, hlt6]) rfl ⟨⟨0, 0, ⟨#[]⟩, .nil⟩, none, 0, 0, _, rfl, ?_, .inl ⟨rfl, hO2.out⟩⟩
        have hbb := hb.trans (hb4.mono hb.size)
        exact ((((hbb.setCell (Nat.le_refl _) _).setCell (Nat.le_refl _) _).setCell (Nat.le_refl _) _).setCell (Nat.le_refl _) _).alloc (by simp only [size_setCell]; omega) _
      · have hO2 : Hid (O = restO (f.app (.cons x.k x.n x.s x.kids .nil)) (kidsP (parse d) (m - (i + 1)) (s.data.toList.drop E'))) := Lib.hid (by rw [hZ.out, show m - i = (m - (i + 1)) + 1 by omega, restO_step _ _ _ _ _ _ hp])
        have hinv := parse_inv d _ _ _ hp
        have hrl : P + 1 ≤ E' := by
          have h1 := congrArg List.length hinv.1
          have h2 : 1 ≤ x.bytes.length := by
            unfold Nd.bytes nodeL; split
            · simp
            · split <;> simp
          simp at h1; omega
        have hz9' : Hid (w4.heap[w.heap.size + 1 + 1]? = some (.cells #[.int .i64 2, .int .u64 0, .string ⟨#[]⟩, v] 80 (0, 0))) := Lib.hid (block_kept hz9.out (by omega) hb4)
        obtain ⟨_, _, _, d3, _, _, _, _⟩ := block4 hz9'.out
        have hlt9 : w.heap.size + 1 + 1 < w4.heap.size := by have := hb4.size; omega
        have hvlt : Hid (∀ k, v.ownBlock = some k → w.heap.size + 3 ≤ k ∧ k < wr.heap.size) := Lib.hid (World.ownsRow.lt hown.out)
        have hown4 : Hid (w4.ownsRow (w.heap.size + 3) 80 4 v f.len cs) := Lib.hid (ownN_mv hown.out (fun k hk => hb4.block k (hvlt.out k hk).2))
        have HKID := Lib.hid hkid
        have HG := Lib.hid hk6
        have HG8 := Lib.hid hk8
        have hfl40 : f.len + 1 ≤ 100000000 := by omega
        have hE0' : ¬ ((E' : Int) < 0) := by omega
        have hP0' : (0 : Int) ≤ (E' : Int) := by omega
        clear hp hinv hkid hk6 hk8 c0 c1 c2 c3 f0 f1 f2 f3 a0 a1 a2 a3
        go_wp2_with (at_builtin; refine list_appN Tryz.nodeSl rfl _ _ rfl (w.heap.size + 3) v f.len cs rfl ((hown4.out.alloc _).alloc _) _ 1 1 [.int .i64 x.k, .int .u64 x.n, .string x.s, .slice ka kn kc] rfl (heap_alloc2 w4 _ _) rfl (by simp [Value.oneCell']) (by omega) (by unfold maxLen; omega) (by omega) (by simp; omega) ?_; intro g cap w6 hown6 hgr6; have hne9 : Hid (v.ownBlock ≠ some (w.heap.size + 1 + 1)) := Lib.hid (fun h => by have := hvlt.out _ h; omega); have hz96 : Hid (w6.heap[w.heap.size + 1 + 1]? = some (.cells #[.int .i64 2, .int .u64 0, .string ⟨#[]⟩, v] 80 (0, 0))) := Lib.hid (by rw [hgr6.block (by simp; omega) hne9.out, heap_old2 _ _ _ _ hlt9]; exact hz9'.out); obtain ⟨_, _, _, e3, _, _, _, q3⟩ := block4 hz96.out)
        have hb6 : Below (w.heap.size + 3) w4 w6 := ((((Below.refl _ w4).alloc (by omega) _).alloc (by simp; omega) _)).trans (hgr6.below (by simp; omega) (fun k hk => (hvlt.out k hk).1))
        have hs6 : w4.heap.size + 2 ≤ w6.heap.size := by have := hgr6.size; simpa using this
        have hgb : w.heap.size + 3 ≤ g := (World.ownsRow.lt hown6 g rfl).1
        have hgl : v.ownBlock = some g ∨ w4.heap.size + 2 ≤ g := by have := hgr6.loc g rfl; simpa using this
        have hs4 := hb4.size
        have hold : ∀ b, w.heap.size + 3 ≤ b → b < w4.heap.size → v.ownBlock ≠ some b → w6.heap[b]? = w4.heap[b]? := fun b h1 h2 h3 => by
          rw [hgr6.block (by simp; omega) h3, heap_old2 _ _ _ _ h2]
        go_roundw
        case rel =>
          refine ⟨i + 1, E', f.app (.cons x.k x.n x.s x.kids .nil), .slice (some ⟨g, 0, none⟩) (f.len + 1) cap, cs ++ [.int .i64 x.k, .int .u64 x.n, .string x.s, .slice ka kn kc], rfl, by go_num, by omega, hE', hO2, by rw [F.app_len]; simp [F.len]; omega, Lib.hid ?_, Lib.hid ?_, Lib.hid ?_, Lib.hid ?_, Lib.hid (CellsOf.snoc (s := x.s) (c := x.kids) ?_ _ cs ?_), ?_, ?_⟩
          · rw [setCell_ne _ _ _ _ _ (by omega), hb6.block _ (by omega)]; exact HG.out
          · rw [setCell_ne _ _ _ _ _ (by omega), hb6.block _ (by omega)]; exact HG8.out
          · exact heap_setCell_same w6 _ 3 _ _ _ hz96.out
          · have e1 : (f.app (.cons x.k x.n x.s x.kids .nil)).len = f.len + 1 := by rw [F.app_len]; rfl
            rw [e1]
            exact ownN_mv hown6 (fun k hk => setCell_ne _ _ _ _ _ (by have := (World.ownsRow.lt hown6 k hk).1; omega))
          · refine HKID.out.mono (fun b hb => ⟨by omega, ?_, ?_⟩) (fun b hb => ?_)
            · rw [size_setCell]; omega
            · intro h
              have hgb2 : g = b := by simpa [Value.ownBlock] using h
              rcases hgl with h1 | h1
              · have := (hvlt.out g h1).2; omega
              · omega
            · rw [setCell_ne _ _ _ _ _ (by omega)]
              exact hold b (by omega) hb.2 (fun h => by have := (hvlt.out b h).2; omega)
          · have hx : ∀ b, (w.heap.size + 3 ≤ b ∧ b < wr.heap.size ∧ v.ownBlock ≠ some b) → b < (w6.setCell ⟨w.heap.size + 1 + 1, 3, none⟩ (.slice (some ⟨g, 0, none⟩) (f.len + 1) cap)).heap.size ∧ (Value.slice (some ⟨g, 0, none⟩) (f.len + 1) cap).ownBlock ≠ some b ∧
                (w6.setCell ⟨w.heap.size + 1 + 1, 3, none⟩ (.slice (some ⟨g, 0, none⟩) (f.len + 1) cap)).heap[b]? = wr.heap[b]? := fun b hb => by
              refine ⟨by rw [size_setCell]; omega, fun h => ?_, ?_⟩
              · have hgb2 : g = b := by simpa [Value.ownBlock] using h
                rcases hgl with h1 | h1
                · exact hb.2.2 (by rw [h1, hgb2])
                · omega
              · rw [setCell_ne _ _ _ _ _ (by omega), hold b hb.1 (by omega) hb.2.2]
                exact hb4.block b hb.2.1
            exact CellsOf.mono (fun b hb => ⟨⟨hb.1, (hx b hb).1, (hx b hb).2.1⟩, (hx b hb).2.2⟩) f cs hcs.out
          · exact ((hb.trans (hb4.mono hb.size)).trans (hb6.mono (by omega))).setCell (by simp; omega) _
          · rw [size_setCell]; omega
        case measure => rw [intOf_int, intOf_int]; omega
    · obtain rfl : i = m := by omega
      obtain ⟨c0, c1, c2, c3, f0, f1, f2, f3⟩ := block4 hz6.out
      obtain ⟨d0, d1, d2, d3, _, _, _, _⟩ := block4 hz9.out
      have hO2 : Hid (O = some (f, s.data.toList.drop P)) := Lib.hid (by
        rw [hZ.out, show i - i = 0 by omega]; simp only [kidsP, restO, F.app_nil])
      obtain ⟨va, vc, hv⟩ : ∃ a c, v = .slice a f.len c := by
        rcases hown.out.2 with ⟨h1, h2⟩ | ⟨g, cap, cur, h1, _⟩
        · exact ⟨none, 0, by rw [h1, h2]⟩
        · exact ⟨_, cap, h1⟩
      subst hv
      clear hlt
      go_wp2_with fail
      refine bodyPost_ret (v := .tuple #[nodeV 2 0 ⟨#[]⟩ (.slice va f.len vc), .int .i64 P]) (by simp [results, Tryz.results84, go_sem, nodeV, c0, c1, c2, c3]) rfl ⟨⟨2, 0, ⟨#[]⟩, f⟩, va, f.len, vc, _, rfl, ?_, .inr ⟨P, rfl, hP, by rw [hO2.out]; rfl, ?_⟩⟩
      · exact (((hb.setCell (Nat.le_refl _) _).setCell (Nat.le_refl _) _).setCell (Nat.le_refl _) _).setCell (Nat.le_refl _) _
      · have hk : KidsAt wr (fun b => w.heap.size + 3 ≤ b ∧ b < wr.heap.size) f (.slice va f.len vc) := kids_of_own hown.out hcs.out (fun b hb => ⟨hb.1, hb.2.1⟩) (fun k hk => World.ownsRow.lt hown.out k hk)
        exact kids_set4 hk (by omega) (by omega)
end Go.Proofs.YtmpjpaomgifpcaaGreatDoor.Cod
namespace Go.Proofs.YtmpjpaomgifpcaaGreatDoor.Cod
open Go.RowKit

theorem node_step (d : Nat) (IH : NodeOk d) : NodeOk (d + 1) := by
  intro s A w hs hA hd
  rcases Nat.lt_or_ge A s.size with hlt | hge
  · have hdrop : s.data.toList.drop A = s[A] :: s.data.toList.drop (A + 1) := by
      rw [List.drop_eq_getElem_cons (by simpa using hlt)]; rfl
    cases hz : szP 4 (s.data.toList.drop (A + 1)) with
    | none =>
      have hp : parse (d + 1) (s.data.toList.drop A) = none := by rw [hdrop, parse, hz]
      rw [hp]
      exact node_nosize s A d w hs hlt hz
    | some p =>
      obtain ⟨m, q⟩ := p
      obtain ⟨e1, e2⟩ := szP_inv 4 _ _ _ hz
      have hq : ∃ E, E ≤ s.size ∧ q = s.data.toList.drop E := by
        have hl := congrArg List.length e1
        refine ⟨A + 1 + (szL m).length, by simp at hl; omega, ?_⟩
        rw [← List.drop_drop, e1, List.drop_left]
      obtain ⟨E, hE, rfl⟩ := hq
      have hp : parse (d + 1) (s.data.toList.drop A) = bodyP (parse d) s[A] m (s.data.toList.drop E) := by rw [hdrop, parse, hz]
      rw [hp]
      unfold bodyP
      by_cases h1 : s[A].toNat = 110
      · rw [if_pos h1]
        exact node_num s A d E m w hs hlt hE e2 h1 hz
      rw [if_neg h1]
      by_cases h2 : s[A].toNat = 115
      · rw [if_pos h2]
        exact node_txt s A d E m w hs hlt hE e2 h2 hz
      rw [if_neg h2]
      by_cases h3 : s[A].toNat = 108
      · rw [if_pos h3]
        exact node_list s A d E m w hs (by omega) hlt hE e2 h3 IH hz
      rw [if_neg h3]
      exact node_oth s A d E m w hs hlt hE e2 h1 h2 h3 hz
  · exact node_none s A (d + 1) w (.inl hge)
theorem node_ok (d : Nat) : NodeOk d := by
  induction d with
  | zero => intro s A w _ _ _; exact node_none s A 0 w (.inr rfl)
  | succ d ih => exact node_step d ih

set_option maxRecDepth 30000 in
set_option maxHeartbeats 1000000 in
theorem read_ref (s : ByteArray) (w : World) (hs : s.size ≤ 10000000) : Calls Tryz.prog 47 #[.string s] w (ReadRes (readO s.data.toList) w.heap.size w) := by
  have hsI : (s.size : Int) ≤ 10000000 := by omega
  have hblk := heap_alloc_new w (.cells #[.int .i64 0, .int .u64 0, .string ⟨#[]⟩, .slice none 0 0] 80)
  have hcall := Lib.hid (nd_keep w.heap.size hblk w.heap.size hblk (node_ok 20 s 0 (w.alloc (.cells #[.int .i64 0, .int .u64 0, .string ⟨#[]⟩, .slice none 0 0] 80)) (by omega) (by omega) (by decide)))
  obtain ⟨O, hO⟩ : ∃ O, readO s.data.toList = O := ⟨_, rfl⟩
  rw [hO]
  have HO := Lib.hid hO
  clear hO hblk
  go_enter Tryz.func47, Tryz.ntmps47
  go_wp2_with fail
  refine hcall.out.mono ?_
  rintro e w4 ⟨x, ka, kn, kc, en, rfl, hb4, h1, hk6, _⟩
  obtain ⟨c0, c1, c2, c3, f0, f1, f2, f3⟩ := block4 hk6
  have hlt6 : w.heap.size < w4.heap.size := (Array.getElem?_eq_some_iff.1 hk6).1
  have hbb : Below w.heap.size w w4 := ((Below.refl _ _).alloc (Nat.le_refl _) _).trans (hb4.mono (by simp))
  clear hcall hk6
  rcases h1 with ⟨rfl, hn⟩ | ⟨E, rfl, hE, hp, hkid⟩
  · have hO2 : Hid (O = none) := Lib.hid (by rw [← HO.out, readO]; rw [List.drop_zero] at hn; rw [hn])
    have hne : ((-1 : Int) == (s.size : Int)) = false := by simp <;> omega
    clear hn
    go_wp2_with fail
    refine bodyPost_ret (v := .tuple #[nodeV 0 0 ⟨#[]⟩ (.slice none 0 0), .bool false]) (by simp [results, Tryz.results47, go_sem, nodeV, c0, c1, c2, c3, hlt6]) rfl ⟨⟨0, 0, ⟨#[]⟩, .nil⟩, none, 0, 0, _, rfl, ?_, (fun h => by cases h), fun _ => ⟨hO2.out, rfl⟩, .inl ⟨rfl, rfl⟩⟩
    exact ((((hbb.setCell (Nat.le_refl _) _).setCell (Nat.le_refl _) _).setCell (Nat.le_refl _) _).setCell (Nat.le_refl _) _).alloc (by simp only [size_setCell]; omega) _
  · rw [List.drop_zero] at hp
    have HP := Lib.hid hp
    have HKID := Lib.hid hkid
    clear hp hkid
    by_cases h0 : E = s.size
    · have hO2 : Hid (O = some x) := Lib.hid (by
        have e1 : s.data.toList.drop E = [] := List.drop_of_length_le (by simp [h0])
        rw [← HO.out, readO, HP.out, e1])
      have hee : ((E : Int) == (s.size : Int)) = true := by simp [h0]
      have hee2 : (E : Int) = (s.size : Int) := by omega
      clear h0
      go_wp2_with fail
      refine bodyPost_ret (v := .tuple #[nodeV x.k x.n x.s (.slice ka kn kc), .bool true]) (by simp [results, Tryz.results47, go_sem, nodeV, c0, c1, c2, c3, hlt6]) rfl ⟨x, ka, kn, kc, _, rfl, ?_, fun _ => hO2.out, (fun h => by cases h), ?_⟩
      · exact ((((hbb.setCell (Nat.le_refl _) _).setCell (Nat.le_refl _) _).setCell (Nat.le_refl _) _).setCell (Nat.le_refl _) _).alloc (by simp only [size_setCell]; omega) _
      · refine (kids_set4 HKID.out (by simp) (by simp : w.heap.size ≤ _)).mono (fun b hb => ⟨hb.1, by simp at hb ⊢; omega⟩) (fun b hb => Below.heap_alloc _ _ _ hb.2)
    · have hO2 : Hid (O = none) := Lib.hid (by
        rw [← HO.out, readO, HP.out]
        have : s.data.toList.drop E ≠ [] := by intro h; have := congrArg List.length h; simp at this; omega
        cases hq : s.data.toList.drop E with
        | nil => exact absurd hq this
        | cons a l => rfl)
      have hee : ((E : Int) == (s.size : Int)) = false := by simp; omega
      clear h0
      go_wp2_with fail
      refine bodyPost_ret (v := .tuple #[nodeV 0 0 ⟨#[]⟩ (.slice none 0 0), .bool false]) (by simp [results, Tryz.results47, go_sem, nodeV, c0, c1, c2, c3, hlt6]) rfl ⟨⟨0, 0, ⟨#[]⟩, .nil⟩, none, 0, 0, _, rfl, ?_, (fun h => by cases h), fun _ => ⟨hO2.out, rfl⟩, .inl ⟨rfl, rfl⟩⟩
      exact ((((hbb.setCell (Nat.le_refl _) _).setCell (Nat.le_refl _) _).setCell (Nat.le_refl _) _).setCell (Nat.le_refl _) _).alloc (by simp only [size_setCell]; omega) _
end Go.Proofs.YtmpjpaomgifpcaaGreatDoor.Cod
