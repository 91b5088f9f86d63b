/- log: readAll: a record of all. -/
import Derived.Test.YtfocljmjejniiaaGRedo
namespace Go.Proofs.Ytfocljmjejniiaa
open Go.RowKit

def zeroCT : Value := .agg #[.int .u64 0, .int .i64 0, .int .u64 0, .int .u64 0, .string ⟨#[]⟩, .slice none 0 0]
/-- A content that was read, or none. -/
def GotCT (B : Nat) (o : Option CT) (e : Ending) (w' : World) : Prop := match o with
  | none => e = .returned (.tuple #[zeroCT, .bool false])
  | some c => ∃ v, e = .returned (.tuple #[.agg (ctC c v), .bool true]) ∧ EOwn w' B v c.ents

/-- Six cells stored one behind the other. -/
def set6 (w : World) (H : Nat) (b0 b1 b2 b3 b4 b5 : Value) : World := (((((w.setCell ⟨H, 0, none⟩ b0).setCell ⟨H, 1, none⟩ b1).setCell ⟨H, 2, none⟩ b2).setCell ⟨H, 3, none⟩ b3).setCell ⟨H, 4, none⟩ b4).setCell ⟨H, 5, none⟩ b5
theorem set6_heap {w : World} {H : Nat} {a0 a1 a2 a3 a4 a5 : Value} {ty : TypeId} (h : w.heap[H]? = some (.cells #[a0, a1, a2, a3, a4, a5] ty (0, 0))) (b0 b1 b2 b3 b4 b5 : Value) :
    (set6 w H b0 b1 b2 b3 b4 b5).heap[H]? = some (.cells #[b0, b1, b2, b3, b4, b5] ty (0, 0)) := by
  have h0 := heap_setCell_same w H 0 _ _ b0 h
  have h1 := heap_setCell_same _ H 1 _ _ b1 h0
  have h2 := heap_setCell_same _ H 2 _ _ b2 h1
  have h3 := heap_setCell_same _ H 3 _ _ b3 h2
  have h4 := heap_setCell_same _ H 4 _ _ b4 h3
  have h5 := heap_setCell_same _ H 5 _ _ b5 h4
  simpa [set6] using h5
theorem set6_below {w : World} {H B : Nat} (hB : B ≤ H) (b0 b1 b2 b3 b4 b5 : Value) : Below B w (set6 w H b0 b1 b2 b3 b4 b5) :=
  ((((((Below.refl B w).setCell hB _).setCell hB _).setCell hB _).setCell hB _).setCell hB _).setCell hB _
theorem cells6 {w : World} {H : Nat} {a0 a1 a2 a3 a4 a5 : Value} {ty : TypeId} (h : w.heap[H]? = some (.cells #[a0, a1, a2, a3, a4, a5] ty (0, 0))) :
    w.cell? ⟨H, 0, none⟩ = some a0 ∧ w.cell? ⟨H, 1, none⟩ = some a1 ∧ w.cell? ⟨H, 2, none⟩ = some a2 ∧ w.cell? ⟨H, 3, none⟩ = some a3 ∧ w.cell? ⟨H, 4, none⟩ = some a4 ∧ w.cell? ⟨H, 5, none⟩ = some a5 := by
  simp [World.cell?, h]

set_option maxHeartbeats 8000000 in
set_option maxRecDepth 100000 in
theorem readAll_prog (body : ByteArray) (w : World) (hb : body.size ≤ 90000) :
    Calls Try.prog 36 #[.string body] w fun e w' => GotCT w.heap.size (readAllC body) e w' ∧ Below w.heap.size w w' := by
  have R1 := Lib.hid (fun W b2 (hd : Rd W b2 ⟨body, false, false⟩) => rnum_prog b2 ⟨body, false, false⟩ W hd (by simp only; omega))
  have L1 := Lib.hid (Nat.le_trans (rNumber_le ⟨body, false, false⟩) hb)
  obtain ⟨⟨n1, r1⟩, h1⟩ : ∃ x, rNumber ⟨body, false, false⟩ = x := ⟨_, rfl⟩
  rw [h1] at R1 L1
  simp only at R1 L1
  have R2 := Lib.hid (fun W b2 (hd : Rd W b2 r1) => rnum_prog b2 r1 W hd (by have := L1.out; omega))
  have L2 := Lib.hid (Nat.le_trans (rNumber_le r1) L1.out)
  obtain ⟨⟨n2, r2⟩, h2⟩ : ∃ x, rNumber r1 = x := ⟨_, rfl⟩
  rw [h2] at R2 L2
  simp only at R2 L2
  have R3 := Lib.hid (fun W b2 (hd : Rd W b2 r2) => rnum_prog b2 r2 W hd (by have := L2.out; omega))
  have L3 := Lib.hid (Nat.le_trans (rNumber_le r2) L2.out)
  have N3 := Lib.hid (rNumber_lt r2)
  obtain ⟨⟨n3, r3⟩, h3⟩ : ∃ x, rNumber r2 = x := ⟨_, rfl⟩
  rw [h3] at R3 L3 N3
  simp only at R3 L3 N3
  have R4 := Lib.hid (fun W b2 (hd : Rd W b2 r3) => rnum_prog b2 r3 W hd (by have := L3.out; omega))
  have L4 := Lib.hid (Nat.le_trans (rNumber_le r3) L3.out)
  obtain ⟨⟨n4, r4⟩, h4⟩ : ∃ x, rNumber r3 = x := ⟨_, rfl⟩
  rw [h4] at R4 L4
  simp only at R4 L4
  have R5 := Lib.hid (fun W b2 (hd : Rd W b2 r4) => rtext_prog b2 r4 W hd (by have := L4.out; omega))
  have L5 := Lib.hid (Nat.le_trans (rText_le r4).1 L4.out)
  obtain ⟨⟨s5, r5⟩, h5⟩ : ∃ x, rText r4 = x := ⟨_, rfl⟩
  rw [h5] at R5 L5
  simp only at R5 L5
  have R6 := Lib.hid (fun W b2 (hd : Rd W b2 r5) => rents_prog b2 r5 W hd L5.out)
  have HEL : Hid ((rEntries r5).1.length ≤ 90001) := Lib.hid (by have := rEnts_len (r5.rest.size + 1) r5 []; have := L5.out; unfold rEntries; simp only [List.length_nil] at *; omega)
  obtain ⟨⟨E, r6⟩, h6⟩ : ∃ x, rEntries r5 = x := ⟨_, rfl⟩
  rw [h6] at R6 HEL
  simp only at R6 HEL
  have R7 := Lib.hid (fun W b2 (hd : Rd W b2 r6) => rended_prog b2 r6 W hd)
  have hzz : IntKind.i64.wrap (n2 : Int) = voteZ n2 := rfl
  obtain ⟨q, hq⟩ : ∃ q, voteZ n2 = q := ⟨_, rfl⟩
  rw [hq] at hzz
  obtain ⟨en, hen⟩ : ∃ en, rEnded r6 = en := ⟨_, rfl⟩
  rw [hen] at R7
  have R8 := Lib.hid (fun W b2 (hW : CtAt W b2 58 [] (.slice none 0 0) ⟨n1, q, n3, n4, s5, []⟩) => takes_prog b2 (.slice none 0 0) ⟨n1, q, n3, n4, s5, []⟩ n3 E.length W hW (by simp) N3.out (by have := HEL.out; omega))
  obtain ⟨tk, htk⟩ : ∃ tk, CT.takes ⟨n1, q, n3, n4, s5, []⟩ n3 E.length = tk := ⟨_, rfl⟩
  rw [htk] at R8
  have key : readAllC body = if (!en || (decide (q < -1) || !tk)) = true then none else some ⟨n1, q, n3, n4, s5, E⟩ := by
    simp only [readAllC, rAll, h1, h2, h3, h4, h5, h6, hq, hen, htk]
  obtain ⟨o, hoo⟩ : ∃ o, readAllC body = o := ⟨_, rfl⟩
  rw [hoo] at key ⊢
  have HK := Lib.hid key
  clear key hoo hb h1 h2 h3 h4 h5 h6 hq hen htk
  go_enter Try.func36, Try.ntmps36
  go_wp2_with fail
  obtain ⟨H, hH⟩ : ∃ H, w.heap.size = H := ⟨_, rfl⟩
  obtain ⟨W0, hW0⟩ : ∃ W0, W0 = (w.alloc (.cells #[.int .u64 0, .int .i64 0, .int .u64 0, .int .u64 0, .string ⟨#[]⟩, .slice none 0 0] 58)).alloc (.cells #[.string body, .bool false, .bool false] 73) := ⟨_, rfl⟩
  have hd0 : Rd W0 (H + 1) ⟨body, false, false⟩ := by
    have := heap_alloc_new (w.alloc (.cells #[.int .u64 0, .int .i64 0, .int .u64 0, .int .u64 0, .string ⟨#[]⟩, .slice none 0 0] 58)) (.cells #[.string body, .bool false, .bool false] 73)
    unfold Rd
    rw [hW0, ← hH]; simpa using this
  have hz0 : W0.heap[H]? = some (.cells #[.int .u64 0, .int .i64 0, .int .u64 0, .int .u64 0, .string ⟨#[]⟩, .slice none 0 0] 58 (0, 0)) := by
    rw [hW0, ← hH]; rw [Lib.alloc_old _ _ _ (by simp)]; exact heap_alloc_new _ _
  have hb0 : Below w.heap.size w W0 := by rw [hW0]; exact ((Below.refl _ _).alloc (Nat.le_refl _) _).alloc (by simp) _
  have hsz : W0.heap.size = H + 2 := by rw [hW0, ← hH]; simp
  rw [← hW0]
  simp only [hH]
  rw [hH] at hb0
  have S1 := Lib.hid (R1.out W0 (H + 1) hd0)
  have HB0 := Lib.hid hb0
  have HZ0 := Lib.hid hz0
  have HSZ := Lib.hid hsz
  have HH := Lib.hid hH
  clear hW0 hd0 hz0 hb0 hsz hH R1
  try go_wp2_with fail
  refine S1.out.mono ?_
  rintro e w1 ⟨rfl, hd, ho⟩
  have hz := (ho.block H (by have := HSZ.out; omega) (by omega)).trans HZ0.out
  have S2 := Lib.hid (R2.out w1 (H + 1) hd)
  have HB1 := Lib.hid (HB0.out.trans (ho.below (Nat.le_succ H) (by have := HSZ.out; omega)))
  have HZ1 := Lib.hid hz
  have HS1 : Hid (H + 2 ≤ w1.heap.size) := Lib.hid (by have := HSZ.out; have := ho.size; omega)
  clear hd ho hz S1 HB0 HZ0 R2
  go_wp2_with fail
  refine S2.out.mono ?_
  rintro e w2 ⟨rfl, hd, ho⟩
  have hz := (ho.block H (by have := HSZ.out; have := HS1.out; omega) (by omega)).trans HZ1.out
  have S3 := Lib.hid (R3.out w2 (H + 1) hd)
  have HB2 := Lib.hid (HB1.out.trans (ho.below (Nat.le_succ H) (by have := HSZ.out; have := HS1.out; omega)))
  have HZ2 := Lib.hid hz
  have HS2 : Hid (H + 2 ≤ w2.heap.size) := Lib.hid (by have := HSZ.out; have := ho.size; have := HS1.out; omega)
  clear hd ho hz S2 HB1 HZ1 R3
  go_wp2_with fail
  refine S3.out.mono ?_
  rintro e w3 ⟨rfl, hd, ho⟩
  have hz := (ho.block H (by have := HSZ.out; have := HS2.out; omega) (by omega)).trans HZ2.out
  have S4 := Lib.hid (R4.out w3 (H + 1) hd)
  have HB3 := Lib.hid (HB2.out.trans (ho.below (Nat.le_succ H) (by have := HSZ.out; have := HS2.out; omega)))
  have HZ3 := Lib.hid hz
  have HS3 : Hid (H + 2 ≤ w3.heap.size) := Lib.hid (by have := HSZ.out; have := ho.size; have := HS2.out; omega)
  clear hd ho hz S3 HB2 HZ2 R4
  go_wp2_with fail
  refine S4.out.mono ?_
  rintro e w4 ⟨rfl, hd, ho⟩
  have hz := (ho.block H (by have := HSZ.out; have := HS3.out; omega) (by omega)).trans HZ3.out
  have S5 := Lib.hid (R5.out w4 (H + 1) hd)
  have HB4 := Lib.hid (HB3.out.trans (ho.below (Nat.le_succ H) (by have := HSZ.out; have := HS3.out; omega)))
  have HZ4 := Lib.hid hz
  have HS4 : Hid (H + 2 ≤ w4.heap.size) := Lib.hid (by have := HSZ.out; have := ho.size; have := HS3.out; omega)
  clear hd ho hz S4 HB3 HZ3 R5
  go_wp2_with fail
  refine S5.out.mono ?_
  rintro e w5 ⟨rfl, hd, ho⟩
  have hz := (ho.block H (by have := HSZ.out; have := HS4.out; omega) (by omega)).trans HZ4.out
  have HD5 := Lib.hid hd
  have HB5 := Lib.hid (HB4.out.trans (ho.below (Nat.le_succ H) (by have := HSZ.out; have := HS4.out; omega)))
  have HZ5 := Lib.hid hz
  have HS5 : Hid (H + 2 ≤ w5.heap.size) := Lib.hid (by have := HSZ.out; have := ho.size; have := HS4.out; omega)
  clear hd ho hz S5 HB4 HZ4 
  go_wp2_with fail
  obtain ⟨G, hG⟩ : ∃ G, w5.heap.size = G := ⟨_, rfl⟩
  obtain ⟨W6, hW6⟩ : ∃ W6, W6 = w5.alloc (.cells #[.int .u64 (n1 : Int), .int .i64 q, .int .u64 (n3 : Int), .int .u64 (n4 : Int), .string s5, .slice none 0 0] 58) := ⟨_, rfl⟩
  have ha6 : Below w5.heap.size w5 W6 := by rw [hW6]; exact (Below.refl _ _).alloc (Nat.le_refl _) _
  have hd6 := HD5.out.later ha6
  have hc6 : CtAt W6 G 58 [] (.slice none 0 0) ⟨n1, q, n3, n4, s5, []⟩ := ⟨by rw [hW6, ← hG]; exact heap_alloc_new _ _, EOwn.nil _ _, by simp [Value.ownBlock]⟩
  have hz6 := (ha6.block H (by have := HS5.out; omega)).trans HZ5.out
  have hb6 := HB5.out.trans (ha6.mono (by have := HS5.out; omega))
  have hs6 : W6.heap.size = G + 1 := by rw [hW6, ← hG]; simp
  rw [← hW6, hG]
  have S6 := Lib.hid (R6.out W6 (H + 1) hd6)
  have HGH : Hid (H + 2 ≤ G) := Lib.hid (by rw [← hG]; exact HS5.out)
  have HC6 := Lib.hid hc6
  have HZ6 := Lib.hid hz6
  have HB6 := Lib.hid hb6
  have HS6 := Lib.hid hs6
  clear ha6 hd6 hc6 hz6 hb6 hs6 hW6 hG HD5 HZ5 HB5 HS5 R6 HSZ
  refine S6.out.mono ?_
  rintro e w6 ⟨ev, rfl, hev, hd, ho⟩
  have hz7 := (ho.block H (by have := HS6.out; have := HGH.out; omega) (by omega)).trans HZ6.out
  have hc7 := HC6.out.mv (ho.block G (by have := HS6.out; omega) (by have := HGH.out; omega)) (fun k hk => by simp [Value.ownBlock] at hk)
  have S7 := Lib.hid (R7.out w6 (H + 1) hd)
  have HB7 := Lib.hid (HB6.out.trans (ho.below (Nat.le_succ H) (by have := HS6.out; have := HGH.out; omega)))
  have HZ7 := Lib.hid hz7
  have HC7 := Lib.hid hc7
  have HE7 := Lib.hid hev
  have HS7 : Hid (G + 1 ≤ w6.heap.size) := Lib.hid (by have := HS6.out; have := ho.size; omega)
  obtain ⟨ea, ec, rfl, hec, _⟩ := hev.shape
  have hELI : (E.length : Int) ≤ 90001 := by have := HEL.out; omega
  clear hz7 hc7 hd ho hev S6 R7 HC6 HZ6 HB6
  go_wp2_with fail
  refine S7.out.mono ?_
  rintro e w7 ⟨rfl, rfl⟩
  have g0 : w7.cell? ⟨H, 0, none⟩ = some (.int .u64 0) := by simp [World.cell?, HZ7.out]
  have g1 : w7.cell? ⟨H, 1, none⟩ = some (.int .i64 0) := by simp [World.cell?, HZ7.out]
  have g2 : w7.cell? ⟨H, 2, none⟩ = some (.int .u64 0) := by simp [World.cell?, HZ7.out]
  have g3 : w7.cell? ⟨H, 3, none⟩ = some (.int .u64 0) := by simp [World.cell?, HZ7.out]
  have g4 : w7.cell? ⟨H, 4, none⟩ = some (.string ⟨#[]⟩) := by simp [World.cell?, HZ7.out]
  have g5 : w7.cell? ⟨H, 5, none⟩ = some (.slice none 0 0) := by simp [World.cell?, HZ7.out]
  have y0 : ∀ o, w7.frozen? ⟨H, o, none⟩ = false := fun o => by simp [World.frozen?, HZ7.out]
  have y00 := y0 0
  have y01 := y0 1
  have y02 := y0 2
  have y03 := y0 3
  have y04 := y0 4
  have y05 := y0 5
  clear y0
  cases en
  · have HQ : Hid (o = none) := Lib.hid (by rw [HK.out]; rfl)
    clear HK
    go_wp2_with fail
    rw [HQ.out, HH.out]
    change bodyPost _ _ _ _ _ (set6 w7 H (.int .u64 0) (.int .i64 0) (.int .u64 0) (.int .u64 0) (.string ⟨#[]⟩) (.slice none 0 0))
    obtain ⟨t0, t1, t2, t3, t4, t5⟩ := cells6 (set6_heap (w := w7) HZ7.out (.int .u64 0) (.int .i64 0) (.int .u64 0) (.int .u64 0) (.string ⟨#[]⟩) (.slice none 0 0))
    have hbb := HB7.out.trans (set6_below (Nat.le_refl H) (.int .u64 0) (.int .i64 0) (.int .u64 0) (.int .u64 0) (.string ⟨#[]⟩) (.slice none 0 0))
    generalize set6 w7 H (.int .u64 0) (.int .i64 0) (.int .u64 0) (.int .u64 0) (.string ⟨#[]⟩) (.slice none 0 0) = Wf at t0 t1 t2 t3 t4 t5 hbb ⊢
    exact bodyPost_ret (v := .tuple #[zeroCT, .bool false]) (by simp [results, Try.results36, go_sem, zeroCT, t0, t1, t2, t3, t4, t5]) rfl ⟨rfl, hbb⟩
  · have k1 : w7.cell? ⟨G, 1, none⟩ = some (.int .i64 q) := HC7.out.cells.2.1
    have k2 : w7.cell? ⟨G, 2, none⟩ = some (.int .u64 (n3 : Int)) := HC7.out.cells.2.2.1
    by_cases hq1 : q < -1
    · have HQ : Hid (o = none) := Lib.hid (by rw [HK.out]; simp [hq1])
      clear HK
      go_wp2_with fail
      rw [HQ.out, HH.out]
      change bodyPost _ _ _ _ _ (set6 w7 H (.int .u64 0) (.int .i64 0) (.int .u64 0) (.int .u64 0) (.string ⟨#[]⟩) (.slice none 0 0))
      obtain ⟨t0, t1, t2, t3, t4, t5⟩ := cells6 (set6_heap (w := w7) HZ7.out (.int .u64 0) (.int .i64 0) (.int .u64 0) (.int .u64 0) (.string ⟨#[]⟩) (.slice none 0 0))
      have hbb := HB7.out.trans (set6_below (Nat.le_refl H) (.int .u64 0) (.int .i64 0) (.int .u64 0) (.int .u64 0) (.string ⟨#[]⟩) (.slice none 0 0))
      generalize set6 w7 H (.int .u64 0) (.int .i64 0) (.int .u64 0) (.int .u64 0) (.string ⟨#[]⟩) (.slice none 0 0) = Wf at t0 t1 t2 t3 t4 t5 hbb ⊢
      exact bodyPost_ret (v := .tuple #[zeroCT, .bool false]) (by simp [results, Try.results36, go_sem, zeroCT, t0, t1, t2, t3, t4, t5]) rfl ⟨rfl, hbb⟩
    · have S8 := Lib.hid (R8.out w7 G HC7.out)
      clear R8
      have HQ1 := Lib.hid hq1
      go_wp2_with fail
      refine S8.out.mono ?_
      rintro e w8 ⟨rfl, hs8⟩
      have hz8 : w8.heap[H]? = some (.cells #[.int .u64 0, .int .i64 0, .int .u64 0, .int .u64 0, .string ⟨#[]⟩, .slice none 0 0] 58 (0, 0)) := by
        obtain ⟨n, rfl⟩ := hs8; exact HZ7.out
      have hcc := HC7.out.same hs8
      have he8 := HE7.out.later (hs8.below _)
      have HB8 := Lib.hid (HB7.out.trans (hs8.below _))
      clear g0 g1 g2 g3 g4 g5 y00 y01 y02 y03 y04 y05 k1 k2 HZ7 HC7 HE7 HB7 S8 S7 hs8
      obtain ⟨g0, g1, g2, g3, g4, g5⟩ := cells6 hz8
      have y0 : ∀ o, w8.frozen? ⟨H, o, none⟩ = false := fun o => by simp [World.frozen?, hz8]
      have y00 := y0 0
      have y01 := y0 1
      have y02 := y0 2
      have y03 := y0 3
      have y04 := y0 4
      have y05 := y0 5
      have HZ8 := Lib.hid hz8
      clear y0 hz8
      cases tk
      · have HQ : Hid (o = none) := Lib.hid (by rw [HK.out]; simp)
        clear HK hcc he8
        go_wp2_with fail
        rw [HQ.out, HH.out]
        change bodyPost _ _ _ _ _ (set6 w8 H (.int .u64 0) (.int .i64 0) (.int .u64 0) (.int .u64 0) (.string ⟨#[]⟩) (.slice none 0 0))
        obtain ⟨t0, t1, t2, t3, t4, t5⟩ := cells6 (set6_heap (w := w8) HZ8.out (.int .u64 0) (.int .i64 0) (.int .u64 0) (.int .u64 0) (.string ⟨#[]⟩) (.slice none 0 0))
        have hbb := HB8.out.trans (set6_below (Nat.le_refl H) (.int .u64 0) (.int .i64 0) (.int .u64 0) (.int .u64 0) (.string ⟨#[]⟩) (.slice none 0 0))
        generalize set6 w8 H (.int .u64 0) (.int .i64 0) (.int .u64 0) (.int .u64 0) (.string ⟨#[]⟩) (.slice none 0 0) = Wf at t0 t1 t2 t3 t4 t5 hbb ⊢
        exact bodyPost_ret (v := .tuple #[zeroCT, .bool false]) (by simp [results, Try.results36, go_sem, zeroCT, t0, t1, t2, t3, t4, t5]) rfl ⟨rfl, hbb⟩
      · have HQ : Hid (o = some ⟨n1, q, n3, n4, s5, E⟩) := Lib.hid (by rw [HK.out]; simp; have := HQ1.out; omega)
        have hne5 : (Value.slice ea E.length ec).ownBlock ≠ some G := fun e => by have := he8.low G e; have := HS6.out; omega
        have hput := CtAt.put5 hcc.1 (he8.base (B' := 0) (fun _ _ => Nat.zero_le _)) hne5
        obtain ⟨m0, m1, m2, m3, m4, m5⟩ := hcc.cells
        have z5 := hcc.free 5
        simp only at m0 m1 m2 m3 m4 m5
        have HP := Lib.hid hput
        have HE8 := Lib.hid he8
        have hGH : G ≠ H := by have := HGH.out; omega
        have hHG : H ≠ G := fun e => hGH e.symm
        clear hcc HK HQ1 hput he8
        go_wp2_with fail
        have hz9 : (w8.setCell ⟨G, 5, none⟩ (.slice ea E.length ec)).heap[H]? = some (.cells #[.int .u64 0, .int .i64 0, .int .u64 0, .int .u64 0, .string ⟨#[]⟩, .slice none 0 0] 58 (0, 0)) :=
          (heap_setCell_other w8 ⟨G, 5, none⟩ H _ hHG).trans HZ8.out
        have hb9 := HB8.out.trans ((Below.refl H w8).setCell (p := ⟨G, 5, none⟩) (by have := HGH.out; show H ≤ G; omega) (.slice ea E.length ec))
        have hown : EOwn (set6 (w8.setCell ⟨G, 5, none⟩ (.slice ea E.length ec)) H (.int .u64 (n1 : Int)) (.int .i64 q) (.int .u64 (n3 : Int)) (.int .u64 (n4 : Int)) (.string s5) (.slice ea E.length ec)) H (.slice ea E.length ec) E := by
          have hlow := HE8.out.low
          refine (HE8.out.base (B' := H) (fun k hk => by have := hlow k hk; have := HS6.out; have := HGH.out; omega)).mv fun k hk => ?_
          have hk1 : k ≠ G := by have := hlow k hk; have := HS6.out; omega
          have hk2 : k ≠ H := by have := hlow k hk; have := HS6.out; have := HGH.out; omega
          unfold set6
          rw [heap_setCell_other _ ⟨H, 5, none⟩ k _ hk2, heap_setCell_other _ ⟨H, 4, none⟩ k _ hk2, heap_setCell_other _ ⟨H, 3, none⟩ k _ hk2, heap_setCell_other _ ⟨H, 2, none⟩ k _ hk2, heap_setCell_other _ ⟨H, 1, none⟩ k _ hk2, heap_setCell_other _ ⟨H, 0, none⟩ k _ hk2, heap_setCell_other _ ⟨G, 5, none⟩ k _ hk1]
        rw [HQ.out, HH.out]
        change bodyPost _ _ _ _ _ (set6 (w8.setCell ⟨G, 5, none⟩ (.slice ea E.length ec)) H (.int .u64 (n1 : Int)) (.int .i64 q) (.int .u64 (n3 : Int)) (.int .u64 (n4 : Int)) (.string s5) (.slice ea E.length ec))
        obtain ⟨t0, t1, t2, t3, t4, t5⟩ := cells6 (set6_heap hz9 (.int .u64 (n1 : Int)) (.int .i64 q) (.int .u64 (n3 : Int)) (.int .u64 (n4 : Int)) (.string s5) (.slice ea E.length ec))
        have hbb := hb9.trans (set6_below (Nat.le_refl H) (.int .u64 (n1 : Int)) (.int .i64 q) (.int .u64 (n3 : Int)) (.int .u64 (n4 : Int)) (.string s5) (.slice ea E.length ec))
        generalize set6 (w8.setCell ⟨G, 5, none⟩ (.slice ea E.length ec)) H (.int .u64 (n1 : Int)) (.int .i64 q) (.int .u64 (n3 : Int)) (.int .u64 (n4 : Int)) (.string s5) (.slice ea E.length ec) = Wf at t0 t1 t2 t3 t4 t5 hbb hown ⊢
        clear g0 g1 g2 g3 g4 g5 y00 y01 y02 y03 y04 y05 m0 m1 m2 m3 m4 m5 z5
        exact bodyPost_ret (v := .tuple #[.agg (ctC ⟨n1, q, n3, n4, s5, E⟩ (.slice ea E.length ec)), .bool true]) (by simp [results, Try.results36, go_sem, ctC, t0, t1, t2, t3, t4, t5]) rfl ⟨⟨_, rfl, hown⟩, hbb⟩
end Go.Proofs.Ytfocljmjejniiaa
