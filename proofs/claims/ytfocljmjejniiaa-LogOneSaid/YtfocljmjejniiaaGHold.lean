/- log: Holds: a log as the reference has it. -/
import Derived.Test.YtfocljmjejniiaaGGet
import Derived.Deep.RegionHeld3
namespace Go.Proofs.Ytfocljmjejniiaa
open Go.RowKit

section
variable {w : World} {lb db room : Nat} {dn : Bool} {v rv : Value} {c : CT}
set_option maxRecDepth 100000 in
theorem rlast_prog (c : CT) (rv : Value) (w : World) (h : ∃ a n cp, rv = .slice a n cp ∧ n = c.ents.length) (hl : c.ents.length ≤ 1000000) :
    Calls Try.prog 26 #[.agg (ctC c rv)] w fun e w' => e = .returned (.int .u64 (c.lastN : Int)) ∧ Below w.heap.size w w' := by
  obtain ⟨a, n, cp, rfl, rfl⟩ := h
  have hL := lastN_int c hl
  have hlI : (c.ents.length : Int) ≤ 1000000 := by omega
  clear hl
  unfold ctC
  go_enter Try.func26, Try.ntmps26
  go_wp2_with fail
  go_ret
  exact ⟨rfl, (Below.refl _ _).alloc (Nat.le_refl _) _⟩

set_option maxHeartbeats 8000000 in
set_option maxRecDepth 100000 in
theorem holds_prog (h : LgAt w lb db dn room v c) (hs : ESl w rv c.ents) (hc : c.Ok) (hc2 : c.base + c.ents.length + 1 < m64) (hl : c.ents.length ≤ 1000) :
    Calls Try.prog 12 #[.pointer (some ⟨lb, 0, none⟩), .agg (ctC c rv)] w fun e w' => e = .returned (.bool true) ∧ Below w.heap.size w w' := by
  have K1 := Lib.hid (fun W (hW : LgAt W lb db dn room v c) => gbase_prog hW)
  have K2 := Lib.hid (fun W (hW : LgAt W lb db dn room v c) => gterm_prog hW)
  have K3 := Lib.hid (fun W (hW : LgAt W lb db dn room v c) => gvote_prog hW)
  have K4 := Lib.hid (fun W (hW : LgAt W lb db dn room v c) => glast_prog hW (by omega))
  have K5 := Lib.hid (fun W => rlast_prog c rv W (by obtain ⟨a, cp, hv, _⟩ := hs; exact ⟨a, _, cp, hv, rfl⟩) (by omega))
  have HL := Lib.hid h
  have HS := Lib.hid hs
  have HC := Lib.hid hc
  have HC2 := Lib.hid hc2
  have HLL := Lib.hid hl
  obtain ⟨a, cp, rfl, hcp, _⟩ := id hs
  clear h hs hc hc2 hl
  unfold ctC at K5 ⊢
  go_enter Try.func12, Try.ntmps12
  go_wp2_with fail
  obtain ⟨H, hH⟩ : ∃ H, w.heap.size = H := ⟨_, rfl⟩
  obtain ⟨W0, hW0⟩ : ∃ W0, W0 = w.alloc (.cells #[.int .u64 (c.term : Int), .int .i64 c.vote, .int .u64 (c.base : Int), .int .u64 (c.bterm : Int), .string c.state, .slice a c.ents.length cp] 39) := ⟨_, rfl⟩
  have hz0 : W0.heap[H]? = some (.cells #[.int .u64 (c.term : Int), .int .i64 c.vote, .int .u64 (c.base : Int), .int .u64 (c.bterm : Int), .string c.state, .slice a c.ents.length cp] 39 (0, 0)) := by rw [hW0, ← hH]; exact heap_alloc_new _ _
  have hb0 : Below w.heap.size w W0 := by rw [hW0]; exact (Below.refl _ _).alloc (Nat.le_refl _) _
  have hs0 : W0.heap.size = H + 1 := by rw [hW0, ← hH]; simp
  rw [← hW0]
  simp only [hH]
  have HL0 := Lib.hid (HL.out.later hb0)
  have HV0 := Lib.hid (HS.out.later hb0)
  have HZ0 := Lib.hid hz0
  have HB0 := Lib.hid hb0
  have HS0 := Lib.hid hs0
  have HH := Lib.hid hH
  clear hW0 hz0 hb0 hs0 hH HL HS
  have K1' := Lib.hid (K1.out W0 HL0.out)
  clear K1
  try go_wp2_with fail
  refine K1'.out.mono ?_
  rintro e w1 ⟨rfl, q1, rfl⟩
  have HL1 := Lib.hid (HL0.out.later ((Same.of W0 q1).below _))
  obtain ⟨m0, m1, m2, m3, m4, m5⟩ := cells6 HZ0.out
  go_wp2_with fail
  go_upto_region 2 with fail
  go_cut [63] (fun s63 wx => s63 = .bool false ∧ Hid (Below W0.heap.size W0 wx))
  case first =>
    obtain ⟨W1, hW1⟩ : ∃ W1, W1 = W0.drewN q1 := ⟨_, rfl⟩
    have hb1 : Below W0.heap.size W0 W1 := by rw [hW1]; exact (Same.of _ _).below _
    have hb2 : Below W0.heap.size W0 W1.drew := hb1.drew
    have K2' := Lib.hid (K2.out W1.drew (HL0.out.later hb2))
    have K3' := Lib.hid (K3.out W1.drew (HL0.out.later hb2))
    have K4' := Lib.hid (K4.out W1.drew (HL0.out.later hb2))
    have HB1 := Lib.hid hb1
    have hz1 : W1.drew.heap[H]? = some (.cells #[.int .u64 (c.term : Int), .int .i64 c.vote, .int .u64 (c.base : Int), .int .u64 (c.bterm : Int), .string c.state, .slice a c.ents.length cp] 39 (0, 0)) := by rw [hW1]; exact HZ0.out
    have HN := Lib.hid (cells6 hz1)
    rw [← hW1]
    clear m0 m1 m2 m3 m4 m5 K2 K3 K4 hW1 hb1 hb2 hz1
    go_region_held3 (fun X => X.cell? ⟨H, 0, none⟩ = some (.int .u64 (c.term : Int)) ∧ X.cell? ⟨H, 1, none⟩ = some (.int .i64 c.vote) ∧ X.cell? ⟨H, 2, none⟩ = some (.int .u64 (c.base : Int)) ∧ X.cell? ⟨H, 3, none⟩ = some (.int .u64 (c.bterm : Int)) ∧ X.cell? ⟨H, 4, none⟩ = some (.string c.state) ∧ X.cell? ⟨H, 5, none⟩ = some (.slice a c.ents.length cp))
      (first | with_reducible exact HN.out | with_reducible exact hn3 | exact HN.out)
      (first
      | (go_at_call 16; (with_reducible refine K2'.out.mono ?_); rintro e w2 ⟨rfl, rfl⟩)
      | (go_at_call 17; (with_reducible refine K3'.out.mono ?_); rintro e w2 ⟨rfl, rfl⟩)
      | (go_at_call 15; (with_reducible refine K4'.out.mono ?_); rintro e w2 ⟨rfl, q2, rfl⟩)
      | (go_at_call 26; (with_reducible refine (K5.out _).mono ?_); rintro e w3 ⟨rfl, hb3⟩; have hn3 := And.intro (cellB hb3 HN.out.1) (And.intro (cellB hb3 HN.out.2.1) (And.intro (cellB hb3 HN.out.2.2.1) (And.intro (cellB hb3 HN.out.2.2.2.1) (And.intro (cellB hb3 HN.out.2.2.2.2.1) (cellB hb3 HN.out.2.2.2.2.2)))))))
    all_goals
      have HB3 : Hid (Below W0.heap.size W0 w3) := Lib.hid (HB1.out.trans (((Same.of W1 (1 + q2)).below W0.heap.size).trans (hb3.mono HB1.out.size)))
      clear hb3 hn3
      go_wp2_with fail
      go_meet
      exact ⟨rfl, HB3⟩
  case rest =>
    obtain ⟨rfl, HBc⟩ := hcut
    have hz2 := (HBc.out.block H (by have := HS0.out; omega)).trans HZ0.out
    clear m0 m1 m2 m3 m4 m5 K2 K3 K4 HL1 K1'
    obtain ⟨m0, m1, m2, m3, m4, m5⟩ := cells6 hz2
    have hlI : (c.ents.length : Int) ≤ 1000 := by have := HLL.out; omega
    have hw1 : IntKind.u64.wrap ((c.base : Int) + 1) = ((c.base + 1 : Nat) : Int) := by
      have := HC2.out
      have e : ((c.base : Int) + 1) = ((c.base + 1 : Nat) : Int) := by omega
      rw [e]; exact u64_nat _ (by omega)
    obtain ⟨b1, hb1⟩ : ∃ b1, c.base + 1 = b1 := ⟨_, rfl⟩
    rw [hb1] at hw1
    have HB1' := Lib.hid hb1
    clear hb1
    clear hz2
    go_wp2_with fail
    go_loopw [67] (fun i wr => ∃ k : Nat, k ≤ c.ents.length ∧ i = .int .i64 (k : Int) ∧ Hid (Below W0.heap.size W0 wr)) (fun i _ => c.ents.length - (intOf i).toNat)
    case atStart => exact ⟨0, Nat.zero_le _, rfl, HBc⟩
    case round =>
      obtain ⟨k, hk, rfl, HB⟩ := hrel
      clear m0 m1 m2 m3 m4 m5 HBc
      have hzr := (HB.out.block H (by have := HS0.out; omega)).trans HZ0.out
      obtain ⟨m0, m1, m2, m3, m4, m5⟩ := cells6 hzr
      have HLr := Lib.hid (HL0.out.later HB.out)
      have hHr : H < wr.heap.size := by have := HB.out.size; have := HS0.out; omega
      clear hzr
      by_cases hlt : k < c.ents.length
      · obtain ⟨⟨t, s⟩, hx⟩ : ∃ x, c.ents[k]? = some x := ⟨_, List.getElem?_eq_getElem hlt⟩
        obtain ⟨a', cp', e0, _, hcells⟩ := HV0.out.later HB.out
        injection e0 with e1 e2 e3
        subst e1
        obtain ⟨g, o, rfl, hg, hcs⟩ := hcells (fun e => by rw [e] at hlt; simp at hlt)
        obtain ⟨c0, c1⟩ := hcs k _ hx
        have hk0 : (0 : Int) ≤ (k : Int) := by omega
        have hkI : (k : Int) < (c.ents.length : Int) := by omega
        obtain ⟨i, hi⟩ : ∃ i, c.base + 1 + k = i := ⟨_, rfl⟩
        have hlt64 : i < m64 := by have := HC2.out; omega
        have hw2 : IntKind.u64.wrap (k : Int) = (k : Int) := u64_nat _ (by omega)
        have hw3 : IntKind.u64.wrap ((b1 : Int) + (k : Int)) = (i : Int) := by
          have e : (b1 : Int) + (k : Int) = (i : Int) := by have := HB1'.out; omega
          rw [e]; exact u64_nat _ hlt64
        have eA : c.at i = some (t, s) := by
          have e4 : i - c.base - 1 = k := by omega
          rw [CT.at, if_neg (by omega), e4, hx]
        have eT : c.termAt i = some t := by
          rw [CT.termAt, if_neg (by omega), eA]; rfl
        have A1 := Lib.hid (fun W (hW : LgAt W lb db dn room v c) => gat_prog i hW (by have := HLL.out; omega) HC.out.base)
        have A2 := Lib.hid (fun W (hW : LgAt W lb db dn room v c) => gtermAt_prog i hW (by have := HLL.out; omega) HC.out.base)
        rw [eA] at A1
        rw [eT] at A2
        unfold entV at A1
        unfold numV at A2
        clear hcells hcs hx eA eT e2 e3 hi hlt64
        go_wp2_with fail
        have hla := HLr.out.later ((Below.refl _ _).alloc (Nat.le_refl _) (.cells #[.int .u64 (t : Int), .string s] 37))
        refine (A1.out _ hla).mono ?_
        rintro e w2 ⟨rfl, hb2⟩
        have hb02 := HB.out.trans (((Below.refl W0.heap.size wr).alloc HB.out.size (.cells #[.int .u64 (t : Int), .string s] 37)).trans (hb2.mono (by have := HB.out.size; simp; omega)))
        have hE2 : w2.heap[wr.heap.size]? = some (.cells #[.int .u64 (t : Int), .string s] 37 (0, 0)) := by
          rw [hb2.block _ (by simp)]; exact heap_alloc_new _ _
        have hEl : wr.heap.size < w2.heap.size := (Array.getElem?_eq_some_iff.1 hE2).1
        have d0 : w2.cell? ⟨wr.heap.size, 0, none⟩ = some (.int .u64 (t : Int)) := by simp [World.cell?, hE2]
        have d1 : w2.cell? ⟨wr.heap.size, 1, none⟩ = some (.string s) := by simp [World.cell?, hE2]
        have HB2 := Lib.hid hb02
        have HE2 := Lib.hid hE2
        have HL2 := Lib.hid (HL0.out.later hb02)
        clear hla hb2 hb02 hE2 A1 c0 c1
        go_wp2_with fail
        have hla := HL2.out.later ((Below.refl _ _).alloc (Nat.le_refl _) (.cells #[.int .u64 (t : Int), .string s] 37))
        refine (A2.out _ hla).mono ?_
        rintro e w3 ⟨rfl, hb3⟩
        have hb03 := HB2.out.trans (((Below.refl W0.heap.size w2).alloc HB2.out.size (.cells #[.int .u64 (t : Int), .string s] 37)).trans (hb3.mono (by have := HB2.out.size; simp; omega)))
        have hF3 : w3.heap[w2.heap.size]? = some (.cells #[.int .u64 (t : Int), .string s] 37 (0, 0)) := by
          rw [hb3.block _ (by simp)]; exact heap_alloc_new _ _
        have hE3 : w3.heap[wr.heap.size]? = some (.cells #[.int .u64 (t : Int), .string s] 37 (0, 0)) := by
          rw [hb3.block _ (by simp; omega), Lib.alloc_old _ _ _ hEl]; exact HE2.out
        have f0 : w3.cell? ⟨w2.heap.size, 0, none⟩ = some (.int .u64 (t : Int)) := by simp [World.cell?, hF3]
        have f1 : w3.cell? ⟨w2.heap.size, 1, none⟩ = some (.string s) := by simp [World.cell?, hF3]
        have g0 : w3.cell? ⟨wr.heap.size, 0, none⟩ = some (.int .u64 (t : Int)) := by simp [World.cell?, hE3]
        have g1 : w3.cell? ⟨wr.heap.size, 1, none⟩ = some (.string s) := by simp [World.cell?, hE3]
        have HB3 := Lib.hid hb03
        clear hla hb3 hb03 hF3 hE3 A2 d0 d1 HB2 HE2 HL2
        go_wp2_with fail
        go_roundw
        case rel => exact ⟨k + 1, by omega, by go_num, HB3⟩
        case measure => simp [intOf]; omega
      · have hke : k = c.ents.length := by omega
        subst hke
        have hkI : ¬ (c.ents.length : Int) < (c.ents.length : Int) := by omega
        have eA : c.at c.base = none := by rw [CT.at, if_pos (.inl (Nat.le_refl _))]
        have eT : c.termAt c.base = some c.bterm := by rw [CT.termAt, if_pos rfl]
        obtain ⟨j, hj⟩ : ∃ j, c.lastN + 1 = j := ⟨_, rfl⟩
        have hlN := lastN_of HC.out.base
        have eU : c.termAt j = none := by
          rw [CT.termAt, if_neg (by omega), CT.at, if_pos (.inr (by omega))]; rfl
        have hjw : IntKind.u64.wrap ((c.lastN : Int) + 1) = (j : Int) := by
          have e : (c.lastN : Int) + 1 = (j : Int) := by omega
          rw [e]; exact u64_nat _ (by have := HC2.out; omega)
        have A1 := Lib.hid (fun W (hW : LgAt W lb db dn room v c) => gat_prog c.base hW (by have := HLL.out; omega) HC.out.base)
        have A2 := Lib.hid (fun W (hW : LgAt W lb db dn room v c) => gtermAt_prog j hW (by have := HLL.out; omega) HC.out.base)
        have A3 := Lib.hid (fun W (hW : LgAt W lb db dn room v c) => gtermAt_prog c.base hW (by have := HLL.out; omega) HC.out.base)
        rw [eA] at A1
        rw [eU] at A2
        rw [eT] at A3
        unfold entV at A1
        unfold numV at A2 A3
        clear eA eT eU hj hlN hw1
        go_wp2_with fail
        refine (A1.out _ HLr.out).mono ?_
        rintro e w2 ⟨rfl, hb2⟩
        have hb02 := HB.out.trans (hb2.mono HB.out.size)
        have hb03 := hb02.trans ((Below.refl W0.heap.size w2).alloc hb02.size (.cells #[.int .u64 0, .string ⟨#[]⟩] 37))
        have hz3 := (hb03.block H (by have := HS0.out; omega)).trans HZ0.out
        have HB3 := Lib.hid hb03
        have hz2 := (hb02.block H (by have := HS0.out; omega)).trans HZ0.out
        clear m0 m1 m2 m3 m4 m5
        obtain ⟨m0, m1, m2, m3, m4, m5⟩ := cells6 hz2
        have hHs : H < w2.heap.size := by have := hb02.size; have := HS0.out; omega
        clear hz3 hz2 hb03 hb2 hb02 A1 HLr HB
        go_wp2_with fail
        refine (K5.out _).mono ?_
        rintro e w4 ⟨rfl, hb4⟩
        have hb04 := HB3.out.trans (hb4.mono HB3.out.size)
        have A2' := Lib.hid (A2.out w4 (HL0.out.later hb04))
        have HB4 := Lib.hid hb04
        clear hb4 hb04 A2 K5 HB3
        go_wp2_with fail
        refine A2'.out.mono ?_
        rintro e w5 ⟨rfl, hb5⟩
        have hb05 := HB4.out.trans (hb5.mono HB4.out.size)
        have A3' := Lib.hid (A3.out w5 (HL0.out.later hb05))
        have hz5 := (hb05.block H (by have := HS0.out; omega)).trans HZ0.out
        clear m0 m1 m2 m3 m4 m5
        obtain ⟨m0, m1, m2, m3, m4, m5⟩ := cells6 hz5
        have HB5 := Lib.hid hb05
        clear hb5 hb05 A3 A2' HB4 hz5
        go_wp2_with fail
        refine A3'.out.mono ?_
        rintro e w6 ⟨rfl, hb6⟩
        have hb06 := HB5.out.trans (hb6.mono HB5.out.size)
        have hz6 := (hb06.block H (by have := HS0.out; omega)).trans HZ0.out
        clear m0 m1 m2 m3 m4 m5
        obtain ⟨m0, m1, m2, m3, m4, m5⟩ := cells6 hz6
        have HB6 := Lib.hid hb06
        clear hb6 hb06 A3' HB5 hz6
        go_wp2_with fail
        go_ret
        refine ⟨rfl, ?_⟩
        rw [HH.out]
        have hb := HB0.out
        rw [HH.out] at hb
        exact hb.trans (HB6.out.mono (by have := HS0.out; omega))
end
end Go.Proofs.Ytfocljmjejniiaa
