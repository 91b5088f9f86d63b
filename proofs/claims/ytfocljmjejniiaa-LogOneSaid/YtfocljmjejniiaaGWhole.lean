/- log: the record of all. -/
import Derived.Test.YtfocljmjejniiaaGRec
namespace Go.Proofs.Ytfocljmjejniiaa
open Go.RowKit

/-- A content as cells. -/
def ctC (c : CT) (v : Value) : Array Value := #[.int .u64 (c.term : Int), .int .i64 c.vote, .int .u64 (c.base : Int), .int .u64 (c.bterm : Int), .string c.state, v]
theorem bodyL_eq (c : CT) : [] ++ numL c.term ++ numL (voteN c.vote) ++ numL c.base ++ numL c.bterm ++ textL c.state ++ entsL c.ents = bodyL c := by
  unfold bodyL
  rw [List.nil_append, List.append_assoc, List.append_assoc, List.append_assoc, List.append_assoc]
theorem bodyL_len (c : CT) : (bodyL c).length = 40 + c.state.size + (entsL c.ents).length := by
  simp only [bodyL, List.length_append, numL_len, textL, data_len]; omega
theorem body_ne (c : CT) : bodyL c ≠ [] := fun h => by
  have := congrArg List.length h
  rw [bodyL_len, List.length_nil] at this
  omega
theorem voteN_int (v : Int) : IntKind.u64.wrap v = (voteN v : Int) := by unfold voteN; have := u64_range v; omega

set_option maxHeartbeats 2000000 in
set_option maxRecDepth 100000 in
theorem whole_prog (c : CT) (v : Value) (w : World) (hc : c.Ok) (hv : ESl w v c.ents) (hl : c.state.size + (entsL c.ents).length ≤ 500000) :
    Calls Try.prog 52 #[.agg (ctC c v)] w fun e w' => e = .returned (.string (wholeB c)) ∧ Below w.heap.size w w' := by
  obtain ⟨a, cc, hve, hcc, _⟩ := id hv
  have HV := Lib.hid hv
  have HO := Lib.hid hc
  have HL := Lib.hid hl
  have HVN := Lib.hid (voteN_lt c.vote)
  have hvn := voteN_int c.vote
  clear hv hc hl hcc
  unfold ctC
  rw [hve]
  rw [hve] at HV
  clear hve
  go_enter Try.func52, Try.ntmps52
  go_wp2_with fail
  obtain ⟨H, hH⟩ : ∃ H, w.heap.size = H := ⟨_, rfl⟩
  obtain ⟨W0, hW0⟩ : ∃ W0, W0 = (w.alloc (.cells #[.int .u64 (c.term : Int), .int .i64 c.vote, .int .u64 (c.base : Int), .int .u64 (c.bterm : Int), .string c.state, .slice a c.ents.length cc] 58)).alloc (.cells #[.pointer none, .slice none 0 0] 84) := ⟨_, rfl⟩
  have h1 : Wr (H + 1) (.slice none 0 0) [] W0 := Wr.fresh (by
    have := heap_alloc_new (w.alloc (.cells #[.int .u64 (c.term : Int), .int .i64 c.vote, .int .u64 (c.base : Int), .int .u64 (c.bterm : Int), .string c.state, .slice a c.ents.length cc] 58)) (.cells #[.pointer none, .slice none 0 0] 84)
    rw [hW0, ← hH]; simpa using this)
  have h2 : W0.heap[H]? = some (.cells #[.int .u64 (c.term : Int), .int .i64 c.vote, .int .u64 (c.base : Int), .int .u64 (c.bterm : Int), .string c.state, .slice a c.ents.length cc] 58 (0, 0)) := by
    rw [hW0, ← hH]; rw [Lib.alloc_old _ _ _ (by simp)]; exact heap_alloc_new _ _
  have hb0 : Below w.heap.size w W0 := by rw [hW0]; exact ((Below.refl _ _).alloc (Nat.le_refl _) _).alloc (by simp) _
  have hsz : W0.heap.size = H + 2 := by rw [hW0, ← hH]; simp
  have hv0 := HV.out.later hb0
  have hap : c.ents ≠ [] → Apart (H + 1) (.slice none 0 0) (.slice a c.ents.length cc) := fun hne k hk => by
    obtain ⟨a', c', e0, _, h3⟩ := HV.out
    obtain ⟨g, o, ha, hg, _⟩ := h3 hne
    injection e0 with e1 _ _
    subst e1
    subst ha
    obtain rfl : g = k := by simpa [Value.ownBlock] using hk
    exact ⟨by omega, by simp [Value.ownBlock]⟩
  rw [← hW0]
  simp only [hH]
  rw [hH] at hb0
  clear hW0
  have HB0 := Lib.hid hb0
  have HSZ := Lib.hid hsz
  have HH := Lib.hid hH
  have HZ := Lib.hid h2
  have HV0 := Lib.hid hv0
  have HAP := Lib.hid hap
  have K1 := Lib.hid (wnum_prog (H + 1) _ [] c.term W0 h1 (by simp) HO.out.term)
  have d0 : W0.cell? ⟨H, 0, none⟩ = some (.int .u64 (c.term : Int)) := by simp [World.cell?, h2]
  clear h1 h2 hb0 hsz hH hv0 hap
  try go_wp2_with fail
  refine K1.out.mono ?_
  rintro e w1 ⟨rfl, v1, hw1, hf1⟩
  have hz1 := hf1.keep HZ.out (by omega) (by simp [Value.ownBlock])
  have d1 : w1.cell? ⟨H, 1, none⟩ = some (.int .i64 c.vote) := by simp [World.cell?, hz1]
  have hav1 := hf1.away (j := H) (by have := HSZ.out; omega) (by simp [Value.ownBlock])
  have K2 := Lib.hid (wnum_prog (H + 1) v1 _ (voteN c.vote) w1 hw1 (by simp [numL]) HVN.out)
  have HF1 := Lib.hid hf1
  have HZ1 := Lib.hid hz1
  have HA1 := Lib.hid hav1
  have HS1 := Lib.hid hf1.size
  clear hw1 hf1 K1 hz1 hav1 d0
  go_wp2_with fail
  refine K2.out.mono ?_
  rintro e w2 ⟨rfl, v2, hw2, hf2⟩
  have hz2 := hf2.keep HZ1.out (by omega) HA1.out
  have d2 : w2.cell? ⟨H, 2, none⟩ = some (.int .u64 (c.base : Int)) := by simp [World.cell?, hz2]
  have hav2 := hf2.away (j := H) (by have := HSZ.out; have := HS1.out; omega) HA1.out
  have K3 := Lib.hid (wnum_prog (H + 1) v2 _ c.base w2 hw2 (by simp [numL]) (by have := HO.out.base; omega))
  have HF2 := Lib.hid (HF1.out.trans hf2)
  have HZ2 := Lib.hid hz2
  have HA2 := Lib.hid hav2
  have HS2 := Lib.hid (Nat.le_trans HS1.out hf2.size)
  clear hw2 hf2 K2 hz2 hav2 d1 HF1 HZ1 HA1 HS1
  go_wp2_with fail
  refine K3.out.mono ?_
  rintro e w3 ⟨rfl, v3, hw3, hf3⟩
  have hz3 := hf3.keep HZ2.out (by omega) HA2.out
  have d3 : w3.cell? ⟨H, 3, none⟩ = some (.int .u64 (c.bterm : Int)) := by simp [World.cell?, hz3]
  have hav3 := hf3.away (j := H) (by have := HSZ.out; have := HS2.out; omega) HA2.out
  have K4 := Lib.hid (wnum_prog (H + 1) v3 _ c.bterm w3 hw3 (by simp [numL]) HO.out.bterm)
  have HF3 := Lib.hid (HF2.out.trans hf3)
  have HZ3 := Lib.hid hz3
  have HA3 := Lib.hid hav3
  have HS3 := Lib.hid (Nat.le_trans HS2.out hf3.size)
  clear hw3 hf3 K3 hz3 hav3 d2 HF2 HZ2 HA2 HS2
  go_wp2_with fail
  refine K4.out.mono ?_
  rintro e w4 ⟨rfl, v4, hw4, hf4⟩
  have hz4 := hf4.keep HZ3.out (by omega) HA3.out
  have d4 : w4.cell? ⟨H, 4, none⟩ = some (.string c.state) := by simp [World.cell?, hz4]
  have hav4 := hf4.away (j := H) (by have := HSZ.out; have := HS3.out; omega) HA3.out
  have hlen4 : ([] ++ numL c.term ++ numL (voteN c.vote) ++ numL c.base ++ numL c.bterm).length = 32 := by simp only [List.length_append, numL_len]; rfl
  have K5 := Lib.hid (wtext_prog (H + 1) v4 _ c.state w4 hw4 (by rw [hlen4]; have := HL.out; omega))
  have HF4 := Lib.hid (HF3.out.trans hf4)
  have HZ4 := Lib.hid hz4
  have HA4 := Lib.hid hav4
  have HS4 := Lib.hid (Nat.le_trans HS3.out hf4.size)
  have HL4 := Lib.hid hlen4
  clear hw4 hf4 K4 hz4 hav4 d3 HF3 HZ3 HA3 HS3 hlen4
  go_wp2_with fail
  refine K5.out.mono ?_
  rintro e w5 ⟨rfl, v5, hw5, hf5⟩
  have hz5 := hf5.keep HZ4.out (by omega) HA4.out
  have d5 : w5.cell? ⟨H, 5, none⟩ = some (.slice a c.ents.length cc) := by simp [World.cell?, hz5]
  have hf05 := HF4.out.trans hf5
  obtain ⟨hv5, hap5⟩ := HV0.out.ch HAP.out hf05
  have K6 := Lib.hid (wents_prog (H + 1) v5 _ _ c.ents w5 hw5 hv5 hap5 HO.out.ents (by have := HL.out; have h4 := HL4.out; rw [List.length_append, h4]; simp only [textL, List.length_append, numL_len, data_len]; omega))
  have HF5 := Lib.hid hf05
  have HS5 := Lib.hid (Nat.le_trans HS4.out hf5.size)
  rw [bodyL_eq] at K6
  clear hw5 hf5 hf05 K5 hz5 d4 HF4 HZ4 HA4 HS4 hv5 hap5 HL4
  go_wp2_with fail
  refine K6.out.mono ?_
  rintro e w6 ⟨rfl, v6, hw6, hf6⟩
  have K7 := Lib.hid (bstring_prog (H + 1) v6 _ w6 hw6 (body_ne c))
  have HF6 := Lib.hid (HF5.out.trans hf6)
  have HS6 := Lib.hid (Nat.le_trans HS5.out hf6.size)
  clear hw6 hf6 K6 d5 HF5 HS5
  go_wp2_with fail
  refine K7.out.mono ?_
  rintro e w7 ⟨rfl, hf7⟩
  have HF7 := Lib.hid (HF6.out.trans hf7)
  have HS7 := Lib.hid (Nat.le_trans HS6.out hf7.size)
  have K8 := Lib.hid (record_prog 248 (ofL (bodyL c)) w7 (by rw [ofL_size, bodyL_len]; have := HL.out; omega))
  clear hf7 K7 HF6 HS6
  go_wp2_with fail
  refine K8.out.mono ?_
  rintro e w8 ⟨rfl, hb8⟩
  have HB8 := Lib.hid hb8
  clear hb8 K8
  go_wp2_with fail
  go_ret
  rw [HH.out]
  have hlt : H ≤ W0.heap.size := by have := HSZ.out; omega
  exact ⟨rfl, (HB0.out.trans (HF7.out.below (by omega) (fun j hj => by simp [Value.ownBlock] at hj) hlt)).trans (HB8.out.mono (Nat.le_trans hlt HS7.out))⟩
end Go.Proofs.Ytfocljmjejniiaa
