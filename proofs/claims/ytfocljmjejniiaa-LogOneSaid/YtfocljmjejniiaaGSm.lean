/- log: the law's Small, the reference's New and Add. -/
import Derived.Test.YtfocljmjejniiaaGLs
namespace Go.Proofs.Ytfocljmjejniiaa
open Go.RowKit

def smallE (E : List Ent) : Bool := decide (E.length ≤ 10) && E.all fun x => decide (x.2.size ≤ 100)
theorem smallE_ok {E : List Ent} (h : smallE E = true) (ho : EntsOk E) : SmE E := by
  simp only [smallE, Bool.and_eq_true, decide_eq_true_eq, List.all_eq_true] at h
  exact ⟨h.1, ho, h.2⟩
/-- An act of the law with these entries, as cells. -/
def actC (v : Value) : Array Value := #[.int .i64 0, .int .i64 0, .int .u64 0, .int .u64 0, .bool false, v, .string ⟨#[]⟩, .int .i64 0]
def actF (V : Nat → Value) (w : World) (g : Nat) : Prop := ∀ k, k < 2 → w.cell? ⟨g, k * 8, none⟩ = some (.int .i64 0) ∧ w.cell? ⟨g, k * 8 + 1, none⟩ = some (.int .i64 0) ∧ w.cell? ⟨g, k * 8 + 2, none⟩ = some (.int .u64 0) ∧ w.cell? ⟨g, k * 8 + 3, none⟩ = some (.int .u64 0) ∧
  w.cell? ⟨g, k * 8 + 4, none⟩ = some (.bool false) ∧ w.cell? ⟨g, k * 8 + 5, none⟩ = some (V k) ∧ w.cell? ⟨g, k * 8 + 6, none⟩ = some (.string ⟨#[]⟩) ∧ w.cell? ⟨g, k * 8 + 7, none⟩ = some (.int .i64 0)
theorem all_take_succ {E : List Ent} {j : Nat} {x : Ent} (h : E[j]? = some x) (p : Ent → Bool) : (E.take (j + 1)).all p = ((E.take j).all p && p x) := by
  have hk := (List.getElem?_eq_some_iff.1 h).1
  have hx := (List.getElem?_eq_some_iff.1 h).2
  rw [List.take_succ_eq_append_getElem hk, hx, List.all_append]; simp
theorem all_of_take {E : List Ent} (j : Nat) (p : Ent → Bool) (h : E.all p = true) : (E.take j).all p = true := by
  rw [List.all_eq_true] at h ⊢
  exact fun x hx => h x (List.mem_of_mem_take hx)

set_option maxHeartbeats 4000000 in
set_option maxRecDepth 100000 in
theorem small_prog (V : Nat → Value) (E : Nat → List Ent) (g : Nat) (w : World) (hc : actF V w g) (hs : ∀ k, k < 2 → ESl w (V k) (E k)) (hl : ∀ k, k < 2 → (E k).length ≤ maxLen) (hg : g < w.heap.size) :
    Calls Try.prog 5 #[.slice (some ⟨g, 0, none⟩) 2 2, .int .i64 2] w fun e w' => e = .returned (.bool (smallE (E 0) && smallE (E 1))) ∧ Below w.heap.size w w' := by
  have HC := Lib.hid hc
  have HS := Lib.hid hs
  have HL := Lib.hid hl
  have HG := Lib.hid hg
  obtain ⟨R, hR⟩ : ∃ R, (smallE (E 0) && smallE (E 1)) = R := ⟨_, rfl⟩
  rw [hR]
  have HR := Lib.hid hR
  clear hc hs hl hg hR
  go_enter Try.func5, Try.ntmps5
  go_wp2_with fail
  go_loopw [15] (fun i wr => ∃ k : Nat, k ≤ 2 ∧ i = .int .i64 (k : Int) ∧ Hid (∀ j, j < k → smallE (E j) = true) ∧ Hid (Below w.heap.size w wr)) (fun i _ => 2 - (intOf i).toNat)
  case atStart => exact ⟨0, by omega, rfl, Lib.hid (fun j hj => by omega), Lib.hid (Below.refl _ _)⟩
  case round =>
    obtain ⟨k, hk, rfl, HA, HB⟩ := hrel
    by_cases hlt : k < 2
    · have hk0 : (0 : Int) ≤ (k : Int) := by omega
      have hkI : (k : Int) < 2 := by omega
      obtain ⟨c0, c1, c2, c3, c4, c5, c6, c7⟩ := HC.out k hlt
      have HCb := Lib.hid (fun (o : Nat) (x : Value) (h : w.cell? ⟨g, o, none⟩ = some x) => cellB HB.out h)
      have c0 := HCb.out _ _ c0
      have c1 := HCb.out _ _ c1
      have c2 := HCb.out _ _ c2
      have c3 := HCb.out _ _ c3
      have c4 := HCb.out _ _ c4
      have c5 := HCb.out _ _ c5
      have c6 := HCb.out _ _ c6
      have c7 := HCb.out _ _ c7
      have hsk := (HS.out k hlt).later HB.out
      have hlk := HL.out k hlt
      have HQ : Hid (smallE (E k) = false → R = false) := Lib.hid (fun h => by
        rw [← HR.out]
        rcases (by omega : k = 0 ∨ k = 1) with rfl | rfl
        · rw [h]; rfl
        · rw [h]; simp)
      obtain ⟨F, hF⟩ : ∃ F, E k = F := ⟨_, rfl⟩
      have HAk := Lib.hid (fun (h : smallE F = true) (j : Nat) (hj : j < k + 1) => show smallE (E j) = true from by
        rcases (by omega : j < k ∨ j = k) with h1 | rfl
        · exact HA.out j h1
        · rw [hF]; exact h)
      rw [hF] at hsk hlk HQ
      obtain ⟨a, cp, hv, hcp, hcells⟩ := hsk
      rw [hv] at c5
      unfold maxLen at hlk
      have HCE := Lib.hid hcells
      clear hF hcells HCb hv
      by_cases h10 : F.length ≤ 10
      · have h10I : ¬ (10 : Int) < (F.length : Int) := by omega
        have hFI : (F.length : Int) ≤ 10 := by omega
        go_wp2_with fail
        go_loopw [32] (fun i wi => ∃ j : Nat, j ≤ F.length ∧ i = .int .i64 (j : Int) ∧ Hid ((F.take j).all (fun x => decide (x.2.size ≤ 100)) = true) ∧ Hid (Below wr.heap.size wr wi)) (fun i _ => F.length - (intOf i).toNat)
        case atStart => exact ⟨0, by omega, rfl, Lib.hid rfl, Lib.hid ((Below.refl _ _).alloc (Nat.le_refl _) _)⟩
        case round =>
          obtain ⟨j, hj, rfl, HJ, HBi⟩ := hrel
          by_cases hjl : j < F.length
          · have hj0 : (0 : Int) ≤ (j : Int) := by omega
            have hjI : (j : Int) < (F.length : Int) := by omega
            obtain ⟨⟨t, s⟩, hx⟩ : ∃ x, F[j]? = some x := ⟨_, List.getElem?_eq_getElem hjl⟩
            obtain ⟨g2, o2, rfl, hg2, hcs⟩ := HCE.out (fun e => by rw [e] at hjl; simp at hjl)
            obtain ⟨d0, d1⟩ := hcs j _ hx
            have d0 := cellB HBi.out d0
            have d1 := cellB HBi.out d1
            have HT := Lib.hid (all_take_succ hx (fun x => decide (x.2.size ≤ 100)))
            have HX := Lib.hid hx
            clear hcs hx
            by_cases hsz : s.size ≤ 100
            · have hszI : ¬ (100 : Int) < (s.size : Int) := by omega
              have HN : Hid ((F.take (j + 1)).all (fun x => decide (x.2.size ≤ 100)) = true) := Lib.hid (by rw [HT.out, HJ.out]; simp [hsz])
              have HBn := Lib.hid (HBi.out.alloc HBi.out.size (.cells #[.int .u64 (t : Int), .string s] 37))
              go_wp2_with fail
              go_roundw
              case rel => exact ⟨j + 1, by omega, by go_num, HN, HBn⟩
              case measure => simp [intOf]; omega
            · have hszI : (100 : Int) < (s.size : Int) := by omega
              have HRf : Hid (R = false) := Lib.hid (HQ.out (by
                have h2 : F.all (fun x => decide (x.2.size ≤ 100)) = false := by
                  rw [List.all_eq_false]
                  exact ⟨(t, s), List.mem_of_getElem? HX.out, by simp [hsz]⟩
                unfold smallE
                rw [h2, Bool.and_false]))
              have HBn := Lib.hid (HB.out.trans ((HBi.out.alloc HBi.out.size (.cells #[.int .u64 (t : Int), .string s] 37)).mono HB.out.size))
              go_wp2_with fail
              go_ret
              rw [HRf.out]
              exact ⟨rfl, HBn.out⟩
          · have hje : j = F.length := by omega
            subst hje
            have hjI : ¬ (F.length : Int) < (F.length : Int) := by omega
            have HN := Lib.hid (HAk.out (by
              have := HJ.out
              rw [List.take_length] at this
              simp [smallE, h10, this]))
            have HBn := Lib.hid (HB.out.trans (HBi.out.mono HB.out.size))
            go_wp2_with fail
            go_roundw
            case rel => exact ⟨k + 1, by omega, by go_num, HN, HBn⟩
            case measure => simp [intOf]; omega
      · have h10I : (10 : Int) < (F.length : Int) := by omega
        have HRf : Hid (R = false) := Lib.hid (HQ.out (by simp [smallE, h10]))
        have HBn := Lib.hid (HB.out.alloc HB.out.size (.cells (actC (.slice a F.length cp)) 27))
        unfold actC at HBn
        go_wp2_with fail
        go_ret
        rw [HRf.out]
        exact ⟨rfl, HBn.out⟩
    · have hke : k = 2 := by omega
      subst hke
      have HRt : Hid (R = true) := Lib.hid (by rw [← HR.out, HA.out 0 (by omega), HA.out 1 (by omega)]; rfl)
      go_wp2_with fail
      go_ret
      rw [HRt.out]
      exact ⟨rfl, HB.out⟩
end Go.Proofs.Ytfocljmjejniiaa
