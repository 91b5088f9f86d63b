import Derived.Test.YtohcackebmmikaaDoorSAwake
import Derived.Test.YtohcackebmmikaaDoorShaMix
import Derived.Deep.DeepCutAuto
import Derived.Deep.RegionHeld3
namespace Go.Proofs.YtohcackebmmikaaDoor
open Go.RowKit

/-- What the program's function 'rounds' answers, and what it leaves of the world. -/
def RoundsOk : Prop := ∀ w : World, Start w →
  Calls Tryd.prog 66 #[] w fun e w' => e = .returned (.agg (arrL 64 (fun j => u32V (Kr j))).toArray) ∧ Below w.heap.size w w'

theorem start_range {w : World} (h : Start w) : w.rangeAt 0 0 (arrL 8 (fun j => u32V (X0.at j))) := fun j v hv => by
  have hj : j < 8 := by
    have := (List.getElem?_eq_some_iff.1 hv).1
    simpa [arrL] using this
  rw [arrL_get _ _ _ hj] at hv
  rw [Nat.zero_add, h.2 j hj]; exact hv

/-- A whole array into a variable, at one step. -/
theorem wp_store_arr {P : Program} {op : Oper} {a : Act} {w : World} {K : Act → World → Prop} {Q : Exit → Act → World → Prop} {ty : TypeId} {n : Nat} (hi : (P.info? ty).map (·.size) = some n)
    (x y : Operand) (ho : op.op = .store ty x y) (g : Nat) (t : TypeId) (f0 f : Nat → Value) (hx : a.eval x = .pointer (some ⟨g, 0, none⟩)) (hy : a.eval y = .agg (arrL n f).toArray)
    (hr : w.rowIs g t n f0) (h1 : ∀ j, (f j).oneCell' = true)
    (h : ∀ w', w'.rowIs g t n f → Only g w w' → K (a.put op.dst undef) w') : op.wp P a w K Q := by
  have hb := rowIs_block hr
  refine wp_store_mid ty x y ho g 0 _ hx hy ?_ (by rw [hi]; simp [arrL]) (all_oneCell_toArray (by
    intro v hv; simp [arrL] at hv; obtain ⟨j, _, rfl⟩ := hv; exact h1 j)) ?_
  · intro j hj
    have hj' : j < n := by simpa [arrL] using hj
    rw [Nat.zero_add]
    exact ⟨by rw [hr.cell hj']; rfl, hr.frozen j⟩
  · obtain ⟨h2, h3⟩ := setCells_heap (arrL n f) w g 0 _ t hb (by simp [arrL])
    refine h _ (rowIs_of_block ?_) (by simpa using h3)
    have : (w.setCells g 0 (arrL n f).toArray.toList) = w.setCells g 0 (arrL n f) := by simp
    rw [this, h2]
    simp [arrL]

/-- A block laid anew, its world under a name. -/
theorem named {X : World} {o : Obj} {M : World → Prop} (h : ∀ W : World, W.heap[X.heap.size]? = some o → Below X.heap.size X W → X.heap.size + 1 ≤ W.heap.size → M W) : M (X.alloc o) :=
  h _ (heap_at_alloc X o) ((Below.refl _ _).alloc (Nat.le_refl _) o) (by simp)

theorem zeros_mod (a b : Nat) (h : a % 64 = b % 64) : zeros a = zeros b := by unfold zeros; omega
theorem pad_split (l : List UInt8) (n : Nat) (h1 : n ≤ l.length) (h2 : n % 64 = 0) :
    pad l = l.take n ++ (l.drop n ++ [128] ++ List.replicate (zeros (l.drop n).length) 0 ++ beB (8 * l.length) 8) := by
  have hz : zeros (l.drop n).length = zeros l.length := zeros_mod _ _ (by rw [List.length_drop]; omega)
  rw [hz]
  unfold pad
  rw [← List.append_assoc, ← List.append_assoc, ← List.append_assoc, List.take_append_drop]
theorem blk_s (s : ByteArray) (x : Nat) (h : x + 64 ≤ s.size) : s.extract x (x + 64) = ⟨(((pad s.data.toList).drop x).take 64).toArray⟩ := by
  have hl : s.data.toList.length = s.size := rfl
  apply ByteArray.ext; apply Array.toList_inj.1
  show (s.extract x (x + 64)).data.toList = _
  have e : pad s.data.toList = s.data.toList ++ ([128] ++ List.replicate (zeros s.data.toList.length) 0 ++ beB (8 * s.data.toList.length) 8) := by simp [pad]
  rw [e, List.drop_append_of_le_length (by omega), List.take_append_of_le_length (by rw [List.length_drop]; omega)]
  simp
theorem blk_e (P E : List UInt8) (n x : Nat) (h : E = P.drop n) : (⟨E.toArray⟩ : ByteArray).extract x (x + 64) = ⟨((P.drop (n + x)).take 64).toArray⟩ := by
  apply ByteArray.ext; apply Array.toList_inj.1
  subst h
  simp [List.drop_drop]
theorem hashB_go (K : Nat → Int) (P : List UInt8) (Z : St) (x : Nat) (h : x + 64 ≤ P.length) :
    hashB K ((P.length - x) / 64) Z (P.drop x) = hashB K ((P.length - (x + 64)) / 64) (comp K Z ⟨((P.drop x).take 64).toArray⟩) (P.drop (x + 64)) := by
  have e : (P.length - x) / 64 = (P.length - (x + 64)) / 64 + 1 := by omega
  rw [e]
  show hashB K _ (comp K Z _) ((P.drop x).drop 64) = _
  rw [List.drop_drop]
theorem tail_s (s : ByteArray) (n : Nat) : (s.extract n s.size).data.toList = s.data.toList.drop n := by
  simp
  rw [List.take_of_length_le]
  rw [List.length_drop]; exact Nat.le_refl _


set_option maxRecDepth 100000 in
set_option maxHeartbeats 4000000 in
theorem sum_prog (R : RoundsOk) : SumOk := by
  intro s w hs hst
  have HR := Lib.hid R
  have HS := Lib.hid hst
  clear R hst
  go_enter Tryd.func63, Tryd.ntmps63
  go_upto_region 1 with fail
  go_cut [3, 4] (fun s3 s4 wx => ∃ g h : Nat, s3 = .pointer (some ⟨g, 0, none⟩) ∧ s4 = .pointer (some ⟨h, 0, none⟩) ∧ g ≠ h ∧ w.heap.size ≤ g ∧ w.heap.size ≤ h ∧ wx.rowIs g 100 8 (fun j => u32V (X0.at j)) ∧ wx.rowIs h 101 64 (fun j => u32V (Kr j)) ∧ Below w.heap.size w wx)
  case first =>
    refine wp_region_noPanic ?_
    refine wp_region_held_drew (S := fun w' => Below w.heap.size w w') (by kernel_rfl) ((Below.refl _ _).drew) (fun hHeld => ?_)
    refine wpAnyH_take (i := 0) (v := .agg (arrL 8 (fun j => u32V (X0.at j))).toArray) rfl (by kernel_rfl) (by kernel_rfl) (by kernel_rfl) (fun _ _ _ h => h)
      (yieldsIf_load_mid (by rfl) 100 _ rfl 0 0 rfl _ _ (fun w' h => start_range (HS.out.later h)) Tryd.underlying100 rfl (by kernel_rfl)) hHeld ?_
    try simp only [Act.put, List.getElem_toArray, List.getElem_cons_zero, List.setIfInBounds_toArray, List.set_cons_zero, List.set_cons_succ]
    generalize w.drew = W0 at hHeld ⊢
    have sz0 := hHeld.size
    refine wpAnyH_ready (rs := [1, 2, 3]) (by kernel_rfl) (by simp) ?_
    refine AllReadyH.cons rfl (fun K hK => ?_) ?_
    ·
      try simp only [Act.put, List.getElem_toArray, List.getElem_cons_zero, List.getElem_cons_succ, List.setIfInBounds_toArray, List.set_cons_zero, List.set_cons_succ]
      go_simp
      go_at_call 66; refine (HR.out _ (HS.out.later hHeld)).mono ?_; rintro e W1 ⟨rfl, hb1⟩
      go_wp2_with fail
      have H1 := hHeld.trans (hb1.mono hHeld.size)
      refine hK.out _ _ H1 (fun _ => ?_)
      clear hK K
      try simp only [Act.put, List.getElem_toArray, List.getElem_cons_zero, List.getElem_cons_succ, List.setIfInBounds_toArray, List.set_cons_zero, List.set_cons_succ]
      have sz1 := hb1.size
      refine wpAnyH_ready (rs := [2, 3]) (by kernel_rfl) (by simp) ?_
      refine AllReadyH.cons rfl (fun K hK => ?_) ?_
      ·
        try simp only [Act.put, List.getElem_toArray, List.getElem_cons_zero, List.getElem_cons_succ, List.setIfInBounds_toArray, List.set_cons_zero, List.set_cons_succ]
        go_simp
        refine hK.out _ _ (H1.alloc H1.size _) (fun _ => ?_)
        clear hK K
        try simp only [Act.put, List.getElem_toArray, List.getElem_cons_zero, List.getElem_cons_succ, List.setIfInBounds_toArray, List.set_cons_zero, List.set_cons_succ]
        refine named (M := wpAnyH _ _ _ _ _ _ _ _) ?_
        intro W2 hk2 hb2 sz2
        have H2 := H1.trans (hb2.mono H1.size)
        have r2 : W2.rowIs W1.heap.size 100 8 (fun _ => u32V 0) := rowIs_of_block (hk2.trans rfl)
        clear hk2
        refine wpAnyH_ready (rs := [3]) (by kernel_rfl) (by simp) ?_
        refine AllReadyH.cons rfl (fun K hK => ?_) AllReadyH.nil
        try simp only [Act.put, List.getElem_toArray, List.getElem_cons_zero, List.getElem_cons_succ, List.setIfInBounds_toArray, List.set_cons_zero, List.set_cons_succ]
        go_simp
        refine hK.out _ _ (H2.alloc H2.size _) (fun _ => ?_)
        clear hK K
        try simp only [Act.put, List.getElem_toArray, List.getElem_cons_zero, List.getElem_cons_succ, List.setIfInBounds_toArray, List.set_cons_zero, List.set_cons_succ]
        refine named (M := wpAnyH _ _ _ _ _ _ _ _) ?_
        intro W3 hk3 hb3 sz3
        have H3 := H2.trans (hb3.mono H2.size)
        have r3 : W3.rowIs W2.heap.size 101 64 (fun _ => u32V 0) := rowIs_of_block (hk3.trans rfl)
        clear hk3
        have r2_3 := rowIs_later r2 hb3
        refine wpAnyH_ready (rs := [4]) (by kernel_rfl) (by simp) ?_
        refine AllReadyH.cons rfl (fun K hK => ?_) AllReadyH.nil
        try simp only [Act.put, List.getElem_toArray, List.getElem_cons_zero, List.getElem_cons_succ]
        rw [if_pos (by rfl)]
        refine wp_store_arr (ty := 100) (n := 8) (by kernel_rfl) _ _ rfl W1.heap.size 100 (fun _ => u32V 0) (fun j => u32V (X0.at j)) rfl rfl r2_3 (fun _ => rfl) ?_
        intro V1 hX ho1
        have hV1 := H3.trans (ho1.below (B := w.heap.size) (by omega) H3.size)
        refine hK.out _ _ hV1 (fun _ => ?_)
        clear hK K
        try simp only [Act.put]
        refine wpAnyH_ready (rs := [5]) (by kernel_rfl) (by simp) ?_
        refine AllReadyH.cons rfl (fun K hK => ?_) AllReadyH.nil
        try simp only [Act.put, List.getElem_toArray, List.getElem_cons_zero, List.getElem_cons_succ]
        rw [if_pos (by rfl)]
        refine wp_store_arr (ty := 101) (n := 64) (by kernel_rfl) _ _ rfl W2.heap.size 101 (fun _ => u32V 0) (fun j => u32V (Kr j)) rfl rfl (ho1.row r3 (by omega)) (fun _ => rfl) ?_
        intro V2 hK2 ho2
        have hV2 := hV1.trans (ho2.below (B := w.heap.size) (by omega) hV1.size)
        refine hK.out _ _ hV2 (fun _ => ?_)
        clear hK K
        try simp only [Act.put]
        refine wpAnyH_done (by kernel_rfl) ?_ _
        refine NoPanic.normal ?_
        go_wp2_with fail
        go_meet
        exact ⟨W1.heap.size, W2.heap.size, rfl, rfl, by omega, by omega, by omega, ho2.row hX (by omega), hK2, hV2⟩
      refine AllReadyH.cons rfl (fun K hK => ?_) AllReadyH.nil
      try simp only [Act.put, List.getElem_toArray, List.getElem_cons_zero, List.getElem_cons_succ, List.setIfInBounds_toArray, List.set_cons_zero, List.set_cons_succ]
      go_simp
      refine hK.out _ _ (H1.alloc H1.size _) (fun _ => ?_)
      clear hK K
      try simp only [Act.put, List.getElem_toArray, List.getElem_cons_zero, List.getElem_cons_succ, List.setIfInBounds_toArray, List.set_cons_zero, List.set_cons_succ]
      refine named (M := wpAnyH _ _ _ _ _ _ _ _) ?_
      intro W4 hk4 hb4 sz4
      have H4 := H1.trans (hb4.mono H1.size)
      have r4 : W4.rowIs W1.heap.size 101 64 (fun _ => u32V 0) := rowIs_of_block (hk4.trans rfl)
      clear hk4
      refine wpAnyH_ready (rs := [2]) (by kernel_rfl) (by simp) ?_
      refine AllReadyH.cons rfl (fun K hK => ?_) AllReadyH.nil
      try simp only [Act.put, List.getElem_toArray, List.getElem_cons_zero, List.getElem_cons_succ, List.setIfInBounds_toArray, List.set_cons_zero, List.set_cons_succ]
      go_simp
      refine hK.out _ _ (H4.alloc H4.size _) (fun _ => ?_)
      clear hK K
      try simp only [Act.put, List.getElem_toArray, List.getElem_cons_zero, List.getElem_cons_succ, List.setIfInBounds_toArray, List.set_cons_zero, List.set_cons_succ]
      refine named (M := wpAnyH _ _ _ _ _ _ _ _) ?_
      intro W5 hk5 hb5 sz5
      have H5 := H4.trans (hb5.mono H4.size)
      have r5 : W5.rowIs W4.heap.size 100 8 (fun _ => u32V 0) := rowIs_of_block (hk5.trans rfl)
      clear hk5
      have r4_5 := rowIs_later r4 hb5
      refine wpAnyH_ready (rs := [4]) (by kernel_rfl) (by simp) ?_
      refine AllReadyH.cons rfl (fun K hK => ?_) AllReadyH.nil
      try simp only [Act.put, List.getElem_toArray, List.getElem_cons_zero, List.getElem_cons_succ]
      rw [if_pos (by rfl)]
      refine wp_store_arr (ty := 100) (n := 8) (by kernel_rfl) _ _ rfl W4.heap.size 100 (fun _ => u32V 0) (fun j => u32V (X0.at j)) rfl rfl r5 (fun _ => rfl) ?_
      intro V1 hX ho1
      have hV1 := H5.trans (ho1.below (B := w.heap.size) (by omega) H5.size)
      refine hK.out _ _ hV1 (fun _ => ?_)
      clear hK K
      try simp only [Act.put]
      refine wpAnyH_ready (rs := [5]) (by kernel_rfl) (by simp) ?_
      refine AllReadyH.cons rfl (fun K hK => ?_) AllReadyH.nil
      try simp only [Act.put, List.getElem_toArray, List.getElem_cons_zero, List.getElem_cons_succ]
      rw [if_pos (by rfl)]
      refine wp_store_arr (ty := 101) (n := 64) (by kernel_rfl) _ _ rfl W1.heap.size 101 (fun _ => u32V 0) (fun j => u32V (Kr j)) rfl rfl (ho1.row r4_5 (by omega)) (fun _ => rfl) ?_
      intro V2 hK2 ho2
      have hV2 := hV1.trans (ho2.below (B := w.heap.size) (by omega) hV1.size)
      refine hK.out _ _ hV2 (fun _ => ?_)
      clear hK K
      try simp only [Act.put]
      refine wpAnyH_done (by kernel_rfl) ?_ _
      refine NoPanic.normal ?_
      go_wp2_with fail
      go_meet
      exact ⟨W4.heap.size, W1.heap.size, rfl, rfl, by omega, by omega, by omega, ho2.row hX (by omega), hK2, hV2⟩
    refine AllReadyH.cons rfl (fun K hK => ?_) ?_
    ·
      try simp only [Act.put, List.getElem_toArray, List.getElem_cons_zero, List.getElem_cons_succ, List.setIfInBounds_toArray, List.set_cons_zero, List.set_cons_succ]
      go_simp
      refine hK.out _ _ (hHeld.alloc hHeld.size _) (fun _ => ?_)
      clear hK K
      try simp only [Act.put, List.getElem_toArray, List.getElem_cons_zero, List.getElem_cons_succ, List.setIfInBounds_toArray, List.set_cons_zero, List.set_cons_succ]
      refine named (M := wpAnyH _ _ _ _ _ _ _ _) ?_
      intro W6 hk6 hb6 sz6
      have H6 := hHeld.trans (hb6.mono hHeld.size)
      have r6 : W6.rowIs W0.heap.size 100 8 (fun _ => u32V 0) := rowIs_of_block (hk6.trans rfl)
      clear hk6
      refine wpAnyH_ready (rs := [1, 3]) (by kernel_rfl) (by simp) ?_
      refine AllReadyH.cons rfl (fun K hK => ?_) ?_
      ·
        try simp only [Act.put, List.getElem_toArray, List.getElem_cons_zero, List.getElem_cons_succ, List.setIfInBounds_toArray, List.set_cons_zero, List.set_cons_succ]
        go_simp
        go_at_call 66; refine (HR.out _ (HS.out.later H6)).mono ?_; rintro e W7 ⟨rfl, hb7⟩
        go_wp2_with fail
        have H7 := H6.trans (hb7.mono H6.size)
        refine hK.out _ _ H7 (fun _ => ?_)
        clear hK K
        try simp only [Act.put, List.getElem_toArray, List.getElem_cons_zero, List.getElem_cons_succ, List.setIfInBounds_toArray, List.set_cons_zero, List.set_cons_succ]
        have r6_7 := rowIs_later r6 hb7
        have sz7 := hb7.size
        refine wpAnyH_ready (rs := [3]) (by kernel_rfl) (by simp) ?_
        refine AllReadyH.cons rfl (fun K hK => ?_) AllReadyH.nil
        try simp only [Act.put, List.getElem_toArray, List.getElem_cons_zero, List.getElem_cons_succ, List.setIfInBounds_toArray, List.set_cons_zero, List.set_cons_succ]
        go_simp
        refine hK.out _ _ (H7.alloc H7.size _) (fun _ => ?_)
        clear hK K
        try simp only [Act.put, List.getElem_toArray, List.getElem_cons_zero, List.getElem_cons_succ, List.setIfInBounds_toArray, List.set_cons_zero, List.set_cons_succ]
        refine named (M := wpAnyH _ _ _ _ _ _ _ _) ?_
        intro W8 hk8 hb8 sz8
        have H8 := H7.trans (hb8.mono H7.size)
        have r8 : W8.rowIs W7.heap.size 101 64 (fun _ => u32V 0) := rowIs_of_block (hk8.trans rfl)
        clear hk8
        have r6_7_8 := rowIs_later r6_7 hb8
        refine wpAnyH_ready (rs := [4]) (by kernel_rfl) (by simp) ?_
        refine AllReadyH.cons rfl (fun K hK => ?_) AllReadyH.nil
        try simp only [Act.put, List.getElem_toArray, List.getElem_cons_zero, List.getElem_cons_succ]
        rw [if_pos (by rfl)]
        refine wp_store_arr (ty := 100) (n := 8) (by kernel_rfl) _ _ rfl W0.heap.size 100 (fun _ => u32V 0) (fun j => u32V (X0.at j)) rfl rfl r6_7_8 (fun _ => rfl) ?_
        intro V1 hX ho1
        have hV1 := H8.trans (ho1.below (B := w.heap.size) (by omega) H8.size)
        refine hK.out _ _ hV1 (fun _ => ?_)
        clear hK K
        try simp only [Act.put]
        refine wpAnyH_ready (rs := [5]) (by kernel_rfl) (by simp) ?_
        refine AllReadyH.cons rfl (fun K hK => ?_) AllReadyH.nil
        try simp only [Act.put, List.getElem_toArray, List.getElem_cons_zero, List.getElem_cons_succ]
        rw [if_pos (by rfl)]
        refine wp_store_arr (ty := 101) (n := 64) (by kernel_rfl) _ _ rfl W7.heap.size 101 (fun _ => u32V 0) (fun j => u32V (Kr j)) rfl rfl (ho1.row r8 (by omega)) (fun _ => rfl) ?_
        intro V2 hK2 ho2
        have hV2 := hV1.trans (ho2.below (B := w.heap.size) (by omega) hV1.size)
        refine hK.out _ _ hV2 (fun _ => ?_)
        clear hK K
        try simp only [Act.put]
        refine wpAnyH_done (by kernel_rfl) ?_ _
        refine NoPanic.normal ?_
        go_wp2_with fail
        go_meet
        exact ⟨W0.heap.size, W7.heap.size, rfl, rfl, by omega, by omega, by omega, ho2.row hX (by omega), hK2, hV2⟩
      refine AllReadyH.cons rfl (fun K hK => ?_) AllReadyH.nil
      try simp only [Act.put, List.getElem_toArray, List.getElem_cons_zero, List.getElem_cons_succ, List.setIfInBounds_toArray, List.set_cons_zero, List.set_cons_succ]
      go_simp
      refine hK.out _ _ (H6.alloc H6.size _) (fun _ => ?_)
      clear hK K
      try simp only [Act.put, List.getElem_toArray, List.getElem_cons_zero, List.getElem_cons_succ, List.setIfInBounds_toArray, List.set_cons_zero, List.set_cons_succ]
      refine named (M := wpAnyH _ _ _ _ _ _ _ _) ?_
      intro W9 hk9 hb9 sz9
      have H9 := H6.trans (hb9.mono H6.size)
      have r9 : W9.rowIs W6.heap.size 101 64 (fun _ => u32V 0) := rowIs_of_block (hk9.trans rfl)
      clear hk9
      have r6_9 := rowIs_later r6 hb9
      refine wpAnyH_ready (rs := [1]) (by kernel_rfl) (by simp) ?_
      refine AllReadyH.cons rfl (fun K hK => ?_) AllReadyH.nil
      try simp only [Act.put, List.getElem_toArray, List.getElem_cons_zero, List.getElem_cons_succ, List.setIfInBounds_toArray, List.set_cons_zero, List.set_cons_succ]
      go_simp
      go_at_call 66; refine (HR.out _ (HS.out.later H9)).mono ?_; rintro e W10 ⟨rfl, hb10⟩
      go_wp2_with fail
      have H10 := H9.trans (hb10.mono H9.size)
      refine hK.out _ _ H10 (fun _ => ?_)
      clear hK K
      try simp only [Act.put, List.getElem_toArray, List.getElem_cons_zero, List.getElem_cons_succ, List.setIfInBounds_toArray, List.set_cons_zero, List.set_cons_succ]
      have r6_9_10 := rowIs_later r6_9 hb10
      have r9_10 := rowIs_later r9 hb10
      have sz10 := hb10.size
      refine wpAnyH_ready (rs := [4]) (by kernel_rfl) (by simp) ?_
      refine AllReadyH.cons rfl (fun K hK => ?_) AllReadyH.nil
      try simp only [Act.put, List.getElem_toArray, List.getElem_cons_zero, List.getElem_cons_succ]
      rw [if_pos (by rfl)]
      refine wp_store_arr (ty := 100) (n := 8) (by kernel_rfl) _ _ rfl W0.heap.size 100 (fun _ => u32V 0) (fun j => u32V (X0.at j)) rfl rfl r6_9_10 (fun _ => rfl) ?_
      intro V1 hX ho1
      have hV1 := H10.trans (ho1.below (B := w.heap.size) (by omega) H10.size)
      refine hK.out _ _ hV1 (fun _ => ?_)
      clear hK K
      try simp only [Act.put]
      refine wpAnyH_ready (rs := [5]) (by kernel_rfl) (by simp) ?_
      refine AllReadyH.cons rfl (fun K hK => ?_) AllReadyH.nil
      try simp only [Act.put, List.getElem_toArray, List.getElem_cons_zero, List.getElem_cons_succ]
      rw [if_pos (by rfl)]
      refine wp_store_arr (ty := 101) (n := 64) (by kernel_rfl) _ _ rfl W6.heap.size 101 (fun _ => u32V 0) (fun j => u32V (Kr j)) rfl rfl (ho1.row r9_10 (by omega)) (fun _ => rfl) ?_
      intro V2 hK2 ho2
      have hV2 := hV1.trans (ho2.below (B := w.heap.size) (by omega) hV1.size)
      refine hK.out _ _ hV2 (fun _ => ?_)
      clear hK K
      try simp only [Act.put]
      refine wpAnyH_done (by kernel_rfl) ?_ _
      refine NoPanic.normal ?_
      go_wp2_with fail
      go_meet
      exact ⟨W0.heap.size, W6.heap.size, rfl, rfl, by omega, by omega, by omega, ho2.row hX (by omega), hK2, hV2⟩
    refine AllReadyH.cons rfl (fun K hK => ?_) AllReadyH.nil
    try simp only [Act.put, List.getElem_toArray, List.getElem_cons_zero, List.getElem_cons_succ, List.setIfInBounds_toArray, List.set_cons_zero, List.set_cons_succ]
    go_simp
    refine hK.out _ _ (hHeld.alloc hHeld.size _) (fun _ => ?_)
    clear hK K
    try simp only [Act.put, List.getElem_toArray, List.getElem_cons_zero, List.getElem_cons_succ, List.setIfInBounds_toArray, List.set_cons_zero, List.set_cons_succ]
    refine named (M := wpAnyH _ _ _ _ _ _ _ _) ?_
    intro W11 hk11 hb11 sz11
    have H11 := hHeld.trans (hb11.mono hHeld.size)
    have r11 : W11.rowIs W0.heap.size 101 64 (fun _ => u32V 0) := rowIs_of_block (hk11.trans rfl)
    clear hk11
    refine wpAnyH_ready (rs := [1, 2]) (by kernel_rfl) (by simp) ?_
    refine AllReadyH.cons rfl (fun K hK => ?_) ?_
    ·
      try simp only [Act.put, List.getElem_toArray, List.getElem_cons_zero, List.getElem_cons_succ, List.setIfInBounds_toArray, List.set_cons_zero, List.set_cons_succ]
      go_simp
      go_at_call 66; refine (HR.out _ (HS.out.later H11)).mono ?_; rintro e W12 ⟨rfl, hb12⟩
      go_wp2_with fail
      have H12 := H11.trans (hb12.mono H11.size)
      refine hK.out _ _ H12 (fun _ => ?_)
      clear hK K
      try simp only [Act.put, List.getElem_toArray, List.getElem_cons_zero, List.getElem_cons_succ, List.setIfInBounds_toArray, List.set_cons_zero, List.set_cons_succ]
      have r11_12 := rowIs_later r11 hb12
      have sz12 := hb12.size
      refine wpAnyH_ready (rs := [2]) (by kernel_rfl) (by simp) ?_
      refine AllReadyH.cons rfl (fun K hK => ?_) AllReadyH.nil
      try simp only [Act.put, List.getElem_toArray, List.getElem_cons_zero, List.getElem_cons_succ, List.setIfInBounds_toArray, List.set_cons_zero, List.set_cons_succ]
      go_simp
      refine hK.out _ _ (H12.alloc H12.size _) (fun _ => ?_)
      clear hK K
      try simp only [Act.put, List.getElem_toArray, List.getElem_cons_zero, List.getElem_cons_succ, List.setIfInBounds_toArray, List.set_cons_zero, List.set_cons_succ]
      refine named (M := wpAnyH _ _ _ _ _ _ _ _) ?_
      intro W13 hk13 hb13 sz13
      have H13 := H12.trans (hb13.mono H12.size)
      have r13 : W13.rowIs W12.heap.size 100 8 (fun _ => u32V 0) := rowIs_of_block (hk13.trans rfl)
      clear hk13
      have r11_12_13 := rowIs_later r11_12 hb13
      refine wpAnyH_ready (rs := [4]) (by kernel_rfl) (by simp) ?_
      refine AllReadyH.cons rfl (fun K hK => ?_) AllReadyH.nil
      try simp only [Act.put, List.getElem_toArray, List.getElem_cons_zero, List.getElem_cons_succ]
      rw [if_pos (by rfl)]
      refine wp_store_arr (ty := 100) (n := 8) (by kernel_rfl) _ _ rfl W12.heap.size 100 (fun _ => u32V 0) (fun j => u32V (X0.at j)) rfl rfl r13 (fun _ => rfl) ?_
      intro V1 hX ho1
      have hV1 := H13.trans (ho1.below (B := w.heap.size) (by omega) H13.size)
      refine hK.out _ _ hV1 (fun _ => ?_)
      clear hK K
      try simp only [Act.put]
      refine wpAnyH_ready (rs := [5]) (by kernel_rfl) (by simp) ?_
      refine AllReadyH.cons rfl (fun K hK => ?_) AllReadyH.nil
      try simp only [Act.put, List.getElem_toArray, List.getElem_cons_zero, List.getElem_cons_succ]
      rw [if_pos (by rfl)]
      refine wp_store_arr (ty := 101) (n := 64) (by kernel_rfl) _ _ rfl W0.heap.size 101 (fun _ => u32V 0) (fun j => u32V (Kr j)) rfl rfl (ho1.row r11_12_13 (by omega)) (fun _ => rfl) ?_
      intro V2 hK2 ho2
      have hV2 := hV1.trans (ho2.below (B := w.heap.size) (by omega) hV1.size)
      refine hK.out _ _ hV2 (fun _ => ?_)
      clear hK K
      try simp only [Act.put]
      refine wpAnyH_done (by kernel_rfl) ?_ _
      refine NoPanic.normal ?_
      go_wp2_with fail
      go_meet
      exact ⟨W12.heap.size, W0.heap.size, rfl, rfl, by omega, by omega, by omega, ho2.row hX (by omega), hK2, hV2⟩
    refine AllReadyH.cons rfl (fun K hK => ?_) AllReadyH.nil
    try simp only [Act.put, List.getElem_toArray, List.getElem_cons_zero, List.getElem_cons_succ, List.setIfInBounds_toArray, List.set_cons_zero, List.set_cons_succ]
    go_simp
    refine hK.out _ _ (H11.alloc H11.size _) (fun _ => ?_)
    clear hK K
    try simp only [Act.put, List.getElem_toArray, List.getElem_cons_zero, List.getElem_cons_succ, List.setIfInBounds_toArray, List.set_cons_zero, List.set_cons_succ]
    refine named (M := wpAnyH _ _ _ _ _ _ _ _) ?_
    intro W14 hk14 hb14 sz14
    have H14 := H11.trans (hb14.mono H11.size)
    have r14 : W14.rowIs W11.heap.size 100 8 (fun _ => u32V 0) := rowIs_of_block (hk14.trans rfl)
    clear hk14
    have r11_14 := rowIs_later r11 hb14
    refine wpAnyH_ready (rs := [1]) (by kernel_rfl) (by simp) ?_
    refine AllReadyH.cons rfl (fun K hK => ?_) AllReadyH.nil
    try simp only [Act.put, List.getElem_toArray, List.getElem_cons_zero, List.getElem_cons_succ, List.setIfInBounds_toArray, List.set_cons_zero, List.set_cons_succ]
    go_simp
    go_at_call 66; refine (HR.out _ (HS.out.later H14)).mono ?_; rintro e W15 ⟨rfl, hb15⟩
    go_wp2_with fail
    have H15 := H14.trans (hb15.mono H14.size)
    refine hK.out _ _ H15 (fun _ => ?_)
    clear hK K
    try simp only [Act.put, List.getElem_toArray, List.getElem_cons_zero, List.getElem_cons_succ, List.setIfInBounds_toArray, List.set_cons_zero, List.set_cons_succ]
    have r11_14_15 := rowIs_later r11_14 hb15
    have r14_15 := rowIs_later r14 hb15
    have sz15 := hb15.size
    refine wpAnyH_ready (rs := [4]) (by kernel_rfl) (by simp) ?_
    refine AllReadyH.cons rfl (fun K hK => ?_) AllReadyH.nil
    try simp only [Act.put, List.getElem_toArray, List.getElem_cons_zero, List.getElem_cons_succ]
    rw [if_pos (by rfl)]
    refine wp_store_arr (ty := 100) (n := 8) (by kernel_rfl) _ _ rfl W11.heap.size 100 (fun _ => u32V 0) (fun j => u32V (X0.at j)) rfl rfl r14_15 (fun _ => rfl) ?_
    intro V1 hX ho1
    have hV1 := H15.trans (ho1.below (B := w.heap.size) (by omega) H15.size)
    refine hK.out _ _ hV1 (fun _ => ?_)
    clear hK K
    try simp only [Act.put]
    refine wpAnyH_ready (rs := [5]) (by kernel_rfl) (by simp) ?_
    refine AllReadyH.cons rfl (fun K hK => ?_) AllReadyH.nil
    try simp only [Act.put, List.getElem_toArray, List.getElem_cons_zero, List.getElem_cons_succ]
    rw [if_pos (by rfl)]
    refine wp_store_arr (ty := 101) (n := 64) (by kernel_rfl) _ _ rfl W0.heap.size 101 (fun _ => u32V 0) (fun j => u32V (Kr j)) rfl rfl (ho1.row r11_14_15 (by omega)) (fun _ => rfl) ?_
    intro V2 hK2 ho2
    have hV2 := hV1.trans (ho2.below (B := w.heap.size) (by omega) hV1.size)
    refine hK.out _ _ hV2 (fun _ => ?_)
    clear hK K
    try simp only [Act.put]
    refine wpAnyH_done (by kernel_rfl) ?_ _
    refine NoPanic.normal ?_
    go_wp2_with fail
    go_meet
    exact ⟨W11.heap.size, W0.heap.size, rfl, rfl, by omega, by omega, by omega, ho2.row hX (by omega), hK2, hV2⟩
  case rest =>
    obtain ⟨g, h, rfl, rfl, hgh, hg, hh, hX, hK, hb⟩ := hcut
    obtain ⟨wh, hwh⟩ : ∃ wh : Nat, (s.size : Int) - s.size % 64 = (wh : Int) := ⟨s.size - s.size % 64, by omega⟩
    have m1 : wh % 64 = 0 := by omega
    have m2 : wh ≤ s.size := by omega
    have m3 : s.size < wh + 64 := by omega
    obtain ⟨P, hP⟩ : ∃ P, P = pad s.data.toList := ⟨_, rfl⟩
    have hpl := pad_length s.data.toList
    rw [← hP] at hpl
    have p1 := hpl.1
    have p2 : P.length ≤ 100073 := by have := hpl.2; have e : s.data.toList.length = s.size := rfl; omega
    have p3 : s.size + 9 ≤ P.length := by
      rw [hP]; unfold pad; simp [beB_length]
    have TOT := Lib.hid (show sumL s.data.toList = outL (hashB Kr (P.length / 64) X0 P) 8 by rw [hP]; rfl)
    have HP := Lib.hid hP
    have hx0 : X0.ok := by unfold St.ok inU; decide +kernel
    have HW := Lib.hid hwh
    clear hpl hP hwh
    go_wp2_with fail
    rw [HW.out]
    go_loopw [6] (fun v wr => ∃ (x : Nat) (Z : St), v = .int .i64 x ∧ x % 64 = 0 ∧ x ≤ wh ∧ Hid Z.ok ∧ wr.rowIs g 100 8 (fun j => u32V (Z.at j)) ∧ wr.rowIs h 101 64 (fun j => u32V (Kr j)) ∧ Below w.heap.size w wr ∧
        Hid (hashB Kr ((P.length - x) / 64) Z (P.drop x) = hashB Kr (P.length / 64) X0 P)) (fun v _ => 100100 - (intOf v).toNat)
    case atStart => exact ⟨0, X0, rfl, by omega, by omega, Lib.hid hx0, hX, hK, hb, Lib.hid rfl⟩
    case round =>
      obtain ⟨x, Z, rfl, x1, x2, hok, hX, hK, hb, ht⟩ := hrel
      by_cases hlt : x < wh
      · have hex : Hid (s.extract x (x + 64) = ⟨((P.drop x).take 64).toArray⟩) := Lib.hid (by rw [HP.out]; exact blk_s s x (by omega))
        have hsz : (s.extract x (x + 64)).size = 64 := by simp; omega
        have HSZ := Lib.hid hsz
        clear hsz
        go_wp2_with (first
          | (go_at_call 67; refine (mix_prog g h 100 101 Z Kr _ _ HSZ.out hok.out hX hK).mono ?_; rintro e w1 ⟨rfl, hX1, ho1⟩))
        go_roundw
        case rel =>
          refine ⟨x + 64, comp Kr Z (s.extract x (x + 64)), by go_num, by omega, by omega, Lib.hid (comp_ok _ _ _), hX1, ho1.row hK (Ne.symm hgh), hb.trans (ho1.below hg hb.size), Lib.hid ?_⟩
          rw [← ht.out, hashB_go Kr P Z x (by omega), ← hex.out]
        case measure => simp [intOf]; omega
      · obtain ⟨E, hE⟩ : ∃ E, E = P.drop wh := ⟨_, rfl⟩
        have he1 : E.length + wh ≤ P.length := by rw [hE, List.length_drop]; omega
        have he2 : P.length ≤ E.length + wh := by rw [hE, List.length_drop]; omega
        have hex : Hid (x = wh) := Lib.hid (by omega)
        have HE := Lib.hid hE
        have HEND : Hid (∀ W : World, Calls Tryd.prog 68 #[.string (s.extract wh s.size), .int .u64 s.size] W fun e w' => e = .returned (.string ⟨E.toArray⟩) ∧ Below W.heap.size W w') := Lib.hid (fun W => by
          have hq := ending_prog (s.extract wh s.size) s.size W (by simp; omega) (by omega)
          have e : E = (s.extract wh s.size).data.toList ++ [128] ++ List.replicate (zeros (s.extract wh s.size).size) 0 ++ beB (8 * s.size) 8 := by
            have hl : s.data.toList.length = s.size := rfl
            have hl2 : (s.extract wh s.size).size = (s.data.toList.drop wh).length := by simp
            have ht : (s.data.toList.take wh).length = wh := by rw [List.length_take]; omega
            rw [hE, HP.out, pad_split s.data.toList wh (by omega) m1, List.drop_append_of_le_length (by omega), List.drop_of_length_le (by omega), hl2, tail_s, hl]
            rfl
          rw [← e] at hq
          exact hq)
        clear hE
        go_wp2_with (first
          | (go_at_call 68; refine (HEND.out _).mono ?_; rintro e w1 ⟨rfl, hb1⟩))
        replace hX := rowIs_later hX hb1
        replace hK := rowIs_later hK hb1
        have hb2 := hb.trans (hb1.mono hb.size)
        have ht2 : Hid (hashB Kr ((P.length - (wh + 0)) / 64) Z (P.drop (wh + 0)) = hashB Kr (P.length / 64) X0 P) := Lib.hid (by rw [Nat.add_zero, ← hex.out]; exact ht.out)
        clear hb hb1 ht hlt
        go_wp2_with fail
        go_loopw [8] (fun v wx => ∃ (y : Nat) (Y : St), v = .int .i64 y ∧ y % 64 = 0 ∧ y ≤ E.length ∧ Hid Y.ok ∧ wx.rowIs g 100 8 (fun j => u32V (Y.at j)) ∧ wx.rowIs h 101 64 (fun j => u32V (Kr j)) ∧ Below w.heap.size w wx ∧
            Hid (hashB Kr ((P.length - (wh + y)) / 64) Y (P.drop (wh + y)) = hashB Kr (P.length / 64) X0 P)) (fun v _ => 100100 - (intOf v).toNat)
        case atStart => exact ⟨0, Z, rfl, by omega, by omega, hok, hX, hK, hb2, ht2⟩
        case round =>
          clear ht2 hX hK hb2 hok
          obtain ⟨y, Y, rfl, y1, y2, hok, hX, hK, hb, ht⟩ := hrel
          by_cases hlt : y < E.length
          · have hbl : Hid ((⟨E.toArray⟩ : ByteArray).extract y (y + 64) = ⟨((P.drop (wh + y)).take 64).toArray⟩) := Lib.hid (blk_e P E wh y HE.out)
            have hsz : ((⟨E.toArray⟩ : ByteArray).extract y (y + 64)).size = 64 := by have hm := mk_size E; simp; omega
            have HSZ := Lib.hid hsz
            clear hsz
            go_wp2_with (first
              | (go_at_call 67; refine (mix_prog g h 100 101 Y Kr _ _ HSZ.out hok.out hX hK).mono ?_; rintro e w2 ⟨rfl, hX1, ho1⟩))
            go_roundw
            case rel =>
              refine ⟨y + 64, comp Kr Y ((⟨E.toArray⟩ : ByteArray).extract y (y + 64)), by go_num, by omega, by omega, Lib.hid (comp_ok _ _ _), hX1, ho1.row hK (Ne.symm hgh), hb.trans (ho1.below hg hb.size), Lib.hid ?_⟩
              rw [← ht.out, hashB_go Kr P Y (wh + y) (by omega), ← hbl.out, Nat.add_assoc]
            case measure => simp [intOf]; omega
          · have hyy : Hid (Y = hashB Kr (P.length / 64) X0 P) := Lib.hid (by
              rw [← ht.out, show (P.length - (wh + y)) / 64 = 0 by omega]; rfl)
            have hy2 : Hid (y = E.length) := Lib.hid (by omega)
            go_wp2_with (first
              | (refine list_load_arr Tryd.underlying100 (by kernel_rfl) rfl _ rfl g 100 _ rfl hX ?_)
              | (go_at_call 69; refine (joined_prog Y _ hok.out).mono ?_; rintro e w2 ⟨rfl, hb2⟩))
            go_ret
            exact ⟨by rw [TOT.out, ← hyy.out]; rfl, hb.trans (hb2.mono hb.size)⟩
end Go.Proofs.YtohcackebmmikaaDoor
