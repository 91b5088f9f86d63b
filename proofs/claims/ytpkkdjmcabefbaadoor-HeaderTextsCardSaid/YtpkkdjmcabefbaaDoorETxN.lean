/- The program: a signed header as a node. -/
import Derived.Test.YtpkkdjmcabefbaaDoorETxP
import Derived.Test.YtpkkdjmcabefbaaDoorEP1
namespace Go.Proofs.YtpkkdjmcabefbaaDoor
open Go.RowKit
open Cod (F Nd nodeL nodeV KidsAt CellsOf)
def fldC (h : Hd) : List Value := [.int .i64 0, .int .u64 h.shard, .string ⟨#[]⟩, .slice none 0 0, .int .i64 0, .int .u64 h.seq, .string ⟨#[]⟩, .slice none 0 0, .int .i64 1, .int .u64 0, .string h.prev, .slice none 0 0, .int .i64 1, .int .u64 0, .string h.root, .slice none 0 0, .int .i64 0, .int .u64 h.who, .string ⟨#[]⟩, .slice none 0 0, .int .i64 0, .int .u64 h.stamp, .string ⟨#[]⟩, .slice none 0 0]
theorem fld_own {w : World} {B G : Nat} {h : Hd} (hB : B ≤ G) (e : w.heap[G]? = some (.cells #[.int .i64 0, .int .u64 h.shard, .string ⟨#[]⟩, .slice none 0 0, .int .i64 0, .int .u64 h.seq, .string ⟨#[]⟩, .slice none 0 0, .int .i64 1, .int .u64 0, .string h.prev, .slice none 0 0, .int .i64 1, .int .u64 0, .string h.root, .slice none 0 0, .int .i64 0, .int .u64 h.who, .string ⟨#[]⟩, .slice none 0 0, .int .i64 0, .int .u64 h.stamp, .string ⟨#[]⟩, .slice none 0 0] 46 (0, 0))) :
    w.ownsRow B 46 4 (.slice (some ⟨G, 0, none⟩) 6 6) 6 (fldC h) :=
  ⟨rfl, .inr ⟨G, 6, _, rfl, hB, e, Nat.le_refl _, by decide, rfl, rfl⟩⟩
theorem sg_cells (w : World) (S : Nat → Prop) (s : Sg) : CellsOf w S (sgF s) (fldC s.h ++ [.int .i64 1, .int .u64 0, .string s.mac, .slice none 0 0]) := by
  unfold sgF hdR fldC
  iterate 7 (refine ⟨_, _, rfl, Cod.KidsAt.nil _ _, ?_⟩)
  rfl
theorem own_low {w : World} {B : Nat} {e : TypeId} {size n : Nat} {v : Value} {xs : List Value} (h : w.ownsRow B e size v n xs) : ∀ k, v.ownBlock = some k → B ≤ k := Cod.ownN_low h
set_option maxHeartbeats 4000000 in
set_option maxRecDepth 100000 in
theorem pnode_prog (s : Sg) (m : Nat) (hok : s.Ok m) (hm : m ≤ 1000000) (hi : s.h.is = true) (w : World) :
    Calls Tryd.prog 18 #[sgV s] w fun e w' => ∃ a c, e = .returned (nodeV 2 0 ⟨#[]⟩ (.slice a 7 c)) ∧ Below w.heap.size w w' ∧ KidsAt w' (fun b => w.heap.size ≤ b ∧ b < w'.heap.size) (sgF s) (.slice a 7 c) := by
  have KI := Lib.hid (fun W => pis_prog s.h m hok.1 hm W)
  have KF := Lib.hid (fun W => pfields_prog s.h W)
  have KL := Lib.hid (fun v W (hk : KidsAt W (· < W.heap.size) (sgF s) v) => Cod.l_prog (sgF s) v (· < W.heap.size) W (by simp [sgF, hdR, F.deep]) (by rw [sgF_len]; unfold Cod.Lim; omega) (hok.f (by omega)) hk (fun _ h => h))
  unfold Cod.LRes at KL
  rw [sgF_len] at KL
  rw [hi] at KI
  unfold hdV at KI KF
  unfold sgV
  obtain ⟨W0, hW0⟩ : ∃ W0, W0 = (w.alloc (.cells #[.int .u64 s.h.shard, .int .u64 s.h.seq, .string s.h.prev, .string s.h.root, .int .u64 s.h.who, .int .u64 s.h.stamp, .string s.mac] 35)).alloc (.cells #[.int .i64 0, .int .u64 0, .string ⟨#[]⟩, .slice none 0 0] 46) := ⟨_, rfl⟩
  have HB0 := Lib.hid (show Below w.heap.size w W0 by rw [hW0]; exact ((Below.refl _ _).alloc (Nat.le_refl _) _).alloc (by simp) _)
  have HZ0 : Hid (W0.heap[w.heap.size]? = some (.cells #[.int .u64 s.h.shard, .int .u64 s.h.seq, .string s.h.prev, .string s.h.root, .int .u64 s.h.who, .int .u64 s.h.stamp, .string s.mac] 35 (0, 0))) := Lib.hid (by rw [hW0]; exact (Below.heap_alloc _ _ _ (by simp)).trans (heap_alloc_new _ _))
  have HR0 : Hid (W0.heap[w.heap.size + 1]? = some (.cells #[.int .i64 0, .int .u64 0, .string ⟨#[]⟩, .slice none 0 0] 46 (0, 0))) := Lib.hid (by rw [hW0]; simpa using heap_alloc_new (w.alloc (.cells #[.int .u64 s.h.shard, .int .u64 s.h.seq, .string s.h.prev, .string s.h.root, .int .u64 s.h.who, .int .u64 s.h.stamp, .string s.mac] 35)) _)
  obtain ⟨c0, c1, c2, c3, c4, c5, c6⟩ := cells7 HZ0.out
  clear hok hm hi
  go_enter Tryd.func18, Tryd.ntmps18
  go_upto_region 1 with fail
  simp only [← hW0]
  clear hW0
  go_wp2_with fail
  refine (KI.out _).mono ?_
  rintro e w1 ⟨rfl, hb1⟩
  have HB1 := Lib.hid (HB0.out.trans (hb1.mono HB0.out.size))
  have HZ1 := Lib.hid ((hb1.block _ (block_lt HZ0.out)).trans HZ0.out)
  have HR1 := Lib.hid ((hb1.block _ (block_lt HR0.out)).trans HR0.out)
  clear c0 c1 c2 c3 c4 c5 c6 hb1 HZ0 HR0 HB0 KI
  go_upto_region 3 with fail
  have HZD : w1.drew.heap[w.heap.size]? = some (.cells #[.int .u64 s.h.shard, .int .u64 s.h.seq, .string s.h.prev, .string s.h.root, .int .u64 s.h.who, .int .u64 s.h.stamp, .string s.mac] 35 (0, 0)) := HZ1.out
  have HRD : w1.drew.heap[w.heap.size + 1]? = some (.cells #[.int .i64 0, .int .u64 0, .string ⟨#[]⟩, .slice none 0 0] 46 (0, 0)) := HR1.out
  have HXD : Below w1.heap.size w1 w1.drew := (Below.refl _ _).drew
  refine wp_region_held_drew (S := fun w' => Below w.heap.size w w' ∧ w'.heap[w.heap.size]? = some (.cells #[.int .u64 s.h.shard, .int .u64 s.h.seq, .string s.h.prev, .string s.h.root, .int .u64 s.h.who, .int .u64 s.h.stamp, .string s.mac] 35 (0, 0))) (by kernel_rfl) (⟨HB1.out.drew, HZ1.out⟩) (fun hHeld => ?_)
  refine wpAnyH_take (i := 0) (v := ?_) rfl (by kernel_rfl) (by kernel_rfl) (by kernel_rfl) (fun _ _ _ h => h) (Or.inl ⟨by rfl, ?_⟩) hHeld ?_
  rotate_left
  · intro w' hSw; obtain ⟨c0, c1, c2, c3, c4, c5, c6⟩ := cells7 hSw.2; go_simp; first | done | with_reducible rfl | rfl
  try simp only [Act.put, List.getElem_toArray, List.getElem_cons_zero, List.setIfInBounds_toArray, List.set_cons_zero, List.set_cons_succ]
  refine wpAnyH_take (i := 1) (v := ?_) rfl (by kernel_rfl) (by kernel_rfl) (by kernel_rfl) (fun _ _ _ h => h) (Or.inl ⟨by rfl, ?_⟩) hHeld ?_
  rotate_left
  · intro w' hSw; obtain ⟨c0, c1, c2, c3, c4, c5, c6⟩ := cells7 hSw.2; go_simp; first | done | with_reducible rfl | rfl
  try simp only [Act.put, List.getElem_toArray, List.getElem_cons_zero, List.getElem_cons_succ, List.setIfInBounds_toArray, List.set_cons_zero, List.set_cons_succ]
  refine wpAnyH_take (i := 3) (v := ?_) rfl (by kernel_rfl) (by kernel_rfl) (by kernel_rfl) (fun _ _ _ h => h) (Or.inl ⟨by rfl, ?_⟩) hHeld ?_
  rotate_left
  · intro w' hSw; obtain ⟨c0, c1, c2, c3, c4, c5, c6⟩ := cells7 hSw.2; go_simp; first | done | with_reducible rfl | rfl
  try simp only [Act.put, List.getElem_toArray, List.getElem_cons_zero, List.getElem_cons_succ, List.setIfInBounds_toArray, List.set_cons_zero, List.set_cons_succ]
  refine wpAnyH_take (i := 4) (v := ?_) rfl (by kernel_rfl) (by kernel_rfl) (by kernel_rfl) (fun _ _ _ h => h) (Or.inl ⟨by rfl, ?_⟩) hHeld ?_
  rotate_left
  · intro w' hSw; obtain ⟨c0, c1, c2, c3, c4, c5, c6⟩ := cells7 hSw.2; go_simp; first | done | with_reducible rfl | rfl
  try simp only [Act.put, List.getElem_toArray, List.getElem_cons_zero, List.getElem_cons_succ, List.setIfInBounds_toArray, List.set_cons_zero, List.set_cons_succ]
  refine wpAnyH_ready (rs := [2]) (by kernel_rfl) (by simp) ?_
  refine AllReadyH.cons rfl (fun K hK => ?_) AllReadyH.nil
  try simp only [Act.put, List.getElem_toArray, List.getElem_cons_zero, List.getElem_cons_succ, List.setIfInBounds_toArray, List.set_cons_zero, List.set_cons_succ]
  go_simp
  go_at_call 38
  refine (KF.out _).mono ?_
  rintro e wf1 ⟨⟨v1, rfl, hf1⟩, hb1⟩
  obtain ⟨G, rfl, hGG, HG⟩ := hf1
  have hGX : w1.heap.size ≤ G := Nat.le_trans HXD.size hGG
  have HB_1 := HB1.out.drew.trans (hb1.mono HB1.out.drew.size)
  have HZ_1 := (hb1.block _ (block_lt HZD)).trans HZD
  have HR_1 := (hb1.block _ (block_lt HRD)).trans HRD
  have HX_1 := HXD.trans (hb1.mono HXD.size)
  go_wp2_with fail
  refine hK.out _ _ (⟨HB_1, HZ_1⟩) (fun hS1 => ?_)
  clear hK K
  try simp only [Act.put, List.getElem_toArray, List.getElem_cons_zero, List.getElem_cons_succ, List.setIfInBounds_toArray, List.set_cons_zero, List.set_cons_succ]
  refine wpAnyH_ready (rs := [5]) (by kernel_rfl) (by simp) ?_
  refine AllReadyH.cons rfl (fun K hK => ?_) AllReadyH.nil
  try simp only [Act.put, List.getElem_toArray, List.getElem_cons_zero, List.getElem_cons_succ, List.setIfInBounds_toArray, List.set_cons_zero, List.set_cons_succ]
  go_simp
  go_at_call 39
  refine (Cod.s_prog _ _).mono ?_
  unfold nodeV
  rintro e ws2 ⟨rfl, hb2⟩
  have HB_2 := HB_1.trans (hb2.mono HB_1.size)
  have HZ_2 := (hb2.block _ (block_lt HZ_1)).trans HZ_1
  have HR_2 := (hb2.block _ (block_lt HR_1)).trans HR_1
  have HX_2 := HX_1.trans (hb2.mono HX_1.size)
  have HG_2 := (hb2.block _ (block_lt HG)).trans HG
  go_wp2_with fail
  refine hK.out _ _ (⟨HB_2, HZ_2⟩) (fun hS2 => ?_)
  clear hK K
  try simp only [Act.put, List.getElem_toArray, List.getElem_cons_zero, List.getElem_cons_succ, List.setIfInBounds_toArray, List.set_cons_zero, List.set_cons_succ]
  refine wpAnyH_ready (rs := [6]) (by kernel_rfl) (by simp) ?_
  refine AllReadyH.cons rfl (fun K hK => ?_) AllReadyH.nil
  try simp only [Act.put, List.getElem_toArray, List.getElem_cons_zero, List.getElem_cons_succ, List.setIfInBounds_toArray, List.set_cons_zero, List.set_cons_succ]
  go_simp
  refine hK.out _ _ (⟨(HB_2.trans (((Below.refl _ _).alloc (Nat.le_refl _) _).mono HB_2.size)), ((((Below.refl _ _).alloc (Nat.le_refl _) _).block _ (block_lt HZ_2)).trans HZ_2)⟩) (fun hS3 => ?_)
  clear hK K
  try simp only [Act.put, List.getElem_toArray, List.getElem_cons_zero, List.getElem_cons_succ, List.setIfInBounds_toArray, List.set_cons_zero, List.set_cons_succ]
  clear hS3
  refine Cod.named (M := wpAnyH _ _ _ _ _ _ _ _) ?_
  intro wn3 HNN hb3 sz3
  have HB_3 := HB_2.trans (hb3.mono HB_2.size)
  have HZ_3 := (hb3.block _ (block_lt HZ_2)).trans HZ_2
  have HR_3 := (hb3.block _ (block_lt HR_2)).trans HR_2
  have HX_3 := HX_2.trans (hb3.mono HX_2.size)
  have HG_3 := (hb3.block _ (block_lt HG_2)).trans HG_2
  have hS3 : wn3.heap[w.heap.size]? = some (.cells #[.int .u64 s.h.shard, .int .u64 s.h.seq, .string s.h.prev, .string s.h.root, .int .u64 s.h.who, .int .u64 s.h.stamp, .string s.mac] 35 (0, 0)) ∧ True := ⟨HZ_3, trivial⟩
  have hQ3 := And.intro HB_3 HZ_3
  refine wpAnyH_ready (rs := [7]) (by kernel_rfl) (by simp) ?_
  refine AllReadyH.cons rfl (fun K hK => ?_) AllReadyH.nil
  refine Cod.step_appN Cod.Tryd.nodeSl rfl _ _ (by rfl) w1.heap.size (.slice (some ⟨G, 0, none⟩) 6 6) 6 (fldC s.h) (by rfl) (fld_own hGX HG_3) (ws2.heap.size) 1 1 [.int .i64 1, .int .u64 0, .string s.mac, .slice none 0 0] (by rfl) HNN rfl (by simp [Value.oneCell']) (by omega) (by unfold maxLen; omega) (by omega) HX_3.size ?_
  intro gA cA wa4 hoA hgA
  have hbA := hgA.below HX_3.size (fun kk hkk => own_low (fld_own hGX HG_3) kk hkk)
  have HBA := HB_3.trans (hbA.mono (Nat.le_trans HB1.out.size (Nat.le_refl _)))
  have HZA := (hbA.block _ (block_lt HZ1.out)).trans HZ_3
  have HRA := (hbA.block _ (block_lt HR1.out)).trans HR_3
  have HXA := HX_3.trans hbA
  have HKA := Lib.hid (Cod.kids_of_own (S' := fun b => b < wa4.heap.size) hoA (sg_cells wa4 (fun b => b < wa4.heap.size) s) (fun _ h => h) (fun kk hkk => (World.ownsRow.lt hoA kk hkk).2))
  refine hK.out _ _ (⟨HBA, HZA⟩) (fun hS4 => ?_)
  clear hK K
  try simp only [Act.put, List.getElem_toArray, List.getElem_cons_zero, List.getElem_cons_succ, List.setIfInBounds_toArray, List.set_cons_zero, List.set_cons_succ]
  refine wpAnyH_ready (rs := [8]) (by kernel_rfl) (by simp) ?_
  refine AllReadyH.cons rfl (fun K hK => ?_) AllReadyH.nil
  try simp only [Act.put, List.getElem_toArray, List.getElem_cons_zero, List.getElem_cons_succ, List.setIfInBounds_toArray, List.set_cons_zero, List.set_cons_succ]
  go_simp
  go_at_call 37
  refine (KL.out _ _ HKA.out).mono ?_
  rintro e wl5 ⟨la, lc, rfl, hb5, hkL⟩
  have HB_5 := HBA.trans (hb5.mono HBA.size)
  have HZ_5 := (hb5.block _ (block_lt HZA)).trans HZA
  have HR_5 := (hb5.block _ (block_lt HRA)).trans HRA
  have HX_5 := HXA.trans (hb5.mono HXA.size)
  have HKL := Lib.hid (hkL.mono (S' := fun b => w1.heap.size ≤ b ∧ b < wl5.heap.size) (fun b h => ⟨Nat.le_trans HXA.size h.1, h.2⟩) (fun _ _ => rfl))
  clear hkL
  go_wp2_with fail
  refine hK.out _ _ (⟨HB_5, HZ_5⟩) (fun hS5 => ?_)
  clear hK K
  try simp only [Act.put, List.getElem_toArray, List.getElem_cons_zero, List.getElem_cons_succ, List.setIfInBounds_toArray, List.set_cons_zero, List.set_cons_succ]
  refine wpAnyH_ready (rs := [9]) (by kernel_rfl) (by simp) ?_
  refine AllReadyH.cons rfl (fun K hK => ?_) AllReadyH.nil
  obtain ⟨z0, z1, z2, z3, f0, f1, f2, f3⟩ := Cod.block4 HR_5
  try simp only [Act.put, List.getElem_toArray, List.getElem_cons_zero, List.getElem_cons_succ]
  go_simp
  refine hK.out _ _ (⟨((((HB_5.setCell (Nat.le_succ _) _).setCell (Nat.le_succ _) _).setCell (Nat.le_succ _) _).setCell (Nat.le_succ _) _), ((((Cod.setCell_ne _ _ _ _ _ (by omega : w.heap.size ≠ w.heap.size + 1)).trans (Cod.setCell_ne _ _ _ _ _ (by omega : w.heap.size ≠ w.heap.size + 1))).trans (Cod.setCell_ne _ _ _ _ _ (by omega : w.heap.size ≠ w.heap.size + 1))).trans (Cod.setCell_ne _ _ _ _ _ (by omega : w.heap.size ≠ w.heap.size + 1))).trans HZ_5⟩) (fun hS6 => ?_)
  clear hK K
  try simp only [Act.put, List.getElem_toArray, List.getElem_cons_zero, List.getElem_cons_succ]
  refine wpAnyH_done (by kernel_rfl) ?_ _
  go_wp2_with fail
  refine bodyPost_ret (v := nodeV 2 0 ⟨#[]⟩ (.slice la 7 lc)) (by simp [results, Tryd.results18, go_sem, nodeV, z0, z1, z2, z3]) rfl ⟨la, lc, rfl, ?_, ?_⟩
  · exact ((((HB_5.setCell (Nat.le_succ _) _).setCell (Nat.le_succ _) _).setCell (Nat.le_succ _) _).setCell (Nat.le_succ _) _)
  · exact Cod.kids_set4 HKL.out (block_lt HR1.out) HB1.out.size
end Go.Proofs.YtpkkdjmcabefbaaDoor
