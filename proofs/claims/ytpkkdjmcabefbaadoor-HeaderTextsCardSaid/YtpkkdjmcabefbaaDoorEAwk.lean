/- awake of layer 12; Small. -/
import Derived.Test.YtpkkdjmcabefbaaDoorEAwk0
import Derived.Test.YtpkkdjmcabefbaaDoorEP5
import Derived.Test.YtpkkdjmcabefbaaDoorER3
namespace Go.Proofs.YtpkkdjmcabefbaaDoor
open Go.RowKit
theorem sum_ok : SumOk := sum_prog rounds_ok
theorem awkH_ok : awkH.Ok 32 := by
  have h := (firstH_u 3 ⟨by decide, by decide⟩ _ rfl).1
  exact nextH_ok (h := firstH 3) h (by decide) (Nat.le_of_eq awkP_size) (Nat.le_refl _) ⟨by decide, by decide⟩ ⟨by decide, by decide⟩
set_option maxHeartbeats 4000000 in
set_option maxRecDepth 100000 in
theorem awake_prog (w : World) (hst : Start w) : Calls Tryd.prog 4 #[] w fun e w' => e = .returned (.bool true) ∧ Below w.heap.size w w' := by
  have HST := Lib.hid hst
  have h1 := (firstH_u 3 ⟨by decide, by decide⟩ _ rfl).1
  have KF := Lib.hid (fun W (hS : Start W) => pfirst_prog sum_ok keyK (by decide) 3 ⟨by decide, by decide⟩ W hS)
  have KP := Lib.hid (fun W => rsumAt ⟨#[120]⟩ W (by decide) awkP rfl)
  have KN := Lib.hid (fun W (hS : Start W) => pnext_prog sum_ok keyK (by decide) (firstS keyK 3) 32 h1 (by decide) (Nat.le_refl _) awkP (Nat.le_of_eq awkP_size) 1 2 ⟨by decide, by decide⟩ ⟨by decide, by decide⟩ W hS)
  rw [awk_next, show (firstS keyK 3).h = firstH 3 from rfl, awk_nextOk] at KN
  obtain ⟨b, hb⟩ : ∃ b : Sg, b = ⟨awkH, awkH.sealB keyK⟩ := ⟨_, rfl⟩
  have hob : ∀ s ∈ [b], s.h.Ok 32 := fun s hs => by
    obtain rfl : s = b := by simpa using hs
    rw [hb]; exact awkH_ok
  have hbs : b.h.seq = 1 := by rw [hb]; rfl
  have hbm : (b.mac.size : Int) = 32 := by rw [hb, seal_size]; rfl
  obtain ⟨a, ha⟩ : ∃ a, a = firstS keyK 3 := ⟨_, rfl⟩
  have hoa : a.h.Ok 32 := by rw [ha]; exact h1
  have KC := Lib.hid (fun v W (hv : SSl W v [b]) (hS : Start W) => pchain_prog sum_ok keyK (by decide) a 32 hoa (by decide) [b] hob (by simp) v W hv hS)
  have KD := Lib.hid (fun v W (hv : SSl W v [b]) (hS : Start W) => pchain_prog sum_ok keyO (by decide) a 32 hoa (by decide) [b] hob (by simp) v W hv hS)
  have KK := Lib.hid (fun W (hS : Start W) => pcheck_prog sum_ok keyK (by decide) a 32 hoa (by decide) W hS)
  have e1 : chainO keyK a [b] = some b := by rw [ha, hb]; exact awk_chain
  have e2 : chainO keyO a [b] = none := by rw [ha, hb]; exact awk_nochain
  have e3 : a.by keyK = true := by rw [ha]; exact awk_check
  unfold chainS at KC KD
  rw [e1] at KC
  rw [e2] at KD
  rw [e3] at KK
  rw [← ha] at KF KN
  rw [← hb] at KN
  dsimp only [Option.isSome, Option.getD] at KC KD
  unfold sgV at KF KN KC KD KK
  dsimp only [zeroS, zeroH] at KD
  have HBS := Lib.hid hbs
  have HBM := Lib.hid hbm
  clear hst h1 hob e1 e2 e3 ha hb hoa hbs hbm
  go_enter Tryd.func4, Tryd.ntmps4
  go_wp2_with fail
  refine (KF.out _ HST.out).mono ?_
  rintro e w1 ⟨rfl, hb1⟩
  obtain ⟨W1, hW1⟩ : ∃ W1, W1 = w1.alloc (.cells #[.int .u64 a.h.shard, .int .u64 a.h.seq, .string a.h.prev, .string a.h.root, .int .u64 a.h.who, .int .u64 a.h.stamp, .string a.mac] 35) := ⟨_, rfl⟩
  obtain ⟨G1, hG1⟩ : ∃ G1, G1 = w1.heap.size := ⟨_, rfl⟩
  have HB1 : Hid (Below w.heap.size w W1) := Lib.hid (by rw [hW1]; exact hb1.alloc hb1.size _)
  have HA1 : Hid (W1.heap[G1]? = some (.cells #[.int .u64 a.h.shard, .int .u64 a.h.seq, .string a.h.prev, .string a.h.root, .int .u64 a.h.who, .int .u64 a.h.stamp, .string a.mac] 35 (0, 0))) := Lib.hid (by rw [hW1, hG1]; exact heap_alloc_new _ _)
  go_upto_region 2 with fail
  simp only [← hW1, ← hG1]
  clear hW1 hG1 hb1
  go_cut [2, 3] (fun sa sb wx => ∃ g : Nat, sa = .pointer (some ⟨g, 0, none⟩) ∧ sb = .bool true ∧ Hid (w.heap.size ≤ g ∧ G1 < g) ∧ Hid (Below w.heap.size w wx) ∧ Hid (wx.heap[G1]? = some (.cells #[.int .u64 a.h.shard, .int .u64 a.h.seq, .string a.h.prev, .string a.h.root, .int .u64 a.h.who, .int .u64 a.h.stamp, .string a.mac] 35 (0, 0))) ∧ Hid (wx.heap[g]? = some (.cells #[.int .u64 b.h.shard, .int .u64 b.h.seq, .string b.h.prev, .string b.h.root, .int .u64 b.h.who, .int .u64 b.h.stamp, .string b.mac] 35 (0, 0))))
  case first =>
    refine wp_region_noPanic ?_
    refine wp_region_held_drew (S := fun w' => Below w.heap.size w w' ∧ (w'.heap[G1]? = some (.cells #[.int .u64 a.h.shard, .int .u64 a.h.seq, .string a.h.prev, .string a.h.root, .int .u64 a.h.who, .int .u64 a.h.stamp, .string a.mac] 35 (0, 0)))) (by kernel_rfl) ⟨HB1.out.drew, HA1.out⟩ (fun hHeld => ?_)
    generalize W1.drew = WD at hHeld ⊢
    have HBD := hHeld.1
    have FAD := hHeld.2
    refine wpAnyH_take (i := 0) (v := ?_) rfl (by kernel_rfl) (by kernel_rfl) (by kernel_rfl) (fun _ _ _ h => h) (Or.inl ⟨by rfl, ?_⟩) ⟨HBD, FAD⟩ ?_
    rotate_left
    · intro w' hSw; obtain ⟨ac0, ac1, ac2, ac3, ac4, ac5, ac6⟩ := cells7 hSw.2; go_simp; first | done | with_reducible rfl | rfl
    try simp only [Act.put, List.getElem_toArray, List.getElem_cons_zero, List.setIfInBounds_toArray, List.set_cons_zero, List.set_cons_succ]
    refine wpAnyH_ready (rs := [1, 6]) (by kernel_rfl) (by simp) ?_
    refine AllReadyH.cons rfl (fun K hK => ?_) ?_
    · try simp only [Act.put, List.getElem_toArray, List.getElem_cons_zero, List.getElem_cons_succ, List.setIfInBounds_toArray, List.set_cons_zero, List.set_cons_succ]
      go_simp
      go_at_call 12
      refine (KP.out _).mono ?_
      rintro e wq1 ⟨rfl, hb1⟩
      have HBq1 := HBD.trans (hb1.mono HBD.size)
      have FAq1 := ((hb1.block _ (block_lt FAD)).trans FAD)
      go_wp2_with fail
      refine hK.out _ _ ⟨HBq1, FAq1⟩ (fun _ => ?_)
      clear hK K
      try simp only [Act.put, List.getElem_toArray, List.getElem_cons_zero, List.getElem_cons_succ, List.setIfInBounds_toArray, List.set_cons_zero, List.set_cons_succ]
      refine wpAnyH_ready (rs := [2, 6]) (by kernel_rfl) (by simp) ?_
      refine AllReadyH.cons rfl (fun K hK => ?_) ?_
      · try simp only [Act.put, List.getElem_toArray, List.getElem_cons_zero, List.getElem_cons_succ, List.setIfInBounds_toArray, List.set_cons_zero, List.set_cons_succ]
        go_simp
        go_at_call 11
        refine (KN.out _ (HST.out.later HBq1)).mono ?_
        rintro e wq2 ⟨rfl, hb2⟩
        have HBq2 := HBq1.trans (hb2.mono HBq1.size)
        have FAq2 := ((hb2.block _ (block_lt FAq1)).trans FAq1)
        go_wp2_with fail
        refine hK.out _ _ ⟨HBq2, FAq2⟩ (fun _ => ?_)
        clear hK K
        try simp only [Act.put, List.getElem_toArray, List.getElem_cons_zero, List.getElem_cons_succ, List.setIfInBounds_toArray, List.set_cons_zero, List.set_cons_succ]
        refine wpAnyH_take (i := 3) (v := ?_) rfl (by kernel_rfl) (by kernel_rfl) (by kernel_rfl) (fun _ _ _ h => h) (Or.inl ⟨by rfl, ?_⟩) ⟨HBq2, FAq2⟩ ?_
        rotate_left
        · intro w' hSw; obtain ⟨ac0, ac1, ac2, ac3, ac4, ac5, ac6⟩ := cells7 hSw.2; go_simp; first | done | with_reducible rfl | rfl
        try simp only [Act.put, List.getElem_toArray, List.getElem_cons_zero, List.getElem_cons_succ, List.setIfInBounds_toArray, List.set_cons_zero, List.set_cons_succ]
        refine wpAnyH_take (i := 4) (v := ?_) rfl (by kernel_rfl) (by kernel_rfl) (by kernel_rfl) (fun _ _ _ h => h) (Or.inl ⟨by rfl, ?_⟩) ⟨HBq2, FAq2⟩ ?_
        rotate_left
        · intro w' hSw; obtain ⟨ac0, ac1, ac2, ac3, ac4, ac5, ac6⟩ := cells7 hSw.2; go_simp; first | done | with_reducible rfl | rfl
        try simp only [Act.put, List.getElem_toArray, List.getElem_cons_zero, List.getElem_cons_succ, List.setIfInBounds_toArray, List.set_cons_zero, List.set_cons_succ]
        refine wpAnyH_take (i := 5) (v := ?_) rfl (by kernel_rfl) (by kernel_rfl) (by kernel_rfl) (fun _ _ _ h => h) (Or.inl ⟨by rfl, ?_⟩) ⟨HBq2, FAq2⟩ ?_
        rotate_left
        · intro w' hSw; obtain ⟨ac0, ac1, ac2, ac3, ac4, ac5, ac6⟩ := cells7 hSw.2; go_simp; first | done | with_reducible rfl | rfl
        try simp only [Act.put, List.getElem_toArray, List.getElem_cons_zero, List.getElem_cons_succ, List.setIfInBounds_toArray, List.set_cons_zero, List.set_cons_succ]
        refine wpAnyH_ready (rs := [6]) (by kernel_rfl) (by simp) ?_
        refine AllReadyH.cons rfl (fun K hK => ?_) AllReadyH.nil
        try simp only [Act.put, List.getElem_toArray, List.getElem_cons_zero, List.getElem_cons_succ, List.setIfInBounds_toArray, List.set_cons_zero, List.set_cons_succ]
        go_simp
        refine hK.out _ _ ⟨HBq2.alloc HBq2.size _, ((((Below.refl _ _).alloc (Nat.le_refl _) _).block _ (block_lt FAq2)).trans FAq2)⟩ (fun _ => ?_)
        clear hK K
        try simp only [Act.put, List.getElem_toArray, List.getElem_cons_zero, List.getElem_cons_succ, List.setIfInBounds_toArray, List.set_cons_zero, List.set_cons_succ]
        refine named (M := wpAnyH _ _ _ _ _ _ _ _) ?_
        intro wq3 hk3 hb3 sz3
        have HBq3 := HBq2.trans (hb3.mono HBq2.size)
        have FAq3 := ((hb3.block _ (block_lt FAq2)).trans FAq2)
        have lt3 : w.heap.size ≤ wq2.heap.size ∧ G1 < wq2.heap.size := ⟨HBq2.size, block_lt FAq2⟩
        refine wpAnyH_ready (rs := [7]) (by kernel_rfl) (by simp) ?_
        refine AllReadyH.cons rfl (fun K hK => ?_) AllReadyH.nil
        obtain ⟨z0, z1, z2, z3, z4, z5, z6⟩ := cells7 hk3
        obtain ⟨y0, y1, y2, y3, y4, y5, y6⟩ := free7 hk3
        try simp only [Act.put, List.getElem_toArray, List.getElem_cons_zero, List.getElem_cons_succ]
        go_simp
        have HBq4 := HBq3.trans (set7_below (w := wq3) (G := wq2.heap.size) (by have := lt3; omega) (.int .u64 b.h.shard) (.int .u64 b.h.seq) (.string b.h.prev) (.string b.h.root) (.int .u64 b.h.who) (.int .u64 b.h.stamp) (.string b.mac))
        have FAq4 := ((set7_other _ (wq2.heap.size) (.int .u64 b.h.shard) (.int .u64 b.h.seq) (.string b.h.prev) (.string b.h.root) (.int .u64 b.h.who) (.int .u64 b.h.stamp) (.string b.mac) (G1) (by have := lt3; omega)).trans FAq3)
        have HGq4 := set7_heap hk3 (.int .u64 b.h.shard) (.int .u64 b.h.seq) (.string b.h.prev) (.string b.h.root) (.int .u64 b.h.who) (.int .u64 b.h.stamp) (.string b.mac)
        refine hK.out _ (set7 wq3 (wq2.heap.size) (.int .u64 b.h.shard) (.int .u64 b.h.seq) (.string b.h.prev) (.string b.h.root) (.int .u64 b.h.who) (.int .u64 b.h.stamp) (.string b.mac)) ⟨HBq4, FAq4⟩ (fun _ => ?_)
        clear hK K z0 z1 z2 z3 z4 z5 z6 y0 y1 y2 y3 y4 y5 y6
        try simp only [Act.put, List.getElem_toArray, List.getElem_cons_zero, List.getElem_cons_succ]
        refine wpAnyH_take (i := 8) (v := ?_) rfl (by kernel_rfl) (by kernel_rfl) (by kernel_rfl) (fun _ _ _ h => h) (Or.inl ⟨by rfl, ?_⟩) ⟨HBq4, FAq4⟩ ?_
        rotate_left
        · intro w' hSw; obtain ⟨ac0, ac1, ac2, ac3, ac4, ac5, ac6⟩ := cells7 hSw.2; go_simp; first | done | with_reducible rfl | rfl
        try simp only [Act.put, List.getElem_toArray, List.getElem_cons_zero, List.getElem_cons_succ, List.setIfInBounds_toArray, List.set_cons_zero, List.set_cons_succ]
        refine wpAnyH_done (by kernel_rfl) ?_ _
        refine NoPanic.normal ?_
        go_wp2_with fail
        go_meet
        exact ⟨wq2.heap.size, rfl, rfl, Lib.hid (by have := lt3; omega), Lib.hid HBq4, Lib.hid FAq4, Lib.hid HGq4⟩
      refine AllReadyH.cons rfl (fun K hK => ?_) AllReadyH.nil
      · try simp only [Act.put, List.getElem_toArray, List.getElem_cons_zero, List.getElem_cons_succ, List.setIfInBounds_toArray, List.set_cons_zero, List.set_cons_succ]
        go_simp
        refine hK.out _ _ ⟨HBq1.alloc HBq1.size _, ((((Below.refl _ _).alloc (Nat.le_refl _) _).block _ (block_lt FAq1)).trans FAq1)⟩ (fun _ => ?_)
        clear hK K
        try simp only [Act.put, List.getElem_toArray, List.getElem_cons_zero, List.getElem_cons_succ, List.setIfInBounds_toArray, List.set_cons_zero, List.set_cons_succ]
        refine named (M := wpAnyH _ _ _ _ _ _ _ _) ?_
        intro wq5 hk5 hb5 sz5
        have HBq5 := HBq1.trans (hb5.mono HBq1.size)
        have FAq5 := ((hb5.block _ (block_lt FAq1)).trans FAq1)
        have lt5 : w.heap.size ≤ wq1.heap.size ∧ G1 < wq1.heap.size := ⟨HBq1.size, block_lt FAq1⟩
        refine wpAnyH_ready (rs := [2]) (by kernel_rfl) (by simp) ?_
        refine AllReadyH.cons rfl (fun K hK => ?_) AllReadyH.nil
        try simp only [Act.put, List.getElem_toArray, List.getElem_cons_zero, List.getElem_cons_succ, List.setIfInBounds_toArray, List.set_cons_zero, List.set_cons_succ]
        go_simp
        go_at_call 11
        refine (KN.out _ (HST.out.later HBq5)).mono ?_
        rintro e wq6 ⟨rfl, hb6⟩
        have HBq6 := HBq5.trans (hb6.mono HBq5.size)
        have FAq6 := ((hb6.block _ (block_lt FAq5)).trans FAq5)
        have HGq6 := (hb6.block _ (block_lt hk5)).trans hk5
        go_wp2_with fail
        refine hK.out _ _ ⟨HBq6, FAq6⟩ (fun _ => ?_)
        clear hK K
        try simp only [Act.put, List.getElem_toArray, List.getElem_cons_zero, List.getElem_cons_succ, List.setIfInBounds_toArray, List.set_cons_zero, List.set_cons_succ]
        refine wpAnyH_take (i := 3) (v := ?_) rfl (by kernel_rfl) (by kernel_rfl) (by kernel_rfl) (fun _ _ _ h => h) (Or.inl ⟨by rfl, ?_⟩) ⟨HBq6, FAq6⟩ ?_
        rotate_left
        · intro w' hSw; obtain ⟨ac0, ac1, ac2, ac3, ac4, ac5, ac6⟩ := cells7 hSw.2; go_simp; first | done | with_reducible rfl | rfl
        try simp only [Act.put, List.getElem_toArray, List.getElem_cons_zero, List.getElem_cons_succ, List.setIfInBounds_toArray, List.set_cons_zero, List.set_cons_succ]
        refine wpAnyH_take (i := 4) (v := ?_) rfl (by kernel_rfl) (by kernel_rfl) (by kernel_rfl) (fun _ _ _ h => h) (Or.inl ⟨by rfl, ?_⟩) ⟨HBq6, FAq6⟩ ?_
        rotate_left
        · intro w' hSw; obtain ⟨ac0, ac1, ac2, ac3, ac4, ac5, ac6⟩ := cells7 hSw.2; go_simp; first | done | with_reducible rfl | rfl
        try simp only [Act.put, List.getElem_toArray, List.getElem_cons_zero, List.getElem_cons_succ, List.setIfInBounds_toArray, List.set_cons_zero, List.set_cons_succ]
        refine wpAnyH_take (i := 5) (v := ?_) rfl (by kernel_rfl) (by kernel_rfl) (by kernel_rfl) (fun _ _ _ h => h) (Or.inl ⟨by rfl, ?_⟩) ⟨HBq6, FAq6⟩ ?_
        rotate_left
        · intro w' hSw; obtain ⟨ac0, ac1, ac2, ac3, ac4, ac5, ac6⟩ := cells7 hSw.2; go_simp; first | done | with_reducible rfl | rfl
        try simp only [Act.put, List.getElem_toArray, List.getElem_cons_zero, List.getElem_cons_succ, List.setIfInBounds_toArray, List.set_cons_zero, List.set_cons_succ]
        refine wpAnyH_ready (rs := [7]) (by kernel_rfl) (by simp) ?_
        refine AllReadyH.cons rfl (fun K hK => ?_) AllReadyH.nil
        obtain ⟨z0, z1, z2, z3, z4, z5, z6⟩ := cells7 HGq6
        obtain ⟨y0, y1, y2, y3, y4, y5, y6⟩ := free7 HGq6
        try simp only [Act.put, List.getElem_toArray, List.getElem_cons_zero, List.getElem_cons_succ]
        go_simp
        have HBq7 := HBq6.trans (set7_below (w := wq6) (G := wq1.heap.size) (by have := lt5; omega) (.int .u64 b.h.shard) (.int .u64 b.h.seq) (.string b.h.prev) (.string b.h.root) (.int .u64 b.h.who) (.int .u64 b.h.stamp) (.string b.mac))
        have FAq7 := ((set7_other _ (wq1.heap.size) (.int .u64 b.h.shard) (.int .u64 b.h.seq) (.string b.h.prev) (.string b.h.root) (.int .u64 b.h.who) (.int .u64 b.h.stamp) (.string b.mac) (G1) (by have := lt5; omega)).trans FAq6)
        have HGq7 := set7_heap HGq6 (.int .u64 b.h.shard) (.int .u64 b.h.seq) (.string b.h.prev) (.string b.h.root) (.int .u64 b.h.who) (.int .u64 b.h.stamp) (.string b.mac)
        refine hK.out _ (set7 wq6 (wq1.heap.size) (.int .u64 b.h.shard) (.int .u64 b.h.seq) (.string b.h.prev) (.string b.h.root) (.int .u64 b.h.who) (.int .u64 b.h.stamp) (.string b.mac)) ⟨HBq7, FAq7⟩ (fun _ => ?_)
        clear hK K z0 z1 z2 z3 z4 z5 z6 y0 y1 y2 y3 y4 y5 y6
        try simp only [Act.put, List.getElem_toArray, List.getElem_cons_zero, List.getElem_cons_succ]
        refine wpAnyH_take (i := 8) (v := ?_) rfl (by kernel_rfl) (by kernel_rfl) (by kernel_rfl) (fun _ _ _ h => h) (Or.inl ⟨by rfl, ?_⟩) ⟨HBq7, FAq7⟩ ?_
        rotate_left
        · intro w' hSw; obtain ⟨ac0, ac1, ac2, ac3, ac4, ac5, ac6⟩ := cells7 hSw.2; go_simp; first | done | with_reducible rfl | rfl
        try simp only [Act.put, List.getElem_toArray, List.getElem_cons_zero, List.getElem_cons_succ, List.setIfInBounds_toArray, List.set_cons_zero, List.set_cons_succ]
        refine wpAnyH_done (by kernel_rfl) ?_ _
        refine NoPanic.normal ?_
        go_wp2_with fail
        go_meet
        exact ⟨wq1.heap.size, rfl, rfl, Lib.hid (by have := lt5; omega), Lib.hid HBq7, Lib.hid FAq7, Lib.hid HGq7⟩
    refine AllReadyH.cons rfl (fun K hK => ?_) AllReadyH.nil
    · try simp only [Act.put, List.getElem_toArray, List.getElem_cons_zero, List.getElem_cons_succ, List.setIfInBounds_toArray, List.set_cons_zero, List.set_cons_succ]
      go_simp
      refine hK.out _ _ ⟨HBD.alloc HBD.size _, ((((Below.refl _ _).alloc (Nat.le_refl _) _).block _ (block_lt FAD)).trans FAD)⟩ (fun _ => ?_)
      clear hK K
      try simp only [Act.put, List.getElem_toArray, List.getElem_cons_zero, List.getElem_cons_succ, List.setIfInBounds_toArray, List.set_cons_zero, List.set_cons_succ]
      refine named (M := wpAnyH _ _ _ _ _ _ _ _) ?_
      intro wq8 hk8 hb8 sz8
      have HBq8 := HBD.trans (hb8.mono HBD.size)
      have FAq8 := ((hb8.block _ (block_lt FAD)).trans FAD)
      have lt8 : w.heap.size ≤ WD.heap.size ∧ G1 < WD.heap.size := ⟨HBD.size, block_lt FAD⟩
      refine wpAnyH_ready (rs := [1]) (by kernel_rfl) (by simp) ?_
      refine AllReadyH.cons rfl (fun K hK => ?_) AllReadyH.nil
      try simp only [Act.put, List.getElem_toArray, List.getElem_cons_zero, List.getElem_cons_succ, List.setIfInBounds_toArray, List.set_cons_zero, List.set_cons_succ]
      go_simp
      go_at_call 12
      refine (KP.out _).mono ?_
      rintro e wq9 ⟨rfl, hb9⟩
      have HBq9 := HBq8.trans (hb9.mono HBq8.size)
      have FAq9 := ((hb9.block _ (block_lt FAq8)).trans FAq8)
      have HGq9 := (hb9.block _ (block_lt hk8)).trans hk8
      go_wp2_with fail
      refine hK.out _ _ ⟨HBq9, FAq9⟩ (fun _ => ?_)
      clear hK K
      try simp only [Act.put, List.getElem_toArray, List.getElem_cons_zero, List.getElem_cons_succ, List.setIfInBounds_toArray, List.set_cons_zero, List.set_cons_succ]
      refine wpAnyH_ready (rs := [2]) (by kernel_rfl) (by simp) ?_
      refine AllReadyH.cons rfl (fun K hK => ?_) AllReadyH.nil
      try simp only [Act.put, List.getElem_toArray, List.getElem_cons_zero, List.getElem_cons_succ, List.setIfInBounds_toArray, List.set_cons_zero, List.set_cons_succ]
      go_simp
      go_at_call 11
      refine (KN.out _ (HST.out.later HBq9)).mono ?_
      rintro e wq10 ⟨rfl, hb10⟩
      have HBq10 := HBq9.trans (hb10.mono HBq9.size)
      have FAq10 := ((hb10.block _ (block_lt FAq9)).trans FAq9)
      have HGq10 := (hb10.block _ (block_lt HGq9)).trans HGq9
      go_wp2_with fail
      refine hK.out _ _ ⟨HBq10, FAq10⟩ (fun _ => ?_)
      clear hK K
      try simp only [Act.put, List.getElem_toArray, List.getElem_cons_zero, List.getElem_cons_succ, List.setIfInBounds_toArray, List.set_cons_zero, List.set_cons_succ]
      refine wpAnyH_take (i := 3) (v := ?_) rfl (by kernel_rfl) (by kernel_rfl) (by kernel_rfl) (fun _ _ _ h => h) (Or.inl ⟨by rfl, ?_⟩) ⟨HBq10, FAq10⟩ ?_
      rotate_left
      · intro w' hSw; obtain ⟨ac0, ac1, ac2, ac3, ac4, ac5, ac6⟩ := cells7 hSw.2; go_simp; first | done | with_reducible rfl | rfl
      try simp only [Act.put, List.getElem_toArray, List.getElem_cons_zero, List.getElem_cons_succ, List.setIfInBounds_toArray, List.set_cons_zero, List.set_cons_succ]
      refine wpAnyH_take (i := 4) (v := ?_) rfl (by kernel_rfl) (by kernel_rfl) (by kernel_rfl) (fun _ _ _ h => h) (Or.inl ⟨by rfl, ?_⟩) ⟨HBq10, FAq10⟩ ?_
      rotate_left
      · intro w' hSw; obtain ⟨ac0, ac1, ac2, ac3, ac4, ac5, ac6⟩ := cells7 hSw.2; go_simp; first | done | with_reducible rfl | rfl
      try simp only [Act.put, List.getElem_toArray, List.getElem_cons_zero, List.getElem_cons_succ, List.setIfInBounds_toArray, List.set_cons_zero, List.set_cons_succ]
      refine wpAnyH_take (i := 5) (v := ?_) rfl (by kernel_rfl) (by kernel_rfl) (by kernel_rfl) (fun _ _ _ h => h) (Or.inl ⟨by rfl, ?_⟩) ⟨HBq10, FAq10⟩ ?_
      rotate_left
      · intro w' hSw; obtain ⟨ac0, ac1, ac2, ac3, ac4, ac5, ac6⟩ := cells7 hSw.2; go_simp; first | done | with_reducible rfl | rfl
      try simp only [Act.put, List.getElem_toArray, List.getElem_cons_zero, List.getElem_cons_succ, List.setIfInBounds_toArray, List.set_cons_zero, List.set_cons_succ]
      refine wpAnyH_ready (rs := [7]) (by kernel_rfl) (by simp) ?_
      refine AllReadyH.cons rfl (fun K hK => ?_) AllReadyH.nil
      obtain ⟨z0, z1, z2, z3, z4, z5, z6⟩ := cells7 HGq10
      obtain ⟨y0, y1, y2, y3, y4, y5, y6⟩ := free7 HGq10
      try simp only [Act.put, List.getElem_toArray, List.getElem_cons_zero, List.getElem_cons_succ]
      go_simp
      have HBq11 := HBq10.trans (set7_below (w := wq10) (G := WD.heap.size) (by have := lt8; omega) (.int .u64 b.h.shard) (.int .u64 b.h.seq) (.string b.h.prev) (.string b.h.root) (.int .u64 b.h.who) (.int .u64 b.h.stamp) (.string b.mac))
      have FAq11 := ((set7_other _ (WD.heap.size) (.int .u64 b.h.shard) (.int .u64 b.h.seq) (.string b.h.prev) (.string b.h.root) (.int .u64 b.h.who) (.int .u64 b.h.stamp) (.string b.mac) (G1) (by have := lt8; omega)).trans FAq10)
      have HGq11 := set7_heap HGq10 (.int .u64 b.h.shard) (.int .u64 b.h.seq) (.string b.h.prev) (.string b.h.root) (.int .u64 b.h.who) (.int .u64 b.h.stamp) (.string b.mac)
      refine hK.out _ (set7 wq10 (WD.heap.size) (.int .u64 b.h.shard) (.int .u64 b.h.seq) (.string b.h.prev) (.string b.h.root) (.int .u64 b.h.who) (.int .u64 b.h.stamp) (.string b.mac)) ⟨HBq11, FAq11⟩ (fun _ => ?_)
      clear hK K z0 z1 z2 z3 z4 z5 z6 y0 y1 y2 y3 y4 y5 y6
      try simp only [Act.put, List.getElem_toArray, List.getElem_cons_zero, List.getElem_cons_succ]
      refine wpAnyH_take (i := 8) (v := ?_) rfl (by kernel_rfl) (by kernel_rfl) (by kernel_rfl) (fun _ _ _ h => h) (Or.inl ⟨by rfl, ?_⟩) ⟨HBq11, FAq11⟩ ?_
      rotate_left
      · intro w' hSw; obtain ⟨ac0, ac1, ac2, ac3, ac4, ac5, ac6⟩ := cells7 hSw.2; go_simp; first | done | with_reducible rfl | rfl
      try simp only [Act.put, List.getElem_toArray, List.getElem_cons_zero, List.getElem_cons_succ, List.setIfInBounds_toArray, List.set_cons_zero, List.set_cons_succ]
      refine wpAnyH_done (by kernel_rfl) ?_ _
      refine NoPanic.normal ?_
      go_wp2_with fail
      go_meet
      exact ⟨WD.heap.size, rfl, rfl, Lib.hid (by have := lt8; omega), Lib.hid HBq11, Lib.hid FAq11, Lib.hid HGq11⟩
  case rest =>
    obtain ⟨g, rfl, rfl, HLT, HB2, HA2, HG2⟩ := hcut
    obtain ⟨c0, c1, c2, c3, c4, c5, c6⟩ := cells7 HA2.out
    obtain ⟨d0, d1, d2, d3, d4, d5, d6⟩ := cells7 HG2.out
    have hlt := HLT.out.2
    go_upto_region 3 with fail
    clear c0 c1 c2 c3 c4 c5 c6 d0 d1 d2 d3 d4 d5 d6
    obtain ⟨c0, c1, c2, c3, c4, c5, c6⟩ := cells7 HA2.out
    obtain ⟨d0, d1, d2, d3, d4, d5, d6⟩ := cells7 HG2.out
    obtain ⟨X2, hX2⟩ : ∃ X, X = wc.alloc (.cells #[.int .u64 b.h.shard, .int .u64 b.h.seq, .string b.h.prev, .string b.h.root, .int .u64 b.h.who, .int .u64 b.h.stamp, .string b.mac] 35) := ⟨_, rfl⟩
    obtain ⟨k2, hk2⟩ : ∃ k, k = wc.heap.size := ⟨_, rfl⟩
    have HBX2 : Hid (Below w.heap.size w X2) := Lib.hid (by rw [hX2]; exact HB2.out.alloc HB2.out.size _)
    have HAX2 : Hid (X2.heap[G1]? = some (.cells #[.int .u64 a.h.shard, .int .u64 a.h.seq, .string a.h.prev, .string a.h.root, .int .u64 a.h.who, .int .u64 a.h.stamp, .string a.mac] 35 (0, 0))) := Lib.hid (by rw [hX2]; exact (Below.heap_alloc _ _ _ (block_lt HA2.out)).trans HA2.out)
    have HGX2 : Hid (X2.heap[g]? = some (.cells #[.int .u64 b.h.shard, .int .u64 b.h.seq, .string b.h.prev, .string b.h.root, .int .u64 b.h.who, .int .u64 b.h.stamp, .string b.mac] 35 (0, 0))) := Lib.hid (by rw [hX2]; exact (Below.heap_alloc _ _ _ (block_lt HG2.out)).trans HG2.out)
    have HS2 : Hid (SSl X2 (.slice (some ⟨k2, 0, none⟩) 1 1) [b]) := Lib.hid (by rw [hX2, hk2]; exact SSl.one (heap_alloc_new _ _) (Nat.le_refl _))
    go_wp2_with fail
    simp only [← hX2, ← hk2]
    refine (KC.out _ _ HS2.out (HST.out.later HBX2.out)).mono ?_
    rintro e y2 ⟨rfl, hy2⟩
    have HBY2 := Lib.hid (HBX2.out.trans (hy2.mono HBX2.out.size))
    have HAY2 := Lib.hid ((hy2.block _ (block_lt HAX2.out)).trans HAX2.out)
    have HGY2 := Lib.hid ((hy2.block _ (block_lt HGX2.out)).trans HGX2.out)
    obtain ⟨V2, hV2⟩ : ∃ V, V = y2.alloc (.cells #[.int .u64 b.h.shard, .int .u64 b.h.seq, .string b.h.prev, .string b.h.root, .int .u64 b.h.who, .int .u64 b.h.stamp, .string b.mac] 35) := ⟨_, rfl⟩
    obtain ⟨p2, hp2⟩ : ∃ p, p = y2.heap.size := ⟨_, rfl⟩
    have HB3 : Hid (Below w.heap.size w V2) := Lib.hid (by rw [hV2]; exact HBY2.out.alloc HBY2.out.size _)
    have HA3 : Hid (V2.heap[G1]? = some (.cells #[.int .u64 a.h.shard, .int .u64 a.h.seq, .string a.h.prev, .string a.h.root, .int .u64 a.h.who, .int .u64 a.h.stamp, .string a.mac] 35 (0, 0))) := Lib.hid (by rw [hV2]; exact (Below.heap_alloc _ _ _ (block_lt HAY2.out)).trans HAY2.out)
    have HG3 : Hid (V2.heap[g]? = some (.cells #[.int .u64 b.h.shard, .int .u64 b.h.seq, .string b.h.prev, .string b.h.root, .int .u64 b.h.who, .int .u64 b.h.stamp, .string b.mac] 35 (0, 0))) := Lib.hid (by rw [hV2]; exact (Below.heap_alloc _ _ _ (block_lt HGY2.out)).trans HGY2.out)
    have HC3 : Hid (V2.heap[p2]? = some (.cells #[.int .u64 b.h.shard, .int .u64 b.h.seq, .string b.h.prev, .string b.h.root, .int .u64 b.h.who, .int .u64 b.h.stamp, .string b.mac] 35 (0, 0))) := Lib.hid (by rw [hV2, hp2]; exact heap_alloc_new _ _)
    clear hX2 hk2 hy2 c0 c1 c2 c3 c4 c5 c6 d0 d1 d2 d3 d4 d5 d6
    go_upto_region 4 with fail
    simp only [← hV2, ← hp2]
    clear hV2 hp2
    obtain ⟨c0, c1, c2, c3, c4, c5, c6⟩ := cells7 HA3.out
    obtain ⟨d0, d1, d2, d3, d4, d5, d6⟩ := cells7 HG3.out
    obtain ⟨X3, hX3⟩ : ∃ X, X = V2.alloc (.cells #[.int .u64 b.h.shard, .int .u64 b.h.seq, .string b.h.prev, .string b.h.root, .int .u64 b.h.who, .int .u64 b.h.stamp, .string b.mac] 35) := ⟨_, rfl⟩
    obtain ⟨k3, hk3⟩ : ∃ k, k = V2.heap.size := ⟨_, rfl⟩
    have HBX3 : Hid (Below w.heap.size w X3) := Lib.hid (by rw [hX3]; exact HB3.out.alloc HB3.out.size _)
    have HAX3 : Hid (X3.heap[G1]? = some (.cells #[.int .u64 a.h.shard, .int .u64 a.h.seq, .string a.h.prev, .string a.h.root, .int .u64 a.h.who, .int .u64 a.h.stamp, .string a.mac] 35 (0, 0))) := Lib.hid (by rw [hX3]; exact (Below.heap_alloc _ _ _ (block_lt HA3.out)).trans HA3.out)
    have HGX3 : Hid (X3.heap[g]? = some (.cells #[.int .u64 b.h.shard, .int .u64 b.h.seq, .string b.h.prev, .string b.h.root, .int .u64 b.h.who, .int .u64 b.h.stamp, .string b.mac] 35 (0, 0))) := Lib.hid (by rw [hX3]; exact (Below.heap_alloc _ _ _ (block_lt HG3.out)).trans HG3.out)
    have HS3 : Hid (SSl X3 (.slice (some ⟨k3, 0, none⟩) 1 1) [b]) := Lib.hid (by rw [hX3, hk3]; exact SSl.one (heap_alloc_new _ _) (Nat.le_refl _))
    go_wp2_with fail
    simp only [← hX3, ← hk3]
    refine (KD.out _ _ HS3.out (HST.out.later HBX3.out)).mono ?_
    rintro e y3 ⟨rfl, hy3⟩
    have HBY3 := Lib.hid (HBX3.out.trans (hy3.mono HBX3.out.size))
    have HAY3 := Lib.hid ((hy3.block _ (block_lt HAX3.out)).trans HAX3.out)
    have HGY3 := Lib.hid ((hy3.block _ (block_lt HGX3.out)).trans HGX3.out)
    have HCX3 : Hid (X3.heap[p2]? = some (.cells #[.int .u64 b.h.shard, .int .u64 b.h.seq, .string b.h.prev, .string b.h.root, .int .u64 b.h.who, .int .u64 b.h.stamp, .string b.mac] 35 (0, 0))) := Lib.hid (by rw [hX3]; exact (Below.heap_alloc _ _ _ (block_lt HC3.out)).trans HC3.out)
    have HCY3 := Lib.hid ((hy3.block _ (block_lt HCX3.out)).trans HCX3.out)
    obtain ⟨V3, hV3⟩ : ∃ V, V = y3.alloc (.cells #[.int .u64 0, .int .u64 0, .string ⟨#[]⟩, .string ⟨#[]⟩, .int .u64 0, .int .u64 0, .string ⟨#[]⟩] 35) := ⟨_, rfl⟩
    obtain ⟨p3, hp3⟩ : ∃ p, p = y3.heap.size := ⟨_, rfl⟩
    have HB4 : Hid (Below w.heap.size w V3) := Lib.hid (by rw [hV3]; exact HBY3.out.alloc HBY3.out.size _)
    have HA4 : Hid (V3.heap[G1]? = some (.cells #[.int .u64 a.h.shard, .int .u64 a.h.seq, .string a.h.prev, .string a.h.root, .int .u64 a.h.who, .int .u64 a.h.stamp, .string a.mac] 35 (0, 0))) := Lib.hid (by rw [hV3]; exact (Below.heap_alloc _ _ _ (block_lt HAY3.out)).trans HAY3.out)
    have HG4 : Hid (V3.heap[g]? = some (.cells #[.int .u64 b.h.shard, .int .u64 b.h.seq, .string b.h.prev, .string b.h.root, .int .u64 b.h.who, .int .u64 b.h.stamp, .string b.mac] 35 (0, 0))) := Lib.hid (by rw [hV3]; exact (Below.heap_alloc _ _ _ (block_lt HGY3.out)).trans HGY3.out)
    have HC4 : Hid (V3.heap[p2]? = some (.cells #[.int .u64 b.h.shard, .int .u64 b.h.seq, .string b.h.prev, .string b.h.root, .int .u64 b.h.who, .int .u64 b.h.stamp, .string b.mac] 35 (0, 0))) := Lib.hid (by rw [hV3]; exact (Below.heap_alloc _ _ _ (block_lt HCY3.out)).trans HCY3.out)
    clear hX3 hk3 hy3 c0 c1 c2 c3 c4 c5 c6 d0 d1 d2 d3 d4 d5 d6
    go_upto_region 5 with fail
    simp only [← hV3, ← hp3]
    clear hV3 hp3
    obtain ⟨c0, c1, c2, c3, c4, c5, c6⟩ := cells7 HA4.out
    obtain ⟨d0, d1, d2, d3, d4, d5, d6⟩ := cells7 HG4.out
    obtain ⟨e0, e1, e2, e3, e4, e5, e6⟩ := cells7 HC4.out
    have hbs : (b.h.seq == 1) = true := by rw [HBS.out]; rfl
    have hbm : ((b.mac.size : Int) == 32) = true := by rw [HBM.out]; rfl
    go_wp2_with fail
    refine (KK.out _ (HST.out.later HB4.out)).mono ?_
    rintro e y5 ⟨rfl, hy5⟩
    have HB5 := Lib.hid (HB4.out.trans (hy5.mono HB4.out.size))
    go_wp2_with fail
    go_ret
    exact ⟨rfl, HB5.out⟩
end Go.Proofs.YtpkkdjmcabefbaaDoor
