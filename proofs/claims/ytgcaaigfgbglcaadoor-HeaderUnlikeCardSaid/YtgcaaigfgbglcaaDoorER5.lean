/- The reference: Chain. -/
import Derived.Test.YtgcaaigfgbglcaaDoorER4
import Derived.Test.YtgcaaigfgbglcaaDoorEP5
namespace Go.Proofs.YtgcaaigfgbglcaaDoor
open Go.RowKit
def rchRel (key : ByteArray) (w : World) (l : List Sg) (R : Option Sg) (i : Value) (wr : World) : Prop :=
  ∃ (k : Nat) (x : Sg), i = .int .i64 (k : Int) ∧ k ≤ l.length ∧ Hid (chainO key x (l.drop k) = R) ∧ Hid (Below w.heap.size w wr) ∧ Hid (∃ m, x.h.Ok m ∧ m ≤ 1000) ∧
    Hid (wr.heap[w.heap.size + 1]? = some (.cells #[.int .u64 0, .int .u64 0, .string ⟨#[]⟩, .string ⟨#[]⟩, .int .u64 0, .int .u64 0, .string ⟨#[]⟩] 26 (0, 0))) ∧ Hid (wr.heap[w.heap.size + 2]? = some (.cells #[.int .u64 x.h.shard, .int .u64 x.h.seq, .string x.h.prev, .string x.h.root, .int .u64 x.h.who, .int .u64 x.h.stamp, .string x.mac] 26 (0, 0)))
set_option maxHeartbeats 4000000 in
set_option maxRecDepth 100000 in
theorem rchain_prog (key : ByteArray) (hkey : key.size ≤ 10000) (x0 : Sg) (m : Nat) (hx : x0.h.Ok m) (hm : m ≤ 1000) (l : List Sg) (hl : ∀ s ∈ l, s.h.Ok m) (hlen : l.length ≤ 1000) (v : Value) (w : World) (hv : SSl w v l) :
    Calls Tryd.prog 28 #[.string key, sgV x0, v] w fun e w' => e = .returned (.tuple #[sgV (chainS key x0 l), .bool (chainO key x0 l).isSome]) ∧ Below w.heap.size w w' := by
  have KF := Lib.hid (fun (a b : Hd) (ha : ∃ m, a.Ok m ∧ m ≤ 1000) (hb : b.Ok m) W => rfoll_prog a b (max m ha.choose) (ha.choose_spec.1.mono (Nat.le_max_right _ _)) (hb.mono (Nat.le_max_left _ _)) (by have := ha.choose_spec.2; omega) W)
  have KC := Lib.hid (fun (s : Sg) (hs : s.h.Ok m) W => rcheck_prog key hkey s m hs hm W)
  obtain ⟨R, hR⟩ : ∃ R, chainO key x0 l = R := ⟨_, rfl⟩
  obtain ⟨Z, hZ⟩ : ∃ Z, chainS key x0 l = Z := ⟨_, rfl⟩
  have HZR : Hid (Z = R.getD zeroS) := Lib.hid (by rw [← hZ, ← hR]; rfl)
  rw [hR, hZ]
  have HR := Lib.hid hR
  have HV := Lib.hid hv
  have HL := Lib.hid hl
  have HX0 : Hid (∃ m, x0.h.Ok m ∧ m ≤ 1000) := Lib.hid ⟨m, hx, hm⟩
  skip
  unfold sgV
  unfold sgV at KC
  unfold hdV at KF
  obtain ⟨va, vc, rfl⟩ := hv.shape
  obtain ⟨N, hN⟩ : ∃ N, l.length = N := ⟨_, rfl⟩
  rw [hN]
  have hN1 : (N : Int) ≤ 1000 := by omega
  have HN := Lib.hid hN
  obtain ⟨W0, hW0⟩ : ∃ W0, W0 = (w.alloc (.cells #[.int .u64 x0.h.shard, .int .u64 x0.h.seq, .string x0.h.prev, .string x0.h.root, .int .u64 x0.h.who, .int .u64 x0.h.stamp, .string x0.mac] 26)).alloc (.cells #[.int .u64 0, .int .u64 0, .string ⟨#[]⟩, .string ⟨#[]⟩, .int .u64 0, .int .u64 0, .string ⟨#[]⟩] 26) := ⟨_, rfl⟩
  have HB0 := Lib.hid (show Below w.heap.size w W0 by rw [hW0]; exact ((Below.refl _ _).alloc (Nat.le_refl _) _).alloc (by simp) _)
  have HA0 : Hid (W0.heap[w.heap.size]? = some (.cells #[.int .u64 x0.h.shard, .int .u64 x0.h.seq, .string x0.h.prev, .string x0.h.root, .int .u64 x0.h.who, .int .u64 x0.h.stamp, .string x0.mac] 26 (0, 0))) := Lib.hid (by rw [hW0]; exact (Below.heap_alloc _ _ _ (by simp)).trans (heap_alloc_new _ _))
  have HY0 : Hid (W0.heap[w.heap.size + 1]? = some (.cells #[.int .u64 0, .int .u64 0, .string ⟨#[]⟩, .string ⟨#[]⟩, .int .u64 0, .int .u64 0, .string ⟨#[]⟩] 26 (0, 0))) := Lib.hid (by rw [hW0]; simpa using heap_alloc_new (w.alloc (.cells #[.int .u64 x0.h.shard, .int .u64 x0.h.seq, .string x0.h.prev, .string x0.h.root, .int .u64 x0.h.who, .int .u64 x0.h.stamp, .string x0.mac] 26)) _)
  have hsz : W0.heap.size = w.heap.size + 1 + 1 := by rw [hW0]; simp
  obtain ⟨c0, c1, c2, c3, c4, c5, c6⟩ := cells7 HA0.out
  obtain ⟨W1, hW1⟩ : ∃ W1, W1 = W0.alloc (.cells #[.int .u64 x0.h.shard, .int .u64 x0.h.seq, .string x0.h.prev, .string x0.h.root, .int .u64 x0.h.who, .int .u64 x0.h.stamp, .string x0.mac] 26) := ⟨_, rfl⟩
  have HB1 : Hid (Below w.heap.size w W1) := Lib.hid (by rw [hW1]; exact HB0.out.alloc HB0.out.size _)
  have HY1 : Hid (W1.heap[w.heap.size + 1]? = some (.cells #[.int .u64 0, .int .u64 0, .string ⟨#[]⟩, .string ⟨#[]⟩, .int .u64 0, .int .u64 0, .string ⟨#[]⟩] 26 (0, 0))) := Lib.hid (by rw [hW1]; exact (Below.heap_alloc _ _ _ (block_lt HY0.out)).trans HY0.out)
  have HX1 : Hid (W1.heap[w.heap.size + 1 + 1]? = some (.cells #[.int .u64 x0.h.shard, .int .u64 x0.h.seq, .string x0.h.prev, .string x0.h.root, .int .u64 x0.h.who, .int .u64 x0.h.stamp, .string x0.mac] 26 (0, 0))) := Lib.hid (by rw [hW1, ← hsz]; exact heap_alloc_new _ _)
  have HM := Lib.hid hm
  clear hkey hx hm hl hlen hv hR hZ hN
  go_enter Tryd.func28, Tryd.ntmps28
  go_upto_region 1 with fail
  simp only [← hW0]
  clear hW0
  go_upto_region 2 with fail
  simp only [← hW1]
  clear hW1 c0 c1 c2 c3 c4 c5 c6 hsz
  go_wp2_with fail
  go_loopw [9] (rchRel key w l R) (fun i _ => N - (intOf i).toNat)
  case atStart => exact ⟨0, x0, rfl, by omega, Lib.hid (by rw [List.drop_zero]; exact HR.out), HB1, HX0, HY1, HX1⟩
  case round =>
    obtain ⟨k, x, rfl, hk, hq, HB, HX, HY, HXX⟩ := hrel
    rw [HN.out] at hk
    by_cases hlt : k < N
    · have i0 : (0 : Int) ≤ (k : Int) := by omega
      have i1 : (k : Int) < (N : Int) := by omega
      obtain ⟨s, hs⟩ : ∃ s, l[k]? = some s := ⟨l[k]'(by rw [HN.out]; exact hlt), List.getElem?_eq_getElem _⟩
      have HSO := Lib.hid (HL.out s (List.mem_of_getElem? hs))
      obtain ⟨g, o, c, ev, hcl⟩ := (HV.out.later HB.out).get hs
      rw [HN.out] at ev
      injection ev with e1 e2 e3
      subst e1 e3
      clear e2
      obtain ⟨q0, q1, q2, q3, q4, q5, q6⟩ := hcl
      have HQ : Hid ((if follB x.h s.h && s.by key then chainO key s (l.drop (k + 1)) else none) = R) := Lib.hid (by rw [← chain_step hs]; exact hq.out)
      clear hq hs
      obtain ⟨y0, y1, y2, y3, y4, y5, y6⟩ := cells7 HXX.out
      have HCL : Hid (SCl wr.drew g (o + k * 7) s) := Lib.hid ⟨q0, q1, q2, q3, q4, q5, q6⟩
      obtain ⟨b1, hb1⟩ : ∃ b, follB x.h s.h = b := ⟨_, rfl⟩
      have hq2 := HQ.out
      rw [hb1] at hq2
      clear HQ q0 q1 q2 q3 q4 q5 q6 y0 y1 y2 y3 y4 y5 y6
      go_upto_region 5 with fail
      cases b1 with
      | false =>
        have HRN : Hid (R = none) := Lib.hid (by rw [← hq2]; rfl)
        clear hq2
        refine wp_region_held_drew (S := fun w' => Below w.heap.size w w' ∧ w'.heap[w.heap.size + 2]? = some (.cells #[.int .u64 x.h.shard, .int .u64 x.h.seq, .string x.h.prev, .string x.h.root, .int .u64 x.h.who, .int .u64 x.h.stamp, .string x.mac] 26 (0, 0)) ∧ SCl w' g (o + k * 7) s) (by kernel_rfl) ⟨HB.out.drew, HXX.out, HCL.out⟩ (fun hHeld => ?_)
        refine wpAnyH_take (i := 0) (v := ?_) rfl (by kernel_rfl) (by kernel_rfl) (by kernel_rfl) (fun _ _ _ h => h) (Or.inl ⟨by rfl, ?_⟩) hHeld ?_
        rotate_left
        · intro w' hSw; obtain ⟨y0, y1, y2, y3, y4, y5, y6⟩ := cells7 hSw.2.1; obtain ⟨q0, q1, q2, q3, q4, q5, q6⟩ := hSw.2.2; go_simp; first | done | with_reducible rfl | rfl
        try simp only [Act.put, List.getElem_toArray, List.getElem_cons_zero, List.setIfInBounds_toArray, List.set_cons_zero, List.set_cons_succ]
        refine wpAnyH_take (i := 1) (v := ?_) rfl (by kernel_rfl) (by kernel_rfl) (by kernel_rfl) (fun _ _ _ h => h) (Or.inl ⟨by rfl, ?_⟩) hHeld ?_
        rotate_left
        · intro w' hSw; obtain ⟨y0, y1, y2, y3, y4, y5, y6⟩ := cells7 hSw.2.1; obtain ⟨q0, q1, q2, q3, q4, q5, q6⟩ := hSw.2.2; go_simp; first | done | with_reducible rfl | rfl
        try simp only [Act.put, List.getElem_toArray, List.getElem_cons_zero, List.getElem_cons_succ, List.setIfInBounds_toArray, List.set_cons_zero, List.set_cons_succ]
        refine wpAnyH_take (i := 2) (v := ?_) rfl (by kernel_rfl) (by kernel_rfl) (by kernel_rfl) (fun _ _ _ h => h) (Or.inl ⟨by rfl, ?_⟩) hHeld ?_
        rotate_left
        · intro w' hSw; obtain ⟨y0, y1, y2, y3, y4, y5, y6⟩ := cells7 hSw.2.1; obtain ⟨q0, q1, q2, q3, q4, q5, q6⟩ := hSw.2.2; go_simp; first | done | with_reducible rfl | rfl
        try simp only [Act.put, List.getElem_toArray, List.getElem_cons_zero, List.getElem_cons_succ, List.setIfInBounds_toArray, List.set_cons_zero, List.set_cons_succ]
        refine wpAnyH_take (i := 3) (v := ?_) rfl (by kernel_rfl) (by kernel_rfl) (by kernel_rfl) (fun _ _ _ h => h) (Or.inl ⟨by rfl, ?_⟩) hHeld ?_
        rotate_left
        · intro w' hSw; obtain ⟨y0, y1, y2, y3, y4, y5, y6⟩ := cells7 hSw.2.1; obtain ⟨q0, q1, q2, q3, q4, q5, q6⟩ := hSw.2.2; go_simp; first | done | with_reducible rfl | rfl
        try simp only [Act.put, List.getElem_toArray, List.getElem_cons_zero, List.getElem_cons_succ, List.setIfInBounds_toArray, List.set_cons_zero, List.set_cons_succ]
        refine wpAnyH_take (i := 4) (v := ?_) rfl (by kernel_rfl) (by kernel_rfl) (by kernel_rfl) (fun _ _ _ h => h) (Or.inl ⟨by rfl, ?_⟩) hHeld ?_
        rotate_left
        · intro w' hSw; obtain ⟨y0, y1, y2, y3, y4, y5, y6⟩ := cells7 hSw.2.1; obtain ⟨q0, q1, q2, q3, q4, q5, q6⟩ := hSw.2.2; go_simp; first | done | with_reducible rfl | rfl
        try simp only [Act.put, List.getElem_toArray, List.getElem_cons_zero, List.getElem_cons_succ, List.setIfInBounds_toArray, List.set_cons_zero, List.set_cons_succ]
        refine wpAnyH_take (i := 5) (v := ?_) rfl (by kernel_rfl) (by kernel_rfl) (by kernel_rfl) (fun _ _ _ h => h) (Or.inl ⟨by rfl, ?_⟩) hHeld ?_
        rotate_left
        · intro w' hSw; obtain ⟨y0, y1, y2, y3, y4, y5, y6⟩ := cells7 hSw.2.1; obtain ⟨q0, q1, q2, q3, q4, q5, q6⟩ := hSw.2.2; go_simp; first | done | with_reducible rfl | rfl
        try simp only [Act.put, List.getElem_toArray, List.getElem_cons_zero, List.getElem_cons_succ, List.setIfInBounds_toArray, List.set_cons_zero, List.set_cons_succ]
        refine wpAnyH_take (i := 6) (v := ?_) rfl (by kernel_rfl) (by kernel_rfl) (by kernel_rfl) (fun _ _ _ h => h) (Or.inl ⟨by rfl, ?_⟩) hHeld ?_
        rotate_left
        · intro w' hSw; obtain ⟨y0, y1, y2, y3, y4, y5, y6⟩ := cells7 hSw.2.1; obtain ⟨q0, q1, q2, q3, q4, q5, q6⟩ := hSw.2.2; go_simp; first | done | with_reducible rfl | rfl
        try simp only [Act.put, List.getElem_toArray, List.getElem_cons_zero, List.getElem_cons_succ, List.setIfInBounds_toArray, List.set_cons_zero, List.set_cons_succ]
        refine wpAnyH_ready (rs := [7]) (by kernel_rfl) (by simp) ?_
        refine AllReadyH.cons rfl (fun K hK => ?_) AllReadyH.nil
        try simp only [Act.put, List.getElem_toArray, List.getElem_cons_zero, List.getElem_cons_succ, List.setIfInBounds_toArray, List.set_cons_zero, List.set_cons_succ]
        go_simp
        go_at_call 26
        refine (KF.out x.h s.h HX.out HSO.out _).mono ?_
        rintro e w7 ⟨rfl, hb7⟩
        have HB7 := Lib.hid ((HB.out.drew).trans (hb7.mono (HB.out.drew).size))
        have HX7 := Lib.hid ((hb7.block _ (block_lt (HXX.out))).trans (HXX.out))
        have HC7 := Lib.hid (HCL.out.later hb7)
        have HY7 := Lib.hid ((hb7.block _ (block_lt (HY.out))).trans (HY.out))
        rw [hb1]
        go_wp2_with fail
        clear hHeld
        refine hK.out _ _ ⟨HB7.out, HX7.out, HC7.out⟩ (fun hHeld => ?_)
        clear hK K hb7
        try simp only [Act.put, List.getElem_toArray, List.getElem_cons_zero, List.getElem_cons_succ, List.setIfInBounds_toArray, List.set_cons_zero, List.set_cons_succ]
        refine wpAnyH_take (i := 8) (v := ?_) rfl (by kernel_rfl) (by kernel_rfl) (by kernel_rfl) (fun _ _ _ h => h) (Or.inl ⟨by rfl, ?_⟩) hHeld ?_
        rotate_left
        · intro w' hSw; obtain ⟨y0, y1, y2, y3, y4, y5, y6⟩ := cells7 hSw.2.1; obtain ⟨q0, q1, q2, q3, q4, q5, q6⟩ := hSw.2.2; go_simp; first | done | with_reducible rfl | rfl
        try simp only [Act.put, List.getElem_toArray, List.getElem_cons_zero, List.getElem_cons_succ, List.setIfInBounds_toArray, List.set_cons_zero, List.set_cons_succ]
        refine wpAnyH_take (i := 9) (v := ?_) rfl (by kernel_rfl) (by kernel_rfl) (by kernel_rfl) (fun _ _ _ h => h) (Or.inl ⟨by rfl, ?_⟩) hHeld ?_
        rotate_left
        · intro w' hSw; obtain ⟨y0, y1, y2, y3, y4, y5, y6⟩ := cells7 hSw.2.1; obtain ⟨q0, q1, q2, q3, q4, q5, q6⟩ := hSw.2.2; go_simp; first | done | with_reducible rfl | rfl
        try simp only [Act.put, List.getElem_toArray, List.getElem_cons_zero, List.getElem_cons_succ, List.setIfInBounds_toArray, List.set_cons_zero, List.set_cons_succ]
        refine wpAnyH_take (i := 10) (v := undef) rfl (by kernel_rfl) (by kernel_rfl) (by kernel_rfl) (fun _ _ _ h => h) (Or.inr ⟨by rfl, by rfl⟩) hHeld ?_
        try simp only [Act.put, List.getElem_toArray, List.getElem_cons_zero, List.getElem_cons_succ, List.setIfInBounds_toArray, List.set_cons_zero, List.set_cons_succ]
        refine wpAnyH_take (i := 11) (v := undef) rfl (by kernel_rfl) (by kernel_rfl) (by kernel_rfl) (fun _ _ _ h => h) (Or.inr ⟨by rfl, by rfl⟩) hHeld ?_
        try simp only [Act.put, List.getElem_toArray, List.getElem_cons_zero, List.getElem_cons_succ, List.setIfInBounds_toArray, List.set_cons_zero, List.set_cons_succ]
        refine wpAnyH_take (i := 12) (v := undef) rfl (by kernel_rfl) (by kernel_rfl) (by kernel_rfl) (fun _ _ _ h => h) (Or.inr ⟨by rfl, by rfl⟩) hHeld ?_
        try simp only [Act.put, List.getElem_toArray, List.getElem_cons_zero, List.getElem_cons_succ, List.setIfInBounds_toArray, List.set_cons_zero, List.set_cons_succ]
        refine wpAnyH_take (i := 13) (v := undef) rfl (by kernel_rfl) (by kernel_rfl) (by kernel_rfl) (fun _ _ _ h => h) (Or.inr ⟨by rfl, by rfl⟩) hHeld ?_
        try simp only [Act.put, List.getElem_toArray, List.getElem_cons_zero, List.getElem_cons_succ, List.setIfInBounds_toArray, List.set_cons_zero, List.set_cons_succ]
        refine wpAnyH_take (i := 14) (v := undef) rfl (by kernel_rfl) (by kernel_rfl) (by kernel_rfl) (fun _ _ _ h => h) (Or.inr ⟨by rfl, by rfl⟩) hHeld ?_
        try simp only [Act.put, List.getElem_toArray, List.getElem_cons_zero, List.getElem_cons_succ, List.setIfInBounds_toArray, List.set_cons_zero, List.set_cons_succ]
        refine wpAnyH_take (i := 15) (v := undef) rfl (by kernel_rfl) (by kernel_rfl) (by kernel_rfl) (fun _ _ _ h => h) (Or.inr ⟨by rfl, by rfl⟩) hHeld ?_
        try simp only [Act.put, List.getElem_toArray, List.getElem_cons_zero, List.getElem_cons_succ, List.setIfInBounds_toArray, List.set_cons_zero, List.set_cons_succ]
        refine wpAnyH_take (i := 16) (v := undef) rfl (by kernel_rfl) (by kernel_rfl) (by kernel_rfl) (fun _ _ _ h => h) (Or.inr ⟨by rfl, by rfl⟩) hHeld ?_
        try simp only [Act.put, List.getElem_toArray, List.getElem_cons_zero, List.getElem_cons_succ, List.setIfInBounds_toArray, List.set_cons_zero, List.set_cons_succ]
        refine wpAnyH_take (i := 17) (v := ?_) rfl (by kernel_rfl) (by kernel_rfl) (by kernel_rfl) (fun _ _ _ h => h) (Or.inl ⟨by rfl, ?_⟩) hHeld ?_
        rotate_left
        · intro w' hSw; obtain ⟨y0, y1, y2, y3, y4, y5, y6⟩ := cells7 hSw.2.1; obtain ⟨q0, q1, q2, q3, q4, q5, q6⟩ := hSw.2.2; go_simp; first | done | with_reducible rfl | rfl
        try simp only [Act.put, List.getElem_toArray, List.getElem_cons_zero, List.getElem_cons_succ, List.setIfInBounds_toArray, List.set_cons_zero, List.set_cons_succ]
        refine wpAnyH_done (by kernel_rfl) ?_ _
        obtain ⟨d0, d1, d2, d3, d4, d5, d6⟩ := cells7 HY7.out
        obtain ⟨f0, f1, f2, f3, f4, f5, f6⟩ := free7 HY7.out
        go_wp2_with fail
        exact bodyPost_ret (results_sgb rfl rfl rfl (set7_heap HY7.out _ _ _ _ _ _ _) rfl) rfl ⟨by rw [HZR.out, HRN.out]; rfl, HB7.out.trans (set7_below (by omega) _ _ _ _ _ _ _)⟩
      | true =>
        obtain ⟨b2, hb2⟩ : ∃ b, s.by key = b := ⟨_, rfl⟩
        rw [Bool.true_and, hb2] at hq2
        have KD := Lib.hid (KC.out s HSO.out)
        rw [hb2] at KD
        clear hb2
        cases b2 with
        | false =>
          have HRN : Hid (R = none) := Lib.hid (by rw [← hq2]; rfl)
          clear hq2
          refine wp_region_held_drew (S := fun w' => Below w.heap.size w w' ∧ w'.heap[w.heap.size + 2]? = some (.cells #[.int .u64 x.h.shard, .int .u64 x.h.seq, .string x.h.prev, .string x.h.root, .int .u64 x.h.who, .int .u64 x.h.stamp, .string x.mac] 26 (0, 0)) ∧ SCl w' g (o + k * 7) s) (by kernel_rfl) ⟨HB.out.drew, HXX.out, HCL.out⟩ (fun hHeld => ?_)
          refine wpAnyH_take (i := 0) (v := ?_) rfl (by kernel_rfl) (by kernel_rfl) (by kernel_rfl) (fun _ _ _ h => h) (Or.inl ⟨by rfl, ?_⟩) hHeld ?_
          rotate_left
          · intro w' hSw; obtain ⟨y0, y1, y2, y3, y4, y5, y6⟩ := cells7 hSw.2.1; obtain ⟨q0, q1, q2, q3, q4, q5, q6⟩ := hSw.2.2; go_simp; first | done | with_reducible rfl | rfl
          try simp only [Act.put, List.getElem_toArray, List.getElem_cons_zero, List.setIfInBounds_toArray, List.set_cons_zero, List.set_cons_succ]
          refine wpAnyH_take (i := 1) (v := ?_) rfl (by kernel_rfl) (by kernel_rfl) (by kernel_rfl) (fun _ _ _ h => h) (Or.inl ⟨by rfl, ?_⟩) hHeld ?_
          rotate_left
          · intro w' hSw; obtain ⟨y0, y1, y2, y3, y4, y5, y6⟩ := cells7 hSw.2.1; obtain ⟨q0, q1, q2, q3, q4, q5, q6⟩ := hSw.2.2; go_simp; first | done | with_reducible rfl | rfl
          try simp only [Act.put, List.getElem_toArray, List.getElem_cons_zero, List.getElem_cons_succ, List.setIfInBounds_toArray, List.set_cons_zero, List.set_cons_succ]
          refine wpAnyH_take (i := 2) (v := ?_) rfl (by kernel_rfl) (by kernel_rfl) (by kernel_rfl) (fun _ _ _ h => h) (Or.inl ⟨by rfl, ?_⟩) hHeld ?_
          rotate_left
          · intro w' hSw; obtain ⟨y0, y1, y2, y3, y4, y5, y6⟩ := cells7 hSw.2.1; obtain ⟨q0, q1, q2, q3, q4, q5, q6⟩ := hSw.2.2; go_simp; first | done | with_reducible rfl | rfl
          try simp only [Act.put, List.getElem_toArray, List.getElem_cons_zero, List.getElem_cons_succ, List.setIfInBounds_toArray, List.set_cons_zero, List.set_cons_succ]
          refine wpAnyH_take (i := 3) (v := ?_) rfl (by kernel_rfl) (by kernel_rfl) (by kernel_rfl) (fun _ _ _ h => h) (Or.inl ⟨by rfl, ?_⟩) hHeld ?_
          rotate_left
          · intro w' hSw; obtain ⟨y0, y1, y2, y3, y4, y5, y6⟩ := cells7 hSw.2.1; obtain ⟨q0, q1, q2, q3, q4, q5, q6⟩ := hSw.2.2; go_simp; first | done | with_reducible rfl | rfl
          try simp only [Act.put, List.getElem_toArray, List.getElem_cons_zero, List.getElem_cons_succ, List.setIfInBounds_toArray, List.set_cons_zero, List.set_cons_succ]
          refine wpAnyH_take (i := 4) (v := ?_) rfl (by kernel_rfl) (by kernel_rfl) (by kernel_rfl) (fun _ _ _ h => h) (Or.inl ⟨by rfl, ?_⟩) hHeld ?_
          rotate_left
          · intro w' hSw; obtain ⟨y0, y1, y2, y3, y4, y5, y6⟩ := cells7 hSw.2.1; obtain ⟨q0, q1, q2, q3, q4, q5, q6⟩ := hSw.2.2; go_simp; first | done | with_reducible rfl | rfl
          try simp only [Act.put, List.getElem_toArray, List.getElem_cons_zero, List.getElem_cons_succ, List.setIfInBounds_toArray, List.set_cons_zero, List.set_cons_succ]
          refine wpAnyH_take (i := 5) (v := ?_) rfl (by kernel_rfl) (by kernel_rfl) (by kernel_rfl) (fun _ _ _ h => h) (Or.inl ⟨by rfl, ?_⟩) hHeld ?_
          rotate_left
          · intro w' hSw; obtain ⟨y0, y1, y2, y3, y4, y5, y6⟩ := cells7 hSw.2.1; obtain ⟨q0, q1, q2, q3, q4, q5, q6⟩ := hSw.2.2; go_simp; first | done | with_reducible rfl | rfl
          try simp only [Act.put, List.getElem_toArray, List.getElem_cons_zero, List.getElem_cons_succ, List.setIfInBounds_toArray, List.set_cons_zero, List.set_cons_succ]
          refine wpAnyH_take (i := 6) (v := ?_) rfl (by kernel_rfl) (by kernel_rfl) (by kernel_rfl) (fun _ _ _ h => h) (Or.inl ⟨by rfl, ?_⟩) hHeld ?_
          rotate_left
          · intro w' hSw; obtain ⟨y0, y1, y2, y3, y4, y5, y6⟩ := cells7 hSw.2.1; obtain ⟨q0, q1, q2, q3, q4, q5, q6⟩ := hSw.2.2; go_simp; first | done | with_reducible rfl | rfl
          try simp only [Act.put, List.getElem_toArray, List.getElem_cons_zero, List.getElem_cons_succ, List.setIfInBounds_toArray, List.set_cons_zero, List.set_cons_succ]
          refine wpAnyH_ready (rs := [7]) (by kernel_rfl) (by simp) ?_
          refine AllReadyH.cons rfl (fun K hK => ?_) AllReadyH.nil
          try simp only [Act.put, List.getElem_toArray, List.getElem_cons_zero, List.getElem_cons_succ, List.setIfInBounds_toArray, List.set_cons_zero, List.set_cons_succ]
          go_simp
          go_at_call 26
          refine (KF.out x.h s.h HX.out HSO.out _).mono ?_
          rintro e w7 ⟨rfl, hb7⟩
          have HB7 := Lib.hid ((HB.out.drew).trans (hb7.mono (HB.out.drew).size))
          have HX7 := Lib.hid ((hb7.block _ (block_lt (HXX.out))).trans (HXX.out))
          have HC7 := Lib.hid (HCL.out.later hb7)
          have HY7 := Lib.hid ((hb7.block _ (block_lt (HY.out))).trans (HY.out))
          rw [hb1]
          go_wp2_with fail
          clear hHeld
          refine hK.out _ _ ⟨HB7.out, HX7.out, HC7.out⟩ (fun hHeld => ?_)
          clear hK K hb7
          try simp only [Act.put, List.getElem_toArray, List.getElem_cons_zero, List.getElem_cons_succ, List.setIfInBounds_toArray, List.set_cons_zero, List.set_cons_succ]
          refine wpAnyH_take (i := 8) (v := ?_) rfl (by kernel_rfl) (by kernel_rfl) (by kernel_rfl) (fun _ _ _ h => h) (Or.inl ⟨by rfl, ?_⟩) hHeld ?_
          rotate_left
          · intro w' hSw; obtain ⟨y0, y1, y2, y3, y4, y5, y6⟩ := cells7 hSw.2.1; obtain ⟨q0, q1, q2, q3, q4, q5, q6⟩ := hSw.2.2; go_simp; first | done | with_reducible rfl | rfl
          try simp only [Act.put, List.getElem_toArray, List.getElem_cons_zero, List.getElem_cons_succ, List.setIfInBounds_toArray, List.set_cons_zero, List.set_cons_succ]
          refine wpAnyH_take (i := 9) (v := ?_) rfl (by kernel_rfl) (by kernel_rfl) (by kernel_rfl) (fun _ _ _ h => h) (Or.inl ⟨by rfl, ?_⟩) hHeld ?_
          rotate_left
          · intro w' hSw; obtain ⟨y0, y1, y2, y3, y4, y5, y6⟩ := cells7 hSw.2.1; obtain ⟨q0, q1, q2, q3, q4, q5, q6⟩ := hSw.2.2; go_simp; first | done | with_reducible rfl | rfl
          try simp only [Act.put, List.getElem_toArray, List.getElem_cons_zero, List.getElem_cons_succ, List.setIfInBounds_toArray, List.set_cons_zero, List.set_cons_succ]
          refine wpAnyH_take (i := 10) (v := ?_) rfl (by kernel_rfl) (by kernel_rfl) (by kernel_rfl) (fun _ _ _ h => h) (Or.inl ⟨by rfl, ?_⟩) hHeld ?_
          rotate_left
          · intro w' hSw; obtain ⟨y0, y1, y2, y3, y4, y5, y6⟩ := cells7 hSw.2.1; obtain ⟨q0, q1, q2, q3, q4, q5, q6⟩ := hSw.2.2; go_simp; first | done | with_reducible rfl | rfl
          try simp only [Act.put, List.getElem_toArray, List.getElem_cons_zero, List.getElem_cons_succ, List.setIfInBounds_toArray, List.set_cons_zero, List.set_cons_succ]
          refine wpAnyH_take (i := 11) (v := ?_) rfl (by kernel_rfl) (by kernel_rfl) (by kernel_rfl) (fun _ _ _ h => h) (Or.inl ⟨by rfl, ?_⟩) hHeld ?_
          rotate_left
          · intro w' hSw; obtain ⟨y0, y1, y2, y3, y4, y5, y6⟩ := cells7 hSw.2.1; obtain ⟨q0, q1, q2, q3, q4, q5, q6⟩ := hSw.2.2; go_simp; first | done | with_reducible rfl | rfl
          try simp only [Act.put, List.getElem_toArray, List.getElem_cons_zero, List.getElem_cons_succ, List.setIfInBounds_toArray, List.set_cons_zero, List.set_cons_succ]
          refine wpAnyH_take (i := 12) (v := ?_) rfl (by kernel_rfl) (by kernel_rfl) (by kernel_rfl) (fun _ _ _ h => h) (Or.inl ⟨by rfl, ?_⟩) hHeld ?_
          rotate_left
          · intro w' hSw; obtain ⟨y0, y1, y2, y3, y4, y5, y6⟩ := cells7 hSw.2.1; obtain ⟨q0, q1, q2, q3, q4, q5, q6⟩ := hSw.2.2; go_simp; first | done | with_reducible rfl | rfl
          try simp only [Act.put, List.getElem_toArray, List.getElem_cons_zero, List.getElem_cons_succ, List.setIfInBounds_toArray, List.set_cons_zero, List.set_cons_succ]
          refine wpAnyH_take (i := 13) (v := ?_) rfl (by kernel_rfl) (by kernel_rfl) (by kernel_rfl) (fun _ _ _ h => h) (Or.inl ⟨by rfl, ?_⟩) hHeld ?_
          rotate_left
          · intro w' hSw; obtain ⟨y0, y1, y2, y3, y4, y5, y6⟩ := cells7 hSw.2.1; obtain ⟨q0, q1, q2, q3, q4, q5, q6⟩ := hSw.2.2; go_simp; first | done | with_reducible rfl | rfl
          try simp only [Act.put, List.getElem_toArray, List.getElem_cons_zero, List.getElem_cons_succ, List.setIfInBounds_toArray, List.set_cons_zero, List.set_cons_succ]
          refine wpAnyH_take (i := 14) (v := ?_) rfl (by kernel_rfl) (by kernel_rfl) (by kernel_rfl) (fun _ _ _ h => h) (Or.inl ⟨by rfl, ?_⟩) hHeld ?_
          rotate_left
          · intro w' hSw; obtain ⟨y0, y1, y2, y3, y4, y5, y6⟩ := cells7 hSw.2.1; obtain ⟨q0, q1, q2, q3, q4, q5, q6⟩ := hSw.2.2; go_simp; first | done | with_reducible rfl | rfl
          try simp only [Act.put, List.getElem_toArray, List.getElem_cons_zero, List.getElem_cons_succ, List.setIfInBounds_toArray, List.set_cons_zero, List.set_cons_succ]
          refine wpAnyH_ready (rs := [15]) (by kernel_rfl) (by simp) ?_
          refine AllReadyH.cons rfl (fun K hK => ?_) AllReadyH.nil
          try simp only [Act.put, List.getElem_toArray, List.getElem_cons_zero, List.getElem_cons_succ, List.setIfInBounds_toArray, List.set_cons_zero, List.set_cons_succ]
          go_simp
          go_at_call 18
          refine (KD.out _).mono ?_
          rintro e w15 ⟨rfl, hb15⟩
          have HB15 := Lib.hid ((HB7.out).trans (hb15.mono (HB7.out).size))
          have HX15 := Lib.hid ((hb15.block _ (block_lt (HX7.out))).trans (HX7.out))
          have HC15 := Lib.hid (HC7.out.later hb15)
          have HY15 := Lib.hid ((hb15.block _ (block_lt (HY7.out))).trans (HY7.out))
          go_wp2_with fail
          clear hHeld
          refine hK.out _ _ ⟨HB15.out, HX15.out, HC15.out⟩ (fun hHeld => ?_)
          clear hK K hb15
          try simp only [Act.put, List.getElem_toArray, List.getElem_cons_zero, List.getElem_cons_succ, List.setIfInBounds_toArray, List.set_cons_zero, List.set_cons_succ]
          refine wpAnyH_take (i := 16) (v := ?_) rfl (by kernel_rfl) (by kernel_rfl) (by kernel_rfl) (fun _ _ _ h => h) (Or.inl ⟨by rfl, ?_⟩) hHeld ?_
          rotate_left
          · intro w' hSw; obtain ⟨y0, y1, y2, y3, y4, y5, y6⟩ := cells7 hSw.2.1; obtain ⟨q0, q1, q2, q3, q4, q5, q6⟩ := hSw.2.2; go_simp; first | done | with_reducible rfl | rfl
          try simp only [Act.put, List.getElem_toArray, List.getElem_cons_zero, List.getElem_cons_succ, List.setIfInBounds_toArray, List.set_cons_zero, List.set_cons_succ]
          refine wpAnyH_take (i := 17) (v := ?_) rfl (by kernel_rfl) (by kernel_rfl) (by kernel_rfl) (fun _ _ _ h => h) (Or.inl ⟨by rfl, ?_⟩) hHeld ?_
          rotate_left
          · intro w' hSw; obtain ⟨y0, y1, y2, y3, y4, y5, y6⟩ := cells7 hSw.2.1; obtain ⟨q0, q1, q2, q3, q4, q5, q6⟩ := hSw.2.2; go_simp; first | done | with_reducible rfl | rfl
          try simp only [Act.put, List.getElem_toArray, List.getElem_cons_zero, List.getElem_cons_succ, List.setIfInBounds_toArray, List.set_cons_zero, List.set_cons_succ]
          refine wpAnyH_done (by kernel_rfl) ?_ _
          obtain ⟨d0, d1, d2, d3, d4, d5, d6⟩ := cells7 HY15.out
          obtain ⟨f0, f1, f2, f3, f4, f5, f6⟩ := free7 HY15.out
          go_wp2_with fail
          exact bodyPost_ret (results_sgb rfl rfl rfl (set7_heap HY15.out _ _ _ _ _ _ _) rfl) rfl ⟨by rw [HZR.out, HRN.out]; rfl, HB15.out.trans (set7_below (by omega) _ _ _ _ _ _ _)⟩
        | true =>
          have HRN : Hid (chainO key s (l.drop (k + 1)) = R) := Lib.hid hq2
          clear hq2
          refine wp_region_held_drew (S := fun w' => Below w.heap.size w w' ∧ w'.heap[w.heap.size + 2]? = some (.cells #[.int .u64 x.h.shard, .int .u64 x.h.seq, .string x.h.prev, .string x.h.root, .int .u64 x.h.who, .int .u64 x.h.stamp, .string x.mac] 26 (0, 0)) ∧ SCl w' g (o + k * 7) s) (by kernel_rfl) ⟨HB.out.drew, HXX.out, HCL.out⟩ (fun hHeld => ?_)
          refine wpAnyH_take (i := 0) (v := ?_) rfl (by kernel_rfl) (by kernel_rfl) (by kernel_rfl) (fun _ _ _ h => h) (Or.inl ⟨by rfl, ?_⟩) hHeld ?_
          rotate_left
          · intro w' hSw; obtain ⟨y0, y1, y2, y3, y4, y5, y6⟩ := cells7 hSw.2.1; obtain ⟨q0, q1, q2, q3, q4, q5, q6⟩ := hSw.2.2; go_simp; first | done | with_reducible rfl | rfl
          try simp only [Act.put, List.getElem_toArray, List.getElem_cons_zero, List.setIfInBounds_toArray, List.set_cons_zero, List.set_cons_succ]
          refine wpAnyH_take (i := 1) (v := ?_) rfl (by kernel_rfl) (by kernel_rfl) (by kernel_rfl) (fun _ _ _ h => h) (Or.inl ⟨by rfl, ?_⟩) hHeld ?_
          rotate_left
          · intro w' hSw; obtain ⟨y0, y1, y2, y3, y4, y5, y6⟩ := cells7 hSw.2.1; obtain ⟨q0, q1, q2, q3, q4, q5, q6⟩ := hSw.2.2; go_simp; first | done | with_reducible rfl | rfl
          try simp only [Act.put, List.getElem_toArray, List.getElem_cons_zero, List.getElem_cons_succ, List.setIfInBounds_toArray, List.set_cons_zero, List.set_cons_succ]
          refine wpAnyH_take (i := 2) (v := ?_) rfl (by kernel_rfl) (by kernel_rfl) (by kernel_rfl) (fun _ _ _ h => h) (Or.inl ⟨by rfl, ?_⟩) hHeld ?_
          rotate_left
          · intro w' hSw; obtain ⟨y0, y1, y2, y3, y4, y5, y6⟩ := cells7 hSw.2.1; obtain ⟨q0, q1, q2, q3, q4, q5, q6⟩ := hSw.2.2; go_simp; first | done | with_reducible rfl | rfl
          try simp only [Act.put, List.getElem_toArray, List.getElem_cons_zero, List.getElem_cons_succ, List.setIfInBounds_toArray, List.set_cons_zero, List.set_cons_succ]
          refine wpAnyH_take (i := 3) (v := ?_) rfl (by kernel_rfl) (by kernel_rfl) (by kernel_rfl) (fun _ _ _ h => h) (Or.inl ⟨by rfl, ?_⟩) hHeld ?_
          rotate_left
          · intro w' hSw; obtain ⟨y0, y1, y2, y3, y4, y5, y6⟩ := cells7 hSw.2.1; obtain ⟨q0, q1, q2, q3, q4, q5, q6⟩ := hSw.2.2; go_simp; first | done | with_reducible rfl | rfl
          try simp only [Act.put, List.getElem_toArray, List.getElem_cons_zero, List.getElem_cons_succ, List.setIfInBounds_toArray, List.set_cons_zero, List.set_cons_succ]
          refine wpAnyH_take (i := 4) (v := ?_) rfl (by kernel_rfl) (by kernel_rfl) (by kernel_rfl) (fun _ _ _ h => h) (Or.inl ⟨by rfl, ?_⟩) hHeld ?_
          rotate_left
          · intro w' hSw; obtain ⟨y0, y1, y2, y3, y4, y5, y6⟩ := cells7 hSw.2.1; obtain ⟨q0, q1, q2, q3, q4, q5, q6⟩ := hSw.2.2; go_simp; first | done | with_reducible rfl | rfl
          try simp only [Act.put, List.getElem_toArray, List.getElem_cons_zero, List.getElem_cons_succ, List.setIfInBounds_toArray, List.set_cons_zero, List.set_cons_succ]
          refine wpAnyH_take (i := 5) (v := ?_) rfl (by kernel_rfl) (by kernel_rfl) (by kernel_rfl) (fun _ _ _ h => h) (Or.inl ⟨by rfl, ?_⟩) hHeld ?_
          rotate_left
          · intro w' hSw; obtain ⟨y0, y1, y2, y3, y4, y5, y6⟩ := cells7 hSw.2.1; obtain ⟨q0, q1, q2, q3, q4, q5, q6⟩ := hSw.2.2; go_simp; first | done | with_reducible rfl | rfl
          try simp only [Act.put, List.getElem_toArray, List.getElem_cons_zero, List.getElem_cons_succ, List.setIfInBounds_toArray, List.set_cons_zero, List.set_cons_succ]
          refine wpAnyH_take (i := 6) (v := ?_) rfl (by kernel_rfl) (by kernel_rfl) (by kernel_rfl) (fun _ _ _ h => h) (Or.inl ⟨by rfl, ?_⟩) hHeld ?_
          rotate_left
          · intro w' hSw; obtain ⟨y0, y1, y2, y3, y4, y5, y6⟩ := cells7 hSw.2.1; obtain ⟨q0, q1, q2, q3, q4, q5, q6⟩ := hSw.2.2; go_simp; first | done | with_reducible rfl | rfl
          try simp only [Act.put, List.getElem_toArray, List.getElem_cons_zero, List.getElem_cons_succ, List.setIfInBounds_toArray, List.set_cons_zero, List.set_cons_succ]
          refine wpAnyH_ready (rs := [7]) (by kernel_rfl) (by simp) ?_
          refine AllReadyH.cons rfl (fun K hK => ?_) AllReadyH.nil
          try simp only [Act.put, List.getElem_toArray, List.getElem_cons_zero, List.getElem_cons_succ, List.setIfInBounds_toArray, List.set_cons_zero, List.set_cons_succ]
          go_simp
          go_at_call 26
          refine (KF.out x.h s.h HX.out HSO.out _).mono ?_
          rintro e w7 ⟨rfl, hb7⟩
          have HB7 := Lib.hid ((HB.out.drew).trans (hb7.mono (HB.out.drew).size))
          have HX7 := Lib.hid ((hb7.block _ (block_lt (HXX.out))).trans (HXX.out))
          have HC7 := Lib.hid (HCL.out.later hb7)
          have HY7 := Lib.hid ((hb7.block _ (block_lt (HY.out))).trans (HY.out))
          rw [hb1]
          go_wp2_with fail
          clear hHeld
          refine hK.out _ _ ⟨HB7.out, HX7.out, HC7.out⟩ (fun hHeld => ?_)
          clear hK K hb7
          try simp only [Act.put, List.getElem_toArray, List.getElem_cons_zero, List.getElem_cons_succ, List.setIfInBounds_toArray, List.set_cons_zero, List.set_cons_succ]
          refine wpAnyH_take (i := 8) (v := ?_) rfl (by kernel_rfl) (by kernel_rfl) (by kernel_rfl) (fun _ _ _ h => h) (Or.inl ⟨by rfl, ?_⟩) hHeld ?_
          rotate_left
          · intro w' hSw; obtain ⟨y0, y1, y2, y3, y4, y5, y6⟩ := cells7 hSw.2.1; obtain ⟨q0, q1, q2, q3, q4, q5, q6⟩ := hSw.2.2; go_simp; first | done | with_reducible rfl | rfl
          try simp only [Act.put, List.getElem_toArray, List.getElem_cons_zero, List.getElem_cons_succ, List.setIfInBounds_toArray, List.set_cons_zero, List.set_cons_succ]
          refine wpAnyH_take (i := 9) (v := ?_) rfl (by kernel_rfl) (by kernel_rfl) (by kernel_rfl) (fun _ _ _ h => h) (Or.inl ⟨by rfl, ?_⟩) hHeld ?_
          rotate_left
          · intro w' hSw; obtain ⟨y0, y1, y2, y3, y4, y5, y6⟩ := cells7 hSw.2.1; obtain ⟨q0, q1, q2, q3, q4, q5, q6⟩ := hSw.2.2; go_simp; first | done | with_reducible rfl | rfl
          try simp only [Act.put, List.getElem_toArray, List.getElem_cons_zero, List.getElem_cons_succ, List.setIfInBounds_toArray, List.set_cons_zero, List.set_cons_succ]
          refine wpAnyH_take (i := 10) (v := ?_) rfl (by kernel_rfl) (by kernel_rfl) (by kernel_rfl) (fun _ _ _ h => h) (Or.inl ⟨by rfl, ?_⟩) hHeld ?_
          rotate_left
          · intro w' hSw; obtain ⟨y0, y1, y2, y3, y4, y5, y6⟩ := cells7 hSw.2.1; obtain ⟨q0, q1, q2, q3, q4, q5, q6⟩ := hSw.2.2; go_simp; first | done | with_reducible rfl | rfl
          try simp only [Act.put, List.getElem_toArray, List.getElem_cons_zero, List.getElem_cons_succ, List.setIfInBounds_toArray, List.set_cons_zero, List.set_cons_succ]
          refine wpAnyH_take (i := 11) (v := ?_) rfl (by kernel_rfl) (by kernel_rfl) (by kernel_rfl) (fun _ _ _ h => h) (Or.inl ⟨by rfl, ?_⟩) hHeld ?_
          rotate_left
          · intro w' hSw; obtain ⟨y0, y1, y2, y3, y4, y5, y6⟩ := cells7 hSw.2.1; obtain ⟨q0, q1, q2, q3, q4, q5, q6⟩ := hSw.2.2; go_simp; first | done | with_reducible rfl | rfl
          try simp only [Act.put, List.getElem_toArray, List.getElem_cons_zero, List.getElem_cons_succ, List.setIfInBounds_toArray, List.set_cons_zero, List.set_cons_succ]
          refine wpAnyH_take (i := 12) (v := ?_) rfl (by kernel_rfl) (by kernel_rfl) (by kernel_rfl) (fun _ _ _ h => h) (Or.inl ⟨by rfl, ?_⟩) hHeld ?_
          rotate_left
          · intro w' hSw; obtain ⟨y0, y1, y2, y3, y4, y5, y6⟩ := cells7 hSw.2.1; obtain ⟨q0, q1, q2, q3, q4, q5, q6⟩ := hSw.2.2; go_simp; first | done | with_reducible rfl | rfl
          try simp only [Act.put, List.getElem_toArray, List.getElem_cons_zero, List.getElem_cons_succ, List.setIfInBounds_toArray, List.set_cons_zero, List.set_cons_succ]
          refine wpAnyH_take (i := 13) (v := ?_) rfl (by kernel_rfl) (by kernel_rfl) (by kernel_rfl) (fun _ _ _ h => h) (Or.inl ⟨by rfl, ?_⟩) hHeld ?_
          rotate_left
          · intro w' hSw; obtain ⟨y0, y1, y2, y3, y4, y5, y6⟩ := cells7 hSw.2.1; obtain ⟨q0, q1, q2, q3, q4, q5, q6⟩ := hSw.2.2; go_simp; first | done | with_reducible rfl | rfl
          try simp only [Act.put, List.getElem_toArray, List.getElem_cons_zero, List.getElem_cons_succ, List.setIfInBounds_toArray, List.set_cons_zero, List.set_cons_succ]
          refine wpAnyH_take (i := 14) (v := ?_) rfl (by kernel_rfl) (by kernel_rfl) (by kernel_rfl) (fun _ _ _ h => h) (Or.inl ⟨by rfl, ?_⟩) hHeld ?_
          rotate_left
          · intro w' hSw; obtain ⟨y0, y1, y2, y3, y4, y5, y6⟩ := cells7 hSw.2.1; obtain ⟨q0, q1, q2, q3, q4, q5, q6⟩ := hSw.2.2; go_simp; first | done | with_reducible rfl | rfl
          try simp only [Act.put, List.getElem_toArray, List.getElem_cons_zero, List.getElem_cons_succ, List.setIfInBounds_toArray, List.set_cons_zero, List.set_cons_succ]
          refine wpAnyH_ready (rs := [15]) (by kernel_rfl) (by simp) ?_
          refine AllReadyH.cons rfl (fun K hK => ?_) AllReadyH.nil
          try simp only [Act.put, List.getElem_toArray, List.getElem_cons_zero, List.getElem_cons_succ, List.setIfInBounds_toArray, List.set_cons_zero, List.set_cons_succ]
          go_simp
          go_at_call 18
          refine (KD.out _).mono ?_
          rintro e w15 ⟨rfl, hb15⟩
          have HB15 := Lib.hid ((HB7.out).trans (hb15.mono (HB7.out).size))
          have HX15 := Lib.hid ((hb15.block _ (block_lt (HX7.out))).trans (HX7.out))
          have HC15 := Lib.hid (HC7.out.later hb15)
          have HY15 := Lib.hid ((hb15.block _ (block_lt (HY7.out))).trans (HY7.out))
          go_wp2_with fail
          clear hHeld
          refine hK.out _ _ ⟨HB15.out, HX15.out, HC15.out⟩ (fun hHeld => ?_)
          clear hK K hb15
          try simp only [Act.put, List.getElem_toArray, List.getElem_cons_zero, List.getElem_cons_succ, List.setIfInBounds_toArray, List.set_cons_zero, List.set_cons_succ]
          refine wpAnyH_take (i := 16) (v := ?_) rfl (by kernel_rfl) (by kernel_rfl) (by kernel_rfl) (fun _ _ _ h => h) (Or.inl ⟨by rfl, ?_⟩) hHeld ?_
          rotate_left
          · intro w' hSw; obtain ⟨y0, y1, y2, y3, y4, y5, y6⟩ := cells7 hSw.2.1; obtain ⟨q0, q1, q2, q3, q4, q5, q6⟩ := hSw.2.2; go_simp; first | done | with_reducible rfl | rfl
          try simp only [Act.put, List.getElem_toArray, List.getElem_cons_zero, List.getElem_cons_succ, List.setIfInBounds_toArray, List.set_cons_zero, List.set_cons_succ]
          refine wpAnyH_take (i := 17) (v := ?_) rfl (by kernel_rfl) (by kernel_rfl) (by kernel_rfl) (fun _ _ _ h => h) (Or.inl ⟨by rfl, ?_⟩) hHeld ?_
          rotate_left
          · intro w' hSw; obtain ⟨y0, y1, y2, y3, y4, y5, y6⟩ := cells7 hSw.2.1; obtain ⟨q0, q1, q2, q3, q4, q5, q6⟩ := hSw.2.2; go_simp; first | done | with_reducible rfl | rfl
          try simp only [Act.put, List.getElem_toArray, List.getElem_cons_zero, List.getElem_cons_succ, List.setIfInBounds_toArray, List.set_cons_zero, List.set_cons_succ]
          refine wpAnyH_done (by kernel_rfl) ?_ _
          obtain ⟨q0, q1, q2, q3, q4, q5, q6⟩ := HC15.out
          obtain ⟨f0, f1, f2, f3, f4, f5, f6⟩ := free7 HX15.out
          obtain ⟨y0, y1, y2, y3, y4, y5, y6⟩ := cells7 HX15.out
          have hw1 : IntKind.i64.wrap ((k : Int) + 1) = (k : Int) + 1 := IntWalk.i64_in _ (by omega)
          go_wp2_with fail
          go_roundw
          case rel =>
            refine ⟨k + 1, s, by go_num, by rw [HN.out]; omega, HRN, Lib.hid (HB15.out.trans (set7_below (by omega) _ _ _ _ _ _ _)), Lib.hid ⟨m, HSO.out, HM.out⟩, Lib.hid ((set7_other _ (w.heap.size + 2) _ _ _ _ _ _ _ (w.heap.size + 1) (by omega)).trans HY15.out), Lib.hid (set7_heap HX15.out _ _ _ _ _ _ _)⟩
          case measure => simp [intOf]; omega
    · have hkN : k = N := by omega
      have hlt2 : ¬ (k : Int) < (N : Int) := by omega
      have HE := Lib.hid (hq.out)
      have hR2 : R = some x := by rw [← HE.out]; exact chain_end (by rw [HN.out]; omega)
      have HR2 := Lib.hid hR2
      clear hR2 hkN hq hk
      obtain ⟨y0, y1, y2, y3, y4, y5, y6⟩ := cells7 HXX.out
      obtain ⟨d0, d1, d2, d3, d4, d5, d6⟩ := cells7 HY.out
      obtain ⟨f0, f1, f2, f3, f4, f5, f6⟩ := free7 HY.out
      go_wp2_with fail
      exact bodyPost_ret (results_sgb rfl rfl rfl (set7_heap HY.out _ _ _ _ _ _ _) rfl) rfl ⟨by rw [HZR.out, HR2.out]; rfl, HB.out.trans (set7_below (by omega) _ _ _ _ _ _ _)⟩
end Go.Proofs.YtgcaaigfgbglcaaDoor
