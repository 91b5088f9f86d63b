/- The program: Chain. -/
import Derived.Test.YtpkkdjmcabefbaaDoorEP4
import Derived.Test.YtpkkdjmcabefbaaDoorESl
namespace Go.Proofs.YtpkkdjmcabefbaaDoor
open Go.RowKit
theorem chain_step {key : ByteArray} {f s : Sg} {l : List Sg} {k : Nat} (h : l[k]? = some s) : chainO key f (l.drop k) = if follB f.h s.h && s.by key then chainO key s (l.drop (k + 1)) else none := by
  obtain ⟨hk, e⟩ := List.getElem?_eq_some_iff.1 h
  rw [List.drop_eq_getElem_cons hk, e]; rfl
theorem chain_end {key : ByteArray} {f : Sg} {l : List Sg} {k : Nat} (h : l.length ≤ k) : chainO key f (l.drop k) = some f := by
  rw [List.drop_eq_nil_of_le h]; rfl
def pchRel (key : ByteArray) (w : World) (l : List Sg) (R : Option Sg) (i : Value) (wr : World) : Prop :=
  ∃ (k : Nat) (x : Sg), i = .int .i64 (k : Int) ∧ k ≤ l.length ∧ Hid (chainO key x (l.drop k) = R) ∧ Hid (Below w.heap.size w wr) ∧ Hid (∃ m, x.h.Ok m ∧ m ≤ 1000) ∧
    Hid (wr.heap[w.heap.size + 1]? = some (.cells #[.int .u64 0, .int .u64 0, .string ⟨#[]⟩, .string ⟨#[]⟩, .int .u64 0, .int .u64 0, .string ⟨#[]⟩] 35 (0, 0))) ∧ Hid (wr.heap[w.heap.size + 2]? = some (.cells #[.int .u64 x.h.shard, .int .u64 x.h.seq, .string x.h.prev, .string x.h.root, .int .u64 x.h.who, .int .u64 x.h.stamp, .string x.mac] 35 (0, 0)))
set_option maxHeartbeats 4000000 in
set_option maxRecDepth 100000 in
theorem pchain_prog (H : SumOk) (key : ByteArray) (hkey : key.size ≤ 10000) (x0 : Sg) (m : Nat) (hx : x0.h.Ok m) (hm : m ≤ 1000) (l : List Sg) (hl : ∀ s ∈ l, s.h.Ok m) (hlen : l.length ≤ 1000) (v : Value) (w : World) (hv : SSl w v l) (hst : Start w) :
    Calls Tryd.prog 13 #[.string key, sgV x0, v] w fun e w' => e = .returned (.tuple #[sgV (chainS key x0 l), .bool (chainO key x0 l).isSome]) ∧ Below w.heap.size w w' := by
  have KF := Lib.hid (fun (a b : Hd) (ha : ∃ m, a.Ok m ∧ m ≤ 1000) (hb : b.Ok m) W (hS : Start W) => pfoll_prog H a b (max m ha.choose) (ha.choose_spec.1.mono (Nat.le_max_right _ _)) (hb.mono (Nat.le_max_left _ _)) (by have := ha.choose_spec.2; omega) W hS)
  have KC := Lib.hid (fun (s : Sg) (hs : s.h.Ok m) W (hS : Start W) => pcheck_prog H key hkey s m hs hm W hS)
  obtain ⟨R, hR⟩ : ∃ R, chainO key x0 l = R := ⟨_, rfl⟩
  obtain ⟨Z, hZ⟩ : ∃ Z, chainS key x0 l = Z := ⟨_, rfl⟩
  have HZR : Hid (Z = R.getD zeroS) := Lib.hid (by rw [← hZ, ← hR]; rfl)
  rw [hR, hZ]
  have HR := Lib.hid hR
  have HV := Lib.hid hv
  have HL := Lib.hid hl
  have HX0 : Hid (∃ m, x0.h.Ok m ∧ m ≤ 1000) := Lib.hid ⟨m, hx, hm⟩
  have HST := Lib.hid hst
  clear hst
  unfold sgV
  unfold sgV at KC
  unfold hdV at KF
  obtain ⟨va, vc, rfl⟩ := hv.shape
  obtain ⟨N, hN⟩ : ∃ N, l.length = N := ⟨_, rfl⟩
  rw [hN]
  have hN1 : (N : Int) ≤ 1000 := by omega
  have HN := Lib.hid hN
  obtain ⟨W0, hW0⟩ : ∃ W0, W0 = (w.alloc (.cells #[.int .u64 x0.h.shard, .int .u64 x0.h.seq, .string x0.h.prev, .string x0.h.root, .int .u64 x0.h.who, .int .u64 x0.h.stamp, .string x0.mac] 35)).alloc (.cells #[.int .u64 0, .int .u64 0, .string ⟨#[]⟩, .string ⟨#[]⟩, .int .u64 0, .int .u64 0, .string ⟨#[]⟩] 35) := ⟨_, rfl⟩
  have HB0 := Lib.hid (show Below w.heap.size w W0 by rw [hW0]; exact ((Below.refl _ _).alloc (Nat.le_refl _) _).alloc (by simp) _)
  have HA0 : Hid (W0.heap[w.heap.size]? = some (.cells #[.int .u64 x0.h.shard, .int .u64 x0.h.seq, .string x0.h.prev, .string x0.h.root, .int .u64 x0.h.who, .int .u64 x0.h.stamp, .string x0.mac] 35 (0, 0))) := Lib.hid (by rw [hW0]; exact (Below.heap_alloc _ _ _ (by simp)).trans (heap_alloc_new _ _))
  have HY0 : Hid (W0.heap[w.heap.size + 1]? = some (.cells #[.int .u64 0, .int .u64 0, .string ⟨#[]⟩, .string ⟨#[]⟩, .int .u64 0, .int .u64 0, .string ⟨#[]⟩] 35 (0, 0))) := Lib.hid (by rw [hW0]; simpa using heap_alloc_new (w.alloc (.cells #[.int .u64 x0.h.shard, .int .u64 x0.h.seq, .string x0.h.prev, .string x0.h.root, .int .u64 x0.h.who, .int .u64 x0.h.stamp, .string x0.mac] 35)) _)
  have hsz : W0.heap.size = w.heap.size + 1 + 1 := by rw [hW0]; simp
  obtain ⟨c0, c1, c2, c3, c4, c5, c6⟩ := cells7 HA0.out
  obtain ⟨W1, hW1⟩ : ∃ W1, W1 = W0.alloc (.cells #[.int .u64 x0.h.shard, .int .u64 x0.h.seq, .string x0.h.prev, .string x0.h.root, .int .u64 x0.h.who, .int .u64 x0.h.stamp, .string x0.mac] 35) := ⟨_, rfl⟩
  have HB1 : Hid (Below w.heap.size w W1) := Lib.hid (by rw [hW1]; exact HB0.out.alloc HB0.out.size _)
  have HY1 : Hid (W1.heap[w.heap.size + 1]? = some (.cells #[.int .u64 0, .int .u64 0, .string ⟨#[]⟩, .string ⟨#[]⟩, .int .u64 0, .int .u64 0, .string ⟨#[]⟩] 35 (0, 0))) := Lib.hid (by rw [hW1]; exact (Below.heap_alloc _ _ _ (block_lt HY0.out)).trans HY0.out)
  have HX1 : Hid (W1.heap[w.heap.size + 1 + 1]? = some (.cells #[.int .u64 x0.h.shard, .int .u64 x0.h.seq, .string x0.h.prev, .string x0.h.root, .int .u64 x0.h.who, .int .u64 x0.h.stamp, .string x0.mac] 35 (0, 0))) := Lib.hid (by rw [hW1, ← hsz]; exact heap_alloc_new _ _)
  have HM := Lib.hid hm
  clear hkey hx hm hl hlen hv hR hZ hN
  go_enter Tryd.func13, Tryd.ntmps13
  go_upto_region 1 with fail
  simp only [← hW0]
  clear hW0
  go_upto_region 2 with fail
  simp only [← hW1]
  clear hW1 c0 c1 c2 c3 c4 c5 c6 hsz
  go_wp2_with fail
  go_loopw [14] (pchRel key w l R) (fun i _ => N - (intOf i).toNat)
  case atStart => exact ⟨0, x0, rfl, by omega, Lib.hid (by rw [List.drop_zero]; exact HR.out), HB1, HX0, HY1, HX1⟩
  case round =>
    obtain ⟨k, x, rfl, hk, hq, HB, HX, HY, HXX⟩ := hrel
    rw [HN.out] at hk
    by_cases hlt : k < N
    · have i0 : (0 : Int) ≤ (k : Int) := by omega
      have i1 : (k : Int) < (N : Int) := by omega
      obtain ⟨s, hs⟩ : ∃ s, l[k]? = some s := ⟨l[k]'(by rw [HN.out]; exact hlt), List.getElem?_eq_getElem _⟩
      have HSO := Lib.hid (HL.out s (List.mem_of_getElem? hs))
      obtain ⟨g, o, c, ev, hcl⟩ := (HV.out.later HB.out).get hs
      rw [HN.out] at ev
      injection ev with e1 e2 e3
      subst e1 e3
      clear e2
      obtain ⟨q0, q1, q2, q3, q4, q5, q6⟩ := hcl
      have HQ : Hid ((if follB x.h s.h && s.by key then chainO key s (l.drop (k + 1)) else none) = R) := Lib.hid (by rw [← chain_step hs]; exact hq.out)
      clear hq hs
      obtain ⟨y0, y1, y2, y3, y4, y5, y6⟩ := cells7 HXX.out
      obtain ⟨G, hG⟩ : ∃ G, G = wr.heap.size := ⟨_, rfl⟩
      obtain ⟨W2, hW2⟩ : ∃ W2, W2 = wr.alloc (.cells #[.int .u64 s.h.shard, .int .u64 s.h.seq, .string s.h.prev, .string s.h.root, .int .u64 s.h.who, .int .u64 s.h.stamp, .string s.mac] 35) := ⟨_, rfl⟩
      have HB2 : Hid (Below w.heap.size w W2) := Lib.hid (by rw [hW2]; exact HB.out.alloc HB.out.size _)
      have HY2 : Hid (W2.heap[w.heap.size + 1]? = some (.cells #[.int .u64 0, .int .u64 0, .string ⟨#[]⟩, .string ⟨#[]⟩, .int .u64 0, .int .u64 0, .string ⟨#[]⟩] 35 (0, 0))) := Lib.hid (by rw [hW2]; exact (Below.heap_alloc _ _ _ (block_lt HY.out)).trans HY.out)
      have HX2 : Hid (W2.heap[w.heap.size + 2]? = some (.cells #[.int .u64 x.h.shard, .int .u64 x.h.seq, .string x.h.prev, .string x.h.root, .int .u64 x.h.who, .int .u64 x.h.stamp, .string x.mac] 35 (0, 0))) := Lib.hid (by rw [hW2]; exact (Below.heap_alloc _ _ _ (block_lt HXX.out)).trans HXX.out)
      have HS2 : Hid (W2.heap[G]? = some (.cells #[.int .u64 s.h.shard, .int .u64 s.h.seq, .string s.h.prev, .string s.h.root, .int .u64 s.h.who, .int .u64 s.h.stamp, .string s.mac] 35 (0, 0))) := Lib.hid (by rw [hW2, hG]; exact heap_alloc_new _ _)
      have HGX : Hid (w.heap.size + 2 < G) := Lib.hid (by rw [hG]; exact block_lt HXX.out)
      go_upto_region 5 with fail
      simp only [← hW2, ← hG]
      clear hW2 hG q0 q1 q2 q3 q4 q5 q6 y0 y1 y2 y3 y4 y5 y6
      obtain ⟨y0, y1, y2, y3, y4, y5, y6⟩ := cells7 HX2.out
      obtain ⟨q0, q1, q2, q3, q4, q5, q6⟩ := cells7 HS2.out
      go_wp2_with fail
      refine (KF.out x.h s.h HX.out HSO.out _ (HST.out.later HB2.out)).mono ?_
      rintro e w3 ⟨rfl, hb3⟩
      obtain ⟨b1, hb1⟩ : ∃ b, follB x.h s.h = b := ⟨_, rfl⟩
      rw [hb1]
      have HB3 := Lib.hid (HB2.out.trans (hb3.mono HB2.out.size))
      have HY3 := Lib.hid ((hb3.block _ (block_lt HY2.out)).trans HY2.out)
      have HX3 := Lib.hid ((hb3.block _ (block_lt HX2.out)).trans HX2.out)
      have HS3 := Lib.hid ((hb3.block _ (block_lt HS2.out)).trans HS2.out)
      have hq2 := HQ.out
      rw [hb1] at hq2
      clear hb3 HQ hb1 y0 y1 y2 y3 y4 y5 y6 q0 q1 q2 q3 q4 q5 q6
      obtain ⟨d0, d1, d2, d3, d4, d5, d6⟩ := cells7 HY3.out
      obtain ⟨f0, f1, f2, f3, f4, f5, f6⟩ := free7 HY3.out
      cases b1 with
      | false =>
        have HRN : Hid (R = none) := Lib.hid (by rw [← hq2]; rfl)
        clear hq2
        go_wp2_with fail
        exact bodyPost_ret (results_sgb rfl rfl rfl (set7_heap HY3.out _ _ _ _ _ _ _) rfl) rfl ⟨by rw [HZR.out, HRN.out]; rfl, HB3.out.trans (set7_below (by omega) _ _ _ _ _ _ _)⟩
      | true =>
        rw [Bool.true_and] at hq2
        have HQ2 := Lib.hid hq2
        clear hq2
        obtain ⟨q0, q1, q2, q3, q4, q5, q6⟩ := cells7 HS3.out
        go_wp2_with fail
        refine (KC.out s HSO.out _ (HST.out.later HB3.out)).mono ?_
        rintro e w4 ⟨rfl, hb4⟩
        obtain ⟨b2, hb2⟩ : ∃ b, s.by key = b := ⟨_, rfl⟩
        rw [hb2]
        have HB4 := Lib.hid (HB3.out.trans (hb4.mono HB3.out.size))
        have HY4 := Lib.hid ((hb4.block _ (block_lt HY3.out)).trans HY3.out)
        have HX4 := Lib.hid ((hb4.block _ (block_lt HX3.out)).trans HX3.out)
        have HS4 := Lib.hid ((hb4.block _ (block_lt HS3.out)).trans HS3.out)
        have hq3 := HQ2.out
        rw [hb2] at hq3
        clear hb4 HQ2 hb2 d0 d1 d2 d3 d4 d5 d6 f0 f1 f2 f3 f4 f5 f6 q0 q1 q2 q3 q4 q5 q6
        cases b2 with
        | false =>
          have HRN : Hid (R = none) := Lib.hid (by rw [← hq3]; rfl)
          clear hq3
          obtain ⟨d0, d1, d2, d3, d4, d5, d6⟩ := cells7 HY4.out
          obtain ⟨f0, f1, f2, f3, f4, f5, f6⟩ := free7 HY4.out
          go_wp2_with fail
          exact bodyPost_ret (results_sgb rfl rfl rfl (set7_heap HY4.out _ _ _ _ _ _ _) rfl) rfl ⟨by rw [HZR.out, HRN.out]; rfl, HB4.out.trans (set7_below (by omega) _ _ _ _ _ _ _)⟩
        | true =>
          have HRN : Hid (chainO key s (l.drop (k + 1)) = R) := Lib.hid hq3
          clear hq3
          obtain ⟨q0, q1, q2, q3, q4, q5, q6⟩ := cells7 HS4.out
          obtain ⟨f0, f1, f2, f3, f4, f5, f6⟩ := free7 HX4.out
          obtain ⟨y0, y1, y2, y3, y4, y5, y6⟩ := cells7 HX4.out
          have n1 : G ≠ w.heap.size + 2 := by have := HGX.out; omega
          have n2 : w.heap.size + 2 ≠ G := by have := HGX.out; omega
          go_wp2_with fail
          go_roundw
          case rel =>
            refine ⟨k + 1, s, by go_num, by rw [HN.out]; omega, HRN, Lib.hid (HB4.out.trans (set7_below (by omega) _ _ _ _ _ _ _)), Lib.hid ⟨m, HSO.out, HM.out⟩, Lib.hid ((set7_other _ (w.heap.size + 2) _ _ _ _ _ _ _ (w.heap.size + 1) (by omega)).trans HY4.out), Lib.hid (set7_heap HX4.out _ _ _ _ _ _ _)⟩
          case measure => simp [intOf]; omega
    · have hkN : k = N := by omega
      have hlt2 : ¬ (k : Int) < (N : Int) := by omega
      have HE := Lib.hid (hq.out)
      have hR2 : R = some x := by rw [← HE.out]; exact chain_end (by rw [HN.out]; omega)
      have HR2 := Lib.hid hR2
      clear hR2 hkN hq hk
      obtain ⟨y0, y1, y2, y3, y4, y5, y6⟩ := cells7 HXX.out
      obtain ⟨d0, d1, d2, d3, d4, d5, d6⟩ := cells7 HY.out
      obtain ⟨f0, f1, f2, f3, f4, f5, f6⟩ := free7 HY.out
      go_wp2_with fail
      exact bodyPost_ret (results_sgb rfl rfl rfl (set7_heap HY.out _ _ _ _ _ _ _) rfl) rfl ⟨by rw [HZR.out, HR2.out]; rfl, HB.out.trans (set7_below (by omega) _ _ _ _ _ _ _)⟩
end Go.Proofs.YtpkkdjmcabefbaaDoor
