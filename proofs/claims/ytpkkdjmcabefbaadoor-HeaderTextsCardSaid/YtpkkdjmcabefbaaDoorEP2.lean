/- The program: Check, First, Next, Follows. -/
import Derived.Test.YtpkkdjmcabefbaaDoorEP1
namespace Go.Proofs.YtpkkdjmcabefbaaDoor
open Go.RowKit
open Cod (F Nd nodeL nodeV KidsAt)
theorem sign_true {key : ByteArray} {h : Hd} (b : h.is = true) : signS key h = ⟨h, h.sealB key⟩ := by unfold signS; rw [if_pos b]
theorem sign_false {key : ByteArray} {h : Hd} (b : h.is = false) : signS key h = zeroS := by unfold signS; rw [if_neg (by rw [b]; decide)]
set_option maxHeartbeats 2000000 in
set_option maxRecDepth 100000 in
theorem pcheck_prog (H : SumOk) (key : ByteArray) (hkey : key.size ≤ 10000) (s : Sg) (m : Nat) (hok : s.h.Ok m) (hm : m ≤ 1000) (w : World) (hst : Start w) :
    Calls Tryd.prog 14 #[.string key, sgV s] w fun e w' => e = .returned (.bool (s.by key)) ∧ Below w.heap.size w w' := by
  obtain ⟨b, hb⟩ : ∃ b, s.h.is = b := ⟨_, rfl⟩
  have KS := Lib.hid (fun W (hS : Start W) => psign_prog H key hkey s.h m hok hm W hS)
  obtain ⟨r, hr⟩ : ∃ r, s.by key = r := ⟨_, rfl⟩
  rw [hr]
  have HST := Lib.hid hst
  clear hst
  unfold sgV
  unfold hdV at KS
  rw [hb] at KS
  obtain ⟨W0, hW0⟩ : ∃ W0, W0 = w.alloc (.cells #[.int .u64 s.h.shard, .int .u64 s.h.seq, .string s.h.prev, .string s.h.root, .int .u64 s.h.who, .int .u64 s.h.stamp, .string s.mac] 35) := ⟨_, rfl⟩
  have HB0 := Lib.hid (show Below w.heap.size w W0 by rw [hW0]; exact (Below.refl _ _).alloc (Nat.le_refl _) _)
  have HZ0 : Hid (W0.heap[w.heap.size]? = some (.cells #[.int .u64 s.h.shard, .int .u64 s.h.seq, .string s.h.prev, .string s.h.root, .int .u64 s.h.who, .int .u64 s.h.stamp, .string s.mac] 35 (0, 0))) := Lib.hid (by rw [hW0]; exact heap_alloc_new _ _)
  obtain ⟨c0, c1, c2, c3, c4, c5, c6⟩ := cells7 HZ0.out
  unfold Sg.by at hr
  rw [hb] at hr
  have HBB := Lib.hid hb
  clear hok hm hkey hb
  cases b with
  | false =>
    rw [sign_false HBB.out] at KS
    unfold sgV zeroS zeroH at KS
    rw [Bool.false_and] at hr
    subst hr
    go_enter Tryd.func14, Tryd.ntmps14
    go_upto_region 1 with fail
    simp only [← hW0]
    clear hW0
    go_wp2_with fail
    refine (KS.out _ (HST.out.later HB0.out)).mono ?_
    rintro e w1 ⟨rfl, hb1⟩
    have HB1 := Lib.hid (HB0.out.trans (hb1.mono HB0.out.size))
    clear hb1 c0 c1 c2 c3 c4 c5 c6
    go_wp2_with fail
    go_ret
    exact ⟨rfl, (HB1.out.alloc HB1.out.size _)⟩
  | true =>
    rw [sign_true HBB.out] at KS
    rw [Bool.true_and] at hr
    obtain ⟨M, hM⟩ : ∃ M, s.h.sealB key = M := ⟨_, rfl⟩
    rw [hM] at KS hr
    unfold sgV at KS
    clear hM
    have HR := Lib.hid hr
    clear hr
    go_enter Tryd.func14, Tryd.ntmps14
    go_upto_region 1 with fail
    simp only [← hW0]
    clear hW0
    go_wp2_with fail
    refine (KS.out _ (HST.out.later HB0.out)).mono ?_
    rintro e w1 ⟨rfl, hb1⟩
    have HB1 := Lib.hid (HB0.out.trans (hb1.mono HB0.out.size))
    have HZ1 := Lib.hid ((hb1.block _ (block_lt HZ0.out)).trans HZ0.out)
    clear hb1 c0 c1 c2 c3 c4 c5 c6
    obtain ⟨c0, c1, c2, c3, c4, c5, c6⟩ := cells7 HZ1.out
    have hlt := block_lt HZ1.out
    obtain ⟨W2, hW2⟩ : ∃ W2, W2 = w1.alloc (.cells #[.int .u64 s.h.shard, .int .u64 s.h.seq, .string s.h.prev, .string s.h.root, .int .u64 s.h.who, .int .u64 s.h.stamp, .string M] 35) := ⟨_, rfl⟩
    have HB2 : Hid (Below w.heap.size w W2) := Lib.hid (by rw [hW2]; exact HB1.out.alloc HB1.out.size _)
    have HZ2 : Hid (W2.heap[w.heap.size]? = some (.cells #[.int .u64 s.h.shard, .int .u64 s.h.seq, .string s.h.prev, .string s.h.root, .int .u64 s.h.who, .int .u64 s.h.stamp, .string s.mac] 35 (0, 0))) := Lib.hid (by rw [hW2]; exact (Below.heap_alloc _ _ _ (block_lt HZ1.out)).trans HZ1.out)
    have HY2 : Hid (W2.heap[w1.heap.size]? = some (.cells #[.int .u64 s.h.shard, .int .u64 s.h.seq, .string s.h.prev, .string s.h.root, .int .u64 s.h.who, .int .u64 s.h.stamp, .string M] 35 (0, 0))) := Lib.hid (by rw [hW2]; exact heap_alloc_new _ _)
    obtain ⟨d0, d1, d2, d3, d4, d5, d6⟩ := cells7 HZ2.out
    obtain ⟨x0, x1, x2, x3, x4, x5, x6⟩ := cells7 HY2.out
    go_upto_region 2 with fail
    simp only [← hW2]
    clear hW2 c0 c1 c2 c3 c4 c5 c6 d0 d1 d2 d3 d4 d5 x0 x1 x2 x3 x4 x5
    go_wp2_with fail
    go_ret
    exact ⟨by rw [← HR.out]; exact congrArg (fun b => Ending.returned (.bool b)) (str_beq _ _), HB2.out⟩
set_option maxHeartbeats 1000000 in
theorem empty_prog (w : World) (z : ByteArray) (hz : z = ⟨(List.replicate 32 0).toArray⟩) :
    Calls Tryd.prog 27 #[] w fun e w' => e = .returned (.string z) ∧ Below w.heap.size w w' := by
  subst hz
  go_enter Tryd.func27, Tryd.ntmps27
  go_wp2_with (refine list_makeN Tryd.bytesSl rfl _ _ rfl 32 32 32 rfl rfl rfl rfl (by omega) (by unfold maxLen; omega) rfl ?_)
  intro w1 hr hb
  have hc := rowIs_block hr
  have hcells := cells_map 32 (List.replicate 32 (0 : UInt8)) (fun _ => 0) (by simp) (fun j hj => by rw [List.getD_eq_getElem?_getD, List.getElem?_replicate]; simp [hj])
  have e0 : arrL 32 (fun _ => Value.int .u8 0) = (List.replicate 32 (0 : UInt8)).map byteV := hcells
  rw [e0] at hc
  have hcv := run_string_row (src := 57) (dst := 9) Tryd.underlying57 Tryd.underlying5 Tryd.underlying9 w.heap.size 32 (List.replicate 32 (0 : UInt8)) (P := Tryd.prog) (e := 5) (w := w1) hc
  rw [List.length_replicate] at hcv
  clear hc hcells e0 hr
  go_wp2
  go_ret
  exact ⟨rfl, hb⟩
theorem firstH_u (n : Int) (hn : U64 n) (z : ByteArray) (hz : z = ⟨(List.replicate 32 0).toArray⟩) : (⟨n, 0, z, z, 0, 0⟩ : Hd).Ok 32 ∧ firstH n = ⟨n, 0, z, z, 0, 0⟩ := by
  subst hz
  refine ⟨⟨hn, ⟨by simp, by simp⟩, ?_, ?_, ⟨by simp, by simp⟩, ⟨by simp, by simp⟩⟩, rfl⟩
  · exact Nat.le_of_eq zeros32
  · exact Nat.le_of_eq zeros32
set_option maxHeartbeats 2000000 in
set_option maxRecDepth 100000 in
theorem pfirst_prog (H : SumOk) (key : ByteArray) (hkey : key.size ≤ 10000) (n : Int) (hn : U64 n) (w : World) (hst : Start w) :
    Calls Tryd.prog 10 #[.string key, .int .u64 n] w fun e w' => e = .returned (sgV (firstS key n)) ∧ Below w.heap.size w w' := by
  obtain ⟨z, hz0⟩ : ∃ z : ByteArray, z = ⟨(List.replicate 32 0).toArray⟩ := ⟨_, rfl⟩
  have hz := Lib.hid hz0
  have hf := Lib.hid (firstH_u n hn z hz0)
  clear hz0
  have KS := Lib.hid (fun W (hS : Start W) => psign_prog H key hkey ⟨n, 0, z, z, 0, 0⟩ 32 hf.out.1 (by decide) W hS)
  rw [sign_true (by rw [← hf.out.2]; exact first_is n)] at KS
  obtain ⟨M, hM⟩ : ∃ M, Hd.sealB key ⟨n, 0, z, z, 0, 0⟩ = M := ⟨_, rfl⟩
  have HF : Hid (firstS key n = ⟨⟨n, 0, z, z, 0, 0⟩, M⟩) := Lib.hid (by unfold firstS; rw [hf.out.2, hM])
  rw [hM] at KS
  unfold hdV sgV at KS
  have HST := Lib.hid hst
  clear hst
  obtain ⟨W0, hW0⟩ : ∃ W0, W0 = w.alloc (.cells #[.int .u64 0, .int .u64 0, .string ⟨#[]⟩, .string ⟨#[]⟩, .int .u64 0, .int .u64 0, .string ⟨#[]⟩] 35) := ⟨_, rfl⟩
  have HB0 := Lib.hid (show Below w.heap.size w W0 by rw [hW0]; exact (Below.refl _ _).alloc (Nat.le_refl _) _)
  have HZ0 : Hid (W0.heap[w.heap.size]? = some (.cells #[.int .u64 0, .int .u64 0, .string ⟨#[]⟩, .string ⟨#[]⟩, .int .u64 0, .int .u64 0, .string ⟨#[]⟩] 35 (0, 0))) := Lib.hid (by rw [hW0]; exact heap_alloc_new _ _)
  clear hn hkey hM
  go_enter Tryd.func10, Tryd.ntmps10
  go_upto_region 1 with fail
  simp only [← hW0]
  clear hW0
  go_wp2_with (refine list_makeN Tryd.bytesSl rfl _ _ rfl 32 32 32 rfl rfl rfl rfl (by omega) (by unfold maxLen; omega) rfl ?_)
  intro w1 hr hb
  have hc := rowIs_block hr
  have hcells := cells_map 32 (List.replicate 32 (0 : UInt8)) (fun _ => 0) (by simp) (fun j hj => by rw [List.getD_eq_getElem?_getD, List.getElem?_replicate]; simp [hj])
  have e0 : arrL 32 (fun _ => Value.int .u8 0) = (List.replicate 32 (0 : UInt8)).map byteV := hcells
  rw [e0] at hc
  have hcv := run_string_row (src := 57) (dst := 9) Tryd.underlying57 Tryd.underlying5 Tryd.underlying9 W0.heap.size 32 (List.replicate 32 (0 : UInt8)) (P := Tryd.prog) (e := 5) (w := w1) hc
  rw [List.length_replicate, ← hz.out] at hcv
  have HB1 := Lib.hid (HB0.out.trans (hb.mono HB0.out.size))
  have HZ1 := Lib.hid ((hb.block _ (block_lt HZ0.out)).trans HZ0.out)
  clear hc hcells e0 hr hb
  go_upto_region 2 with fail
  clear hcv
  go_wp2_with fail
  refine (empty_prog _ z hz.out).mono ?_
  rintro e w2 ⟨rfl, hb2⟩
  have HB2 := Lib.hid (HB1.out.trans (hb2.mono (by have := HB1.out.size; omega)))
  have HZ2 := Lib.hid ((hb2.block _ (block_lt HZ1.out)).trans HZ1.out)
  clear hb2
  go_wp2_with fail
  refine (KS.out _ (HST.out.later HB2.out)).mono ?_
  rintro e w3 ⟨rfl, hb3⟩
  have HB3 := Lib.hid (HB2.out.trans (hb3.mono HB2.out.size))
  have HZ3 := Lib.hid ((hb3.block _ (block_lt HZ2.out)).trans HZ2.out)
  clear hb3
  obtain ⟨W4, hW4⟩ : ∃ W4, W4 = w3.alloc (.cells #[.int .u64 n, .int .u64 0, .string z, .string z, .int .u64 0, .int .u64 0, .string M] 35) := ⟨_, rfl⟩
  have HB4 : Hid (Below w.heap.size w W4) := Lib.hid (by rw [hW4]; exact HB3.out.alloc HB3.out.size _)
  have HZ4 : Hid (W4.heap[w.heap.size]? = some (.cells #[.int .u64 0, .int .u64 0, .string ⟨#[]⟩, .string ⟨#[]⟩, .int .u64 0, .int .u64 0, .string ⟨#[]⟩] 35 (0, 0))) := Lib.hid (by rw [hW4]; exact (Below.heap_alloc _ _ _ (block_lt HZ3.out)).trans HZ3.out)
  have HY4 : Hid (W4.heap[w3.heap.size]? = some (.cells #[.int .u64 n, .int .u64 0, .string z, .string z, .int .u64 0, .int .u64 0, .string M] 35 (0, 0))) := Lib.hid (by rw [hW4]; exact heap_alloc_new _ _)
  obtain ⟨c0, c1, c2, c3, c4, c5, c6⟩ := cells7 HZ4.out
  obtain ⟨f0, f1, f2, f3, f4, f5, f6⟩ := free7 HZ4.out
  obtain ⟨x0, x1, x2, x3, x4, x5, x6⟩ := cells7 HY4.out
  go_upto_region 3 with fail
  simp only [← hW4]
  clear hW4
  go_wp2_with fail
  exact bodyPost_ret (results_sg rfl rfl (set7_heap HZ4.out _ _ _ _ _ _ _) rfl) rfl ⟨by rw [HF.out]; rfl, HB4.out.trans (set7_below (Nat.le_refl _) _ _ _ _ _ _ _)⟩
end Go.Proofs.YtpkkdjmcabefbaaDoor
