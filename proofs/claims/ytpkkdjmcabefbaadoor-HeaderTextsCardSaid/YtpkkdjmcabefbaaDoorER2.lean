/- The reference: Check, First, Next, Follows. -/
import Derived.Test.YtpkkdjmcabefbaaDoorER1
import Derived.Test.YtpkkdjmcabefbaaDoorEP2
namespace Go.Proofs.YtpkkdjmcabefbaaDoor
open Go.RowKit
open Cod (F Nd nodeL nodeV KidsAt)
set_option maxHeartbeats 2000000 in
set_option maxRecDepth 100000 in
theorem rfirst_prog (key : ByteArray) (hkey : key.size ≤ 10000) (n : Int) (hn : U64 n) (w : World) :
    Calls Tryd.prog 15 #[.string key, .int .u64 n] w fun e w' => e = .returned (sgV (firstS key n)) ∧ Below w.heap.size w w' := by
  obtain ⟨z, hz0⟩ : ∃ z : ByteArray, z = ⟨(List.replicate 32 0).toArray⟩ := ⟨_, rfl⟩
  have hz := Lib.hid hz0
  have hf := Lib.hid (firstH_u n hn z hz0)
  clear hz0
  have KS := Lib.hid (fun W => rsign_prog key hkey ⟨n, 0, z, z, 0, 0⟩ 32 hf.out.1 (by decide) W)
  rw [sign_true (by rw [← hf.out.2]; exact first_is n)] at KS
  obtain ⟨M, hM⟩ : ∃ M, Hd.sealB key ⟨n, 0, z, z, 0, 0⟩ = M := ⟨_, rfl⟩
  have HF : Hid (firstS key n = ⟨⟨n, 0, z, z, 0, 0⟩, M⟩) := Lib.hid (by unfold firstS; rw [hf.out.2, hM])
  rw [hM] at KS
  unfold hdV sgV at KS
  skip
  obtain ⟨W0, hW0⟩ : ∃ W0, W0 = w.alloc (.cells #[.int .u64 0, .int .u64 0, .string ⟨#[]⟩, .string ⟨#[]⟩, .int .u64 0, .int .u64 0, .string ⟨#[]⟩] 35) := ⟨_, rfl⟩
  have HB0 := Lib.hid (show Below w.heap.size w W0 by rw [hW0]; exact (Below.refl _ _).alloc (Nat.le_refl _) _)
  have HZ0 : Hid (W0.heap[w.heap.size]? = some (.cells #[.int .u64 0, .int .u64 0, .string ⟨#[]⟩, .string ⟨#[]⟩, .int .u64 0, .int .u64 0, .string ⟨#[]⟩] 35 (0, 0))) := Lib.hid (by rw [hW0]; exact heap_alloc_new _ _)
  clear hn hkey hM
  go_enter Tryd.func15, Tryd.ntmps15
  go_upto_region 1 with fail
  simp only [← hW0]
  clear hW0
  go_wp2_with (refine list_makeN Tryd.bytesSl rfl _ _ rfl 32 32 32 rfl rfl rfl rfl (by omega) (by unfold maxLen; omega) rfl ?_)
  intro w1 hr hb
  have hc := rowIs_block hr
  have hcells := cells_map 32 (List.replicate 32 (0 : UInt8)) (fun _ => 0) (by simp) (fun j hj => by rw [List.getD_eq_getElem?_getD, List.getElem?_replicate]; simp [hj])
  have e0 : arrL 32 (fun _ => Value.int .u8 0) = (List.replicate 32 (0 : UInt8)).map byteV := hcells
  rw [e0] at hc
  have hcv := run_string_row (src := 57) (dst := 9) Tryd.underlying57 Tryd.underlying5 Tryd.underlying9 W0.heap.size 32 (List.replicate 32 (0 : UInt8)) (P := Tryd.prog) (e := 5) (w := w1) hc
  rw [List.length_replicate, ← hz.out] at hcv
  have HB1 := Lib.hid (HB0.out.trans (hb.mono HB0.out.size))
  have HZ1 := Lib.hid ((hb.block _ (block_lt HZ0.out)).trans HZ0.out)
  clear hc hcells e0 hr hb
  go_upto_region 2 with fail
  clear hcv
  go_wp2_with fail
  obtain ⟨w2, hw2⟩ : ∃ w2, w2 = w1 := ⟨_, rfl⟩
  have HB2 : Hid (Below w.heap.size w w2) := Lib.hid (by rw [hw2]; exact HB1.out)
  have HZ2 : Hid (w2.heap[w.heap.size]? = some (.cells #[.int .u64 0, .int .u64 0, .string ⟨#[]⟩, .string ⟨#[]⟩, .int .u64 0, .int .u64 0, .string ⟨#[]⟩] 35 (0, 0))) := Lib.hid (by rw [hw2]; exact HZ1.out)
  rw [← hw2]
  clear hw2
  refine (KS.out _).mono ?_
  rintro e w3 ⟨rfl, hb3⟩
  have HB3 := Lib.hid (HB2.out.trans (hb3.mono HB2.out.size))
  have HZ3 := Lib.hid ((hb3.block _ (block_lt HZ2.out)).trans HZ2.out)
  clear hb3
  obtain ⟨W4, hW4⟩ : ∃ W4, W4 = w3.alloc (.cells #[.int .u64 n, .int .u64 0, .string z, .string z, .int .u64 0, .int .u64 0, .string M] 35) := ⟨_, rfl⟩
  have HB4 : Hid (Below w.heap.size w W4) := Lib.hid (by rw [hW4]; exact HB3.out.alloc HB3.out.size _)
  have HZ4 : Hid (W4.heap[w.heap.size]? = some (.cells #[.int .u64 0, .int .u64 0, .string ⟨#[]⟩, .string ⟨#[]⟩, .int .u64 0, .int .u64 0, .string ⟨#[]⟩] 35 (0, 0))) := Lib.hid (by rw [hW4]; exact (Below.heap_alloc _ _ _ (block_lt HZ3.out)).trans HZ3.out)
  have HY4 : Hid (W4.heap[w3.heap.size]? = some (.cells #[.int .u64 n, .int .u64 0, .string z, .string z, .int .u64 0, .int .u64 0, .string M] 35 (0, 0))) := Lib.hid (by rw [hW4]; exact heap_alloc_new _ _)
  obtain ⟨c0, c1, c2, c3, c4, c5, c6⟩ := cells7 HZ4.out
  obtain ⟨f0, f1, f2, f3, f4, f5, f6⟩ := free7 HZ4.out
  obtain ⟨x0, x1, x2, x3, x4, x5, x6⟩ := cells7 HY4.out
  go_upto_region 3 with fail
  simp only [← hW4]
  clear hW4
  go_wp2_with fail
  exact bodyPost_ret (results_sg rfl rfl (set7_heap HZ4.out _ _ _ _ _ _ _) rfl) rfl ⟨by rw [HF.out]; rfl, HB4.out.trans (set7_below (Nat.le_refl _) _ _ _ _ _ _ _)⟩
end Go.Proofs.YtpkkdjmcabefbaaDoor
