/- The program: Next, Follows. -/
import Derived.Test.YtpkkdjmcabefbaaDoorEP2
namespace Go.Proofs.YtpkkdjmcabefbaaDoor
open Go.RowKit
theorem next_false {key : ByteArray} {s : Sg} {root : ByteArray} {a b : Int} (h : nextOk s.h root = false) : nextS key s root a b = zeroS := by unfold nextS; rw [if_neg (by rw [h]; decide)]
theorem nextOk_seq {h : Hd} {root : ByteArray} (e : h.seq = 18446744073709551615) : nextOk h root = false := by unfold nextOk; rw [decide_eq_true e]; simp
theorem nextOk_is {h : Hd} {root : ByteArray} (e : h.is = false) : nextOk h root = false := by unfold nextOk; rw [e]; simp
theorem nextOk_root {h : Hd} {root : ByteArray} (e : root.size ≠ 32) : nextOk h root = false := by unfold nextOk; rw [decide_eq_false e]; simp
theorem next_true {key : ByteArray} {s : Sg} {root : ByteArray} (a b : Int) (e1 : s.h.is = true) (e2 : s.h.seq ≠ 18446744073709551615) :
    (nextH s.h root a b).is = nextOk s.h root ∧ signS key (nextH s.h root a b) = nextS key s root a b := by
  have h : (nextH s.h root a b).is = nextOk s.h root := by
    unfold nextOk nextH Hd.is
    simp only
    rw [decide_eq_true (hash_size e1), decide_eq_false e2]
    unfold Hd.is at e1
    rw [e1]; simp
  refine ⟨h, ?_⟩
  unfold signS nextS; rw [h]
theorem nextH_ok {h : Hd} {m : Nat} (k : h.Ok m) (e : h.seq ≠ 18446744073709551615) {root : ByteArray} {a b : Int} (hr : root.size ≤ m) (hm : 32 ≤ m) (ha : U64 a) (hb : U64 b) : (nextH h root a b).Ok m :=
  ⟨k.1, ⟨by have := k.2.1.1; show 0 ≤ h.seq + 1; omega, by have := k.2.1.2; show h.seq + 1 < 18446744073709551616; omega⟩, Nat.le_trans (hash_le h) hm, hr, ha, hb⟩
set_option maxHeartbeats 2000000 in
set_option maxRecDepth 100000 in
theorem pnext_prog (H : SumOk) (key : ByteArray) (hkey : key.size ≤ 10000) (s : Sg) (m : Nat) (hok : s.h.Ok m) (hm : m ≤ 1000) (hm2 : 32 ≤ m) (root : ByteArray) (hroot : root.size ≤ m) (a b : Int) (ha : U64 a) (hb : U64 b) (w : World) (hst : Start w) :
    Calls Tryd.prog 11 #[.string key, sgV s, .string root, .int .u64 a, .int .u64 b] w fun e w' => e = .returned (.tuple #[sgV (nextS key s root a b), .bool (nextOk s.h root)]) ∧ Below w.heap.size w w' := by
  have KI := Lib.hid (fun W => pis_prog s.h m hok (by omega) W)
  have KH := Lib.hid (fun W (hS : Start W) => phash_prog H s.h m hok hm W hS)
  have KS := Lib.hid (fun (e : s.h.seq ≠ 18446744073709551615) W (hS : Start W) => psign_prog H key hkey (nextH s.h root a b) m (nextH_ok hok e hroot hm2 ha hb) hm W hS)
  have hrz : root.size ≤ 1000 := by omega
  have HS0 := Lib.hid hok.2.1
  have HST := Lib.hid hst
  clear hst
  unfold sgV
  unfold hdV at KI KH KS
  unfold nextH at KS
  dsimp only at KS
  obtain ⟨R, hR⟩ : ∃ R, s.h.hash = R := ⟨_, rfl⟩
  rw [hR] at KH KS
  obtain ⟨W0, hW0⟩ : ∃ W0, W0 = (w.alloc (.cells #[.int .u64 s.h.shard, .int .u64 s.h.seq, .string s.h.prev, .string s.h.root, .int .u64 s.h.who, .int .u64 s.h.stamp, .string s.mac] 35)).alloc (.cells #[.int .u64 0, .int .u64 0, .string ⟨#[]⟩, .string ⟨#[]⟩, .int .u64 0, .int .u64 0, .string ⟨#[]⟩] 35) := ⟨_, rfl⟩
  have HB0 := Lib.hid (show Below w.heap.size w W0 by rw [hW0]; exact ((Below.refl _ _).alloc (Nat.le_refl _) _).alloc (by simp) _)
  have HZ0 : Hid (W0.heap[w.heap.size]? = some (.cells #[.int .u64 s.h.shard, .int .u64 s.h.seq, .string s.h.prev, .string s.h.root, .int .u64 s.h.who, .int .u64 s.h.stamp, .string s.mac] 35 (0, 0))) := Lib.hid (by rw [hW0]; exact (Below.heap_alloc _ _ _ (by simp)).trans (heap_alloc_new _ _))
  have HY0 : Hid (W0.heap[w.heap.size + 1]? = some (.cells #[.int .u64 0, .int .u64 0, .string ⟨#[]⟩, .string ⟨#[]⟩, .int .u64 0, .int .u64 0, .string ⟨#[]⟩] 35 (0, 0))) := Lib.hid (by rw [hW0]; simpa using heap_alloc_new (w.alloc (.cells #[.int .u64 s.h.shard, .int .u64 s.h.seq, .string s.h.prev, .string s.h.root, .int .u64 s.h.who, .int .u64 s.h.stamp, .string s.mac] 35)) _)
  obtain ⟨c0, c1, c2, c3, c4, c5, c6⟩ := cells7 HZ0.out
  have HRR := Lib.hid hR
  clear hok hm hkey hm2 hroot ha hb hR
  by_cases hi : s.h.is = true
  · rw [hi] at KI
    by_cases hq : s.h.seq = 18446744073709551615
    · have hq2 : (s.h.seq == 18446744073709551615) = true := by simpa using hq
      have HN := Lib.hid (nextOk_seq hq : nextOk s.h root = false)
      clear hq KS
      go_enter Tryd.func11, Tryd.ntmps11
      go_upto_region 1 with fail
      simp only [← hW0]
      clear hW0
      obtain ⟨W1, hW1⟩ : ∃ W1, W1 = W0.alloc (.cells #[.int .u64 s.h.shard, .int .u64 s.h.seq, .string s.h.prev, .string s.h.root, .int .u64 s.h.who, .int .u64 s.h.stamp] 33) := ⟨_, rfl⟩
      have HB1 : Hid (Below w.heap.size w W1) := Lib.hid (by rw [hW1]; exact HB0.out.alloc HB0.out.size _)
      have HY1 : Hid (W1.heap[w.heap.size + 1]? = some (.cells #[.int .u64 0, .int .u64 0, .string ⟨#[]⟩, .string ⟨#[]⟩, .int .u64 0, .int .u64 0, .string ⟨#[]⟩] 35 (0, 0))) := Lib.hid (by rw [hW1]; exact (Below.heap_alloc _ _ _ (block_lt HY0.out)).trans HY0.out)
      have HX1 : Hid (W1.heap[W0.heap.size]? = some (.cells #[.int .u64 s.h.shard, .int .u64 s.h.seq, .string s.h.prev, .string s.h.root, .int .u64 s.h.who, .int .u64 s.h.stamp] 33 (0, 0))) := Lib.hid (by rw [hW1]; exact heap_alloc_new _ _)
      have HL : Hid (w.heap.size + 1 < W0.heap.size) := Lib.hid (block_lt HY0.out)
      go_upto_region 2 with fail
      simp only [← hW1]
      obtain ⟨G, hG⟩ : ∃ G, W0.heap.size = G := ⟨_, rfl⟩
      rw [hG] at HX1 HL
      simp only [hG]
      clear hW1 c0 c1 c2 c3 c4 c5 c6 hG
      obtain ⟨c0, c1, c2, c3, c4, c5⟩ := cells6 HX1.out
      go_wp2_with fail
      refine (KI.out _).mono ?_
      rintro e w2 ⟨rfl, hb2⟩
      have HB2 := Lib.hid (HB1.out.trans (hb2.mono HB1.out.size))
      have HX2 := Lib.hid ((hb2.block _ (block_lt HX1.out)).trans HX1.out)
      have HY2 := Lib.hid ((hb2.block _ (block_lt HY1.out)).trans HY1.out)
      clear hb2 c0 c1 c2 c3 c4 c5
      obtain ⟨c0, c1, c2, c3, c4, c5⟩ := cells6 HX2.out
      obtain ⟨d0, d1, d2, d3, d4, d5, d6⟩ := cells7 HY2.out
      obtain ⟨f0, f1, f2, f3, f4, f5, f6⟩ := free7 HY2.out
      go_wp2_with fail
      exact bodyPost_ret (results_sgb rfl rfl rfl (set7_heap HY2.out _ _ _ _ _ _ _) rfl) rfl ⟨by rw [HN.out, next_false HN.out]; rfl, HB2.out.trans (set7_below (Nat.le_succ _) _ _ _ _ _ _ _)⟩
    · have hq2 : (s.h.seq == 18446744073709551615) = false := by simpa using hq
      have HQ := Lib.hid hq
      have HN := Lib.hid (next_true (key := key) (s := s) (root := root) a b hi hq)
      obtain ⟨M, hM⟩ : ∃ M, nextS key s root a b = M := ⟨_, rfl⟩
      have KT := Lib.hid (fun W (hS : Start W) => KS.out hq W hS)
      obtain ⟨q, hqq⟩ : ∃ q, s.h.seq + 1 = q := ⟨_, rfl⟩
      have hN := HN.out
      unfold nextH at hN
      rw [HRR.out, hqq, hM] at hN
      rw [hqq, hN.2, hN.1] at KT
      have hw1 : IntKind.u64.wrap (s.h.seq + 1) = q := by have := HS0.out.1; have := HS0.out.2; rw [IntKind.wrap_u64, ← hqq]; omega
      rw [hM]
      obtain ⟨r, hr⟩ : ∃ r, nextOk s.h root = r := ⟨_, rfl⟩
      rw [hr] at KT ⊢
      unfold sgV at KT
      clear hq KS hN HN hM hr hqq
      go_enter Tryd.func11, Tryd.ntmps11
      go_upto_region 1 with fail
      simp only [← hW0]
      clear hW0
      obtain ⟨W1, hW1⟩ : ∃ W1, W1 = W0.alloc (.cells #[.int .u64 s.h.shard, .int .u64 s.h.seq, .string s.h.prev, .string s.h.root, .int .u64 s.h.who, .int .u64 s.h.stamp] 33) := ⟨_, rfl⟩
      have HB1 : Hid (Below w.heap.size w W1) := Lib.hid (by rw [hW1]; exact HB0.out.alloc HB0.out.size _)
      have HY1 : Hid (W1.heap[w.heap.size + 1]? = some (.cells #[.int .u64 0, .int .u64 0, .string ⟨#[]⟩, .string ⟨#[]⟩, .int .u64 0, .int .u64 0, .string ⟨#[]⟩] 35 (0, 0))) := Lib.hid (by rw [hW1]; exact (Below.heap_alloc _ _ _ (block_lt HY0.out)).trans HY0.out)
      have HX1 : Hid (W1.heap[W0.heap.size]? = some (.cells #[.int .u64 s.h.shard, .int .u64 s.h.seq, .string s.h.prev, .string s.h.root, .int .u64 s.h.who, .int .u64 s.h.stamp] 33 (0, 0))) := Lib.hid (by rw [hW1]; exact heap_alloc_new _ _)
      have HL : Hid (w.heap.size + 1 < W0.heap.size) := Lib.hid (block_lt HY0.out)
      go_upto_region 2 with fail
      simp only [← hW1]
      obtain ⟨G, hG⟩ : ∃ G, W0.heap.size = G := ⟨_, rfl⟩
      rw [hG] at HX1 HL
      simp only [hG]
      clear hW1 c0 c1 c2 c3 c4 c5 c6 hG
      obtain ⟨c0, c1, c2, c3, c4, c5⟩ := cells6 HX1.out
      go_wp2_with fail
      refine (KI.out _).mono ?_
      rintro e w2 ⟨rfl, hb2⟩
      have HB2 := Lib.hid (HB1.out.trans (hb2.mono HB1.out.size))
      have HX2 := Lib.hid ((hb2.block _ (block_lt HX1.out)).trans HX1.out)
      have HY2 := Lib.hid ((hb2.block _ (block_lt HY1.out)).trans HY1.out)
      clear hb2 c0 c1 c2 c3 c4 c5
      obtain ⟨c0, c1, c2, c3, c4, c5⟩ := cells6 HX2.out
      obtain ⟨d0, d1, d2, d3, d4, d5, d6⟩ := cells7 HY2.out
      obtain ⟨f0, f1, f2, f3, f4, f5, f6⟩ := free7 HY2.out
      go_upto_region 4 with fail
      clear d0 d1 d2 d3 d4 d5 d6 f0 f1 f2 f3 f4 f5 f6
      have HCa := Lib.hid (cells6 HX2.out)
      have HCb := Lib.hid (cells6 (w := w2.drew) HX2.out)
      have hne : G ≠ w.heap.size + 1 := by have := HL.out; omega
      clear c0 c1 c2 c3 c4 c5
      go_region_held3 (fun W' => W'.cell? ⟨G, 0, none⟩ = some (.int .u64 s.h.shard) ∧ W'.cell? ⟨G, 1, none⟩ = some (.int .u64 s.h.seq) ∧ W'.cell? ⟨G, 2, none⟩ = some (.string s.h.prev) ∧ W'.cell? ⟨G, 3, none⟩ = some (.string s.h.root) ∧ W'.cell? ⟨G, 4, none⟩ = some (.int .u64 s.h.who) ∧ W'.cell? ⟨G, 5, none⟩ = some (.int .u64 s.h.stamp))
        (first | with_reducible exact HCa.out | with_reducible exact HCb.out | with_reducible exact hcs | with_reducible exact cells6S HX4.out hne _ _ _ _ _ _ _)
        (first
        | (go_at_call 28; refine (KH.out _ (HST.out.later HB2.out.drew)).mono ?_; rintro e w3 ⟨rfl, hb3⟩; have HB3 := Lib.hid (HB2.out.drew.trans (hb3.mono HB2.out.size)); have HY3 := Lib.hid ((hb3.block _ (block_lt HY2.out)).trans HY2.out); have HX3 := Lib.hid ((hb3.block _ (block_lt HX2.out)).trans HX2.out); have hcs := cells6 HX3.out)
        | (go_at_call 26; refine (KT.out _ (HST.out.later HB3.out)).mono ?_; rintro e w4 ⟨rfl, hb4⟩; have HB4 := Lib.hid (HB3.out.trans (hb4.mono HB3.out.size)); have HY4 := Lib.hid ((hb4.block _ (block_lt HY3.out)).trans HY3.out); have HX4 := Lib.hid ((hb4.block _ (block_lt HX3.out)).trans HX3.out); have hcs := cells6 HX4.out; obtain ⟨d0, d1, d2, d3, d4, d5, d6⟩ := cells7 HY4.out; obtain ⟨f0, f1, f2, f3, f4, f5, f6⟩ := free7 HY4.out)
        | fail)
      all_goals
        go_wp2_with fail
        exact bodyPost_ret (results_sgb rfl rfl rfl (set7_heap HY4.out _ _ _ _ _ _ _) rfl) rfl ⟨rfl, HB4.out.trans (set7_below (Nat.le_succ _) _ _ _ _ _ _ _)⟩
  · have hi2 : s.h.is = false := by simpa using hi
    rw [hi2] at KI
    have HN := Lib.hid (nextOk_is hi2 : nextOk s.h root = false)
    clear KS hi hi2
    go_enter Tryd.func11, Tryd.ntmps11
    go_upto_region 1 with fail
    simp only [← hW0]
    clear hW0
    obtain ⟨W1, hW1⟩ : ∃ W1, W1 = W0.alloc (.cells #[.int .u64 s.h.shard, .int .u64 s.h.seq, .string s.h.prev, .string s.h.root, .int .u64 s.h.who, .int .u64 s.h.stamp] 33) := ⟨_, rfl⟩
    have HB1 : Hid (Below w.heap.size w W1) := Lib.hid (by rw [hW1]; exact HB0.out.alloc HB0.out.size _)
    have HY1 : Hid (W1.heap[w.heap.size + 1]? = some (.cells #[.int .u64 0, .int .u64 0, .string ⟨#[]⟩, .string ⟨#[]⟩, .int .u64 0, .int .u64 0, .string ⟨#[]⟩] 35 (0, 0))) := Lib.hid (by rw [hW1]; exact (Below.heap_alloc _ _ _ (block_lt HY0.out)).trans HY0.out)
    have HX1 : Hid (W1.heap[W0.heap.size]? = some (.cells #[.int .u64 s.h.shard, .int .u64 s.h.seq, .string s.h.prev, .string s.h.root, .int .u64 s.h.who, .int .u64 s.h.stamp] 33 (0, 0))) := Lib.hid (by rw [hW1]; exact heap_alloc_new _ _)
    have HL : Hid (w.heap.size + 1 < W0.heap.size) := Lib.hid (block_lt HY0.out)
    go_upto_region 2 with fail
    simp only [← hW1]
    obtain ⟨G, hG⟩ : ∃ G, W0.heap.size = G := ⟨_, rfl⟩
    rw [hG] at HX1 HL
    simp only [hG]
    clear hW1 c0 c1 c2 c3 c4 c5 c6 hG
    obtain ⟨c0, c1, c2, c3, c4, c5⟩ := cells6 HX1.out
    go_wp2_with fail
    refine (KI.out _).mono ?_
    rintro e w2 ⟨rfl, hb2⟩
    have HB2 := Lib.hid (HB1.out.trans (hb2.mono HB1.out.size))
    have HX2 := Lib.hid ((hb2.block _ (block_lt HX1.out)).trans HX1.out)
    have HY2 := Lib.hid ((hb2.block _ (block_lt HY1.out)).trans HY1.out)
    clear hb2 c0 c1 c2 c3 c4 c5
    obtain ⟨c0, c1, c2, c3, c4, c5⟩ := cells6 HX2.out
    obtain ⟨d0, d1, d2, d3, d4, d5, d6⟩ := cells7 HY2.out
    obtain ⟨f0, f1, f2, f3, f4, f5, f6⟩ := free7 HY2.out
    go_wp2_with fail
    exact bodyPost_ret (results_sgb rfl rfl rfl (set7_heap HY2.out _ _ _ _ _ _ _) rfl) rfl ⟨by rw [HN.out, next_false HN.out]; rfl, HB2.out.trans (set7_below (Nat.le_succ _) _ _ _ _ _ _ _)⟩
end Go.Proofs.YtpkkdjmcabefbaaDoor
