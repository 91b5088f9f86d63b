/- HeaderSigns' walk. -/
import Derived.Test.YtgcaaigfgbglcaaDoorEAwk
namespace Go.Proofs.YtgcaaigfgbglcaaDoor
open Go.RowKit
/-- Texts of up to 100 bytes? -/
def Sg.small (s : Sg) : Bool := decide (s.h.prev.size ≤ 100) && (decide (s.h.root.size ≤ 100) && decide (s.mac.size ≤ 100))
def Sg.Fit (s : Sg) : Prop := U64 s.h.shard ∧ U64 s.h.seq ∧ s.h.prev.size ≤ maxLen ∧ s.h.root.size ≤ maxLen ∧ U64 s.h.who ∧ U64 s.h.stamp ∧ s.mac.size ≤ maxLen
theorem Sg.Fit.ok {s : Sg} (h : s.Fit) (k : s.small = true) : s.h.Ok 100 ∧ s.mac.size ≤ 100 := by
  unfold Sg.small at k
  simp only [Bool.and_eq_true, decide_eq_true_eq] at k
  exact ⟨⟨h.1, h.2.1, k.1, k.2.1, h.2.2.2.2.1, h.2.2.2.2.2.1⟩, k.2.2⟩
theorem sign_by (key : ByteArray) (h : Hd) : (signS key h).by key = h.is := by
  unfold signS Sg.by
  cases e : h.is with
  | true => simp [e]
  | false => simp [zeroS, zeroH, Hd.is, empty_size]
set_option maxHeartbeats 1000000 in
set_option maxRecDepth 100000 in
theorem small_prog (s : Sg) (hf : s.Fit) (w : World) : Calls Tryd.prog 10 #[sgV s] w fun e w' => e = .returned (.bool s.small) ∧ Below w.heap.size w w' := by
  have b1 : (s.h.prev.size : Int) ≤ 9223372036854775807 := by have := hf.2.2.1; unfold maxLen at this; omega
  have b2 : (s.h.root.size : Int) ≤ 9223372036854775807 := by have := hf.2.2.2.1; unfold maxLen at this; omega
  have b3 : (s.mac.size : Int) ≤ 9223372036854775807 := by have := hf.2.2.2.2.2.2; unfold maxLen at this; omega
  unfold sgV Sg.small
  clear hf
  by_cases h1 : s.h.prev.size ≤ 100
  · by_cases h2 : s.h.root.size ≤ 100
    · by_cases h3 : s.mac.size ≤ 100
      · rw [decide_eq_true h1, decide_eq_true h2, decide_eq_true h3]
        have g1 : (s.h.prev.size : Int) ≤ 100 := by omega
        have g2 : (s.h.root.size : Int) ≤ 100 := by omega
        have g3 : (s.mac.size : Int) ≤ 100 := by omega
        go_enter Tryd.func10, Tryd.ntmps10
        go_wp2
        go_ret
        exact ⟨rfl, (Below.refl _ _).alloc (Nat.le_refl _) _⟩
      · rw [decide_eq_true h1, decide_eq_true h2, decide_eq_false h3]
        have g1 : (s.h.prev.size : Int) ≤ 100 := by omega
        have g2 : (s.h.root.size : Int) ≤ 100 := by omega
        have g3 : decide ((s.mac.size : Int) ≤ 100) = false := by simp; omega
        go_enter Tryd.func10, Tryd.ntmps10
        go_wp2
        go_ret
        exact ⟨rfl, (Below.refl _ _).alloc (Nat.le_refl _) _⟩
    · rw [decide_eq_true h1, decide_eq_false h2]
      have g1 : (s.h.prev.size : Int) ≤ 100 := by omega
      have g2 : decide ((s.h.root.size : Int) ≤ 100) = false := by simp; omega
      go_enter Tryd.func10, Tryd.ntmps10
      go_wp2
      go_ret
      exact ⟨rfl, (Below.refl _ _).alloc (Nat.le_refl _) _⟩
  · rw [decide_eq_false h1]
    have g1 : decide ((s.h.prev.size : Int) ≤ 100) = false := by simp; omega
    go_enter Tryd.func10, Tryd.ntmps10
    go_wp2
    go_ret
    exact ⟨rfl, (Below.refl _ _).alloc (Nat.le_refl _) _⟩
set_option maxHeartbeats 4000000 in
set_option maxRecDepth 100000 in
theorem signs_law (key : ByteArray) (hkey : key.size ≤ maxLen) (s : Sg) (hf : s.Fit) (w : World) (hst : Start w) :
    Calls Tryd.prog 3 #[.string key, sgV s] w fun e w' => e = .returned (.bool true) ∧ Below w.heap.size w w' := by
  have HST := Lib.hid hst
  have KW := Lib.hid (fun W (hS : Start W) => awake_prog W hS)
  have KM := Lib.hid (fun W => small_prog s hf W)
  have bk : (key.size : Int) ≤ 9223372036854775807 := by unfold maxLen at hkey; omega
  have HF := Lib.hid hf
  unfold sgV at KM ⊢
  obtain ⟨W0, hW0⟩ : ∃ W0, W0 = w.alloc (.cells #[.int .u64 s.h.shard, .int .u64 s.h.seq, .string s.h.prev, .string s.h.root, .int .u64 s.h.who, .int .u64 s.h.stamp, .string s.mac] 26) := ⟨_, rfl⟩
  have HB0 := Lib.hid (show Below w.heap.size w W0 by rw [hW0]; exact (Below.refl _ _).alloc (Nat.le_refl _) _)
  have HA0 : Hid (W0.heap[w.heap.size]? = some (.cells #[.int .u64 s.h.shard, .int .u64 s.h.seq, .string s.h.prev, .string s.h.root, .int .u64 s.h.who, .int .u64 s.h.stamp, .string s.mac] 26 (0, 0))) := Lib.hid (by rw [hW0]; exact heap_alloc_new _ _)
  clear hst hf hkey
  go_enter Tryd.func3, Tryd.ntmps3
  go_upto_region 1 with fail
  simp only [← hW0]
  clear hW0
  go_wp2_with fail
  refine (KW.out _ (HST.out.later HB0.out)).mono ?_
  rintro e w1 ⟨rfl, hb1⟩
  have HB1 := Lib.hid (HB0.out.trans (hb1.mono HB0.out.size))
  have HA1 := Lib.hid ((hb1.block _ (block_lt HA0.out)).trans HA0.out)
  clear hb1 KW
  obtain ⟨c0, c1, c2, c3, c4, c5, c6⟩ := cells7 HA1.out
  by_cases hk : key.size ≤ 100
  · have g1 : ¬ (100 : Int) < (key.size : Int) := by omega
    have HK := Lib.hid hk
    clear hk
    go_wp2_with fail
    refine (KM.out _).mono ?_
    rintro e w2 ⟨rfl, hb2⟩
    have HB2 := Lib.hid (HB1.out.trans (hb2.mono HB1.out.size))
    have HA2 := Lib.hid ((hb2.block _ (block_lt HA1.out)).trans HA1.out)
    clear hb2 KM c0 c1 c2 c3 c4 c5 c6
    obtain ⟨r, hr⟩ : ∃ r, s.small = r := ⟨_, rfl⟩
    rw [hr]
    cases r with
    | false =>
      clear hr
      go_wp2_with fail
      go_ret
      exact ⟨rfl, HB2.out⟩
    | true =>
      obtain ⟨ho, _⟩ := HF.out.ok hr
      obtain ⟨b, hb⟩ : ∃ b, s.h.is = b := ⟨_, rfl⟩
      obtain ⟨S, hS⟩ : ∃ S, (if b then s.h.bytes else ⟨#[]⟩) = S := ⟨_, rfl⟩
      have hkk : key.size ≤ 10000 := by have := HK.out; omega
      have KB1 := Lib.hid (fun W => pbytes_prog s.h 100 ho (by decide) W b S hb hS)
      have KB2 := Lib.hid (fun W => rbytes_prog s.h 100 ho (by decide) W b S hb hS)
      have KS1 := Lib.hid (fun W (hS : Start W) => psign_prog sum_ok key hkk s.h 100 ho (by decide) W hS)
      have KS2 := Lib.hid (fun W => rsign_prog key hkk s.h 100 ho (by decide) W)
      have KH1 := Lib.hid (fun W (hS : Start W) => phash_prog sum_ok s.h 100 ho (by decide) W hS)
      have KH2 := Lib.hid (fun W => rhash_prog s.h 100 ho (by decide) W)
      have KC1 := Lib.hid (fun W (hS : Start W) => pcheck_prog sum_ok key hkk s 100 ho (by decide) W hS)
      have KC2 := Lib.hid (fun W => rcheck_prog key hkk s 100 ho (by decide) W)
      obtain ⟨X, hX⟩ : ∃ X, signS key s.h = X := ⟨_, rfl⟩
      have hxo : X.h.Ok 100 := by
        rw [← hX]; unfold signS; split
        · exact ho
        · exact ⟨⟨by decide, by decide⟩, ⟨by decide, by decide⟩, by decide, by decide, ⟨by decide, by decide⟩, ⟨by decide, by decide⟩⟩
      have KC3 := Lib.hid (fun W (hS : Start W) => pcheck_prog sum_ok key hkk X 100 hxo (by decide) W hS)
      have hxb : X.by key = b := by rw [← hX, ← hb]; exact sign_by key s.h
      obtain ⟨R, hR⟩ : ∃ R, s.h.hash = R := ⟨_, rfl⟩
      obtain ⟨c, hc⟩ : ∃ c, s.by key = c := ⟨_, rfl⟩
      rw [hX, hb] at KS1 KS2
      rw [hR] at KH1 KH2
      rw [hc] at KC1 KC2
      rw [hxb] at KC3
      unfold hdV at KB1 KB2 KS1 KS2 KH1 KH2
      unfold sgV at KS1 KS2 KC1 KC2 KC3
      clear hr ho hb hS hkk hX hxo hxb hR hc HF
      obtain ⟨c0, c1, c2, c3, c4, c5, c6⟩ := cells7 HA2.out
      go_wp2_with fail
      refine (KB1.out _).mono ?_
      rintro e w3 ⟨rfl, hb3⟩
      have HB3 := Lib.hid (HB2.out.trans (hb3.mono HB2.out.size))
      have HA3 := Lib.hid ((hb3.block _ (block_lt HA2.out)).trans HA2.out)
      clear hb3
      clear c0 c1 c2 c3 c4 c5 c6
      obtain ⟨c0, c1, c2, c3, c4, c5, c6⟩ := cells7 HA3.out
      go_wp2_with fail
      refine (KB2.out _).mono ?_
      rintro e w4 ⟨rfl, hb4⟩
      have HB4 := Lib.hid (HB3.out.trans (hb4.mono HB3.out.size))
      have HA4 := Lib.hid ((hb4.block _ (block_lt HA3.out)).trans HA3.out)
      clear hb4
      clear c0 c1 c2 c3 c4 c5 c6
      obtain ⟨c0, c1, c2, c3, c4, c5, c6⟩ := cells7 HA4.out
      go_wp2_with fail
      refine (KS1.out _ (HST.out.later HB4.out)).mono ?_
      rintro e w5 ⟨rfl, hb5⟩
      have HB5 := Lib.hid (HB4.out.trans (hb5.mono HB4.out.size))
      have HA5 := Lib.hid ((hb5.block _ (block_lt HA4.out)).trans HA4.out)
      clear hb5
      clear c0 c1 c2 c3 c4 c5 c6
      obtain ⟨c0, c1, c2, c3, c4, c5, c6⟩ := cells7 HA5.out
      obtain ⟨w6, hw6⟩ : ∃ W, W = w5.alloc (.cells #[.int .u64 X.h.shard, .int .u64 X.h.seq, .string X.h.prev, .string X.h.root, .int .u64 X.h.who, .int .u64 X.h.stamp, .string X.mac] 26) := ⟨_, rfl⟩
      obtain ⟨gx, hgx⟩ : ∃ g, g = w5.heap.size := ⟨_, rfl⟩
      have HB6 : Hid (Below w.heap.size w w6) := Lib.hid (by rw [hw6]; exact HB5.out.alloc HB5.out.size _)
      have HA6 : Hid (w6.heap[w.heap.size]? = some (.cells #[.int .u64 s.h.shard, .int .u64 s.h.seq, .string s.h.prev, .string s.h.root, .int .u64 s.h.who, .int .u64 s.h.stamp, .string s.mac] 26 (0, 0))) := Lib.hid (by rw [hw6]; exact (Below.heap_alloc _ _ _ (block_lt HA5.out)).trans HA5.out)
      have HX6 : Hid (w6.heap[gx]? = some (.cells #[.int .u64 X.h.shard, .int .u64 X.h.seq, .string X.h.prev, .string X.h.root, .int .u64 X.h.who, .int .u64 X.h.stamp, .string X.mac] 26 (0, 0))) := Lib.hid (by rw [hw6, hgx]; exact heap_alloc_new _ _)
      go_upto_region 8 with fail
      simp only [← hw6, ← hgx]
      clear hw6 hgx
      clear c0 c1 c2 c3 c4 c5 c6
      obtain ⟨c0, c1, c2, c3, c4, c5, c6⟩ := cells7 HA6.out
      go_wp2_with fail
      refine (KS2.out _).mono ?_
      rintro e w7 ⟨rfl, hb7⟩
      have HB7 := Lib.hid (HB6.out.trans (hb7.mono HB6.out.size))
      have HA7 := Lib.hid ((hb7.block _ (block_lt HA6.out)).trans HA6.out)
      have HX7 := Lib.hid ((hb7.block _ (block_lt HX6.out)).trans HX6.out)
      clear hb7
      clear c0 c1 c2 c3 c4 c5 c6
      obtain ⟨c0, c1, c2, c3, c4, c5, c6⟩ := cells7 HA7.out
      obtain ⟨w8, hw8⟩ : ∃ W, W = w7.alloc (.cells #[.int .u64 X.h.shard, .int .u64 X.h.seq, .string X.h.prev, .string X.h.root, .int .u64 X.h.who, .int .u64 X.h.stamp, .string X.mac] 26) := ⟨_, rfl⟩
      obtain ⟨gy, hgy⟩ : ∃ g, g = w7.heap.size := ⟨_, rfl⟩
      have HB8 : Hid (Below w.heap.size w w8) := Lib.hid (by rw [hw8]; exact HB7.out.alloc HB7.out.size _)
      have HA8 : Hid (w8.heap[w.heap.size]? = some (.cells #[.int .u64 s.h.shard, .int .u64 s.h.seq, .string s.h.prev, .string s.h.root, .int .u64 s.h.who, .int .u64 s.h.stamp, .string s.mac] 26 (0, 0))) := Lib.hid (by rw [hw8]; exact (Below.heap_alloc _ _ _ (block_lt HA7.out)).trans HA7.out)
      have HX8 : Hid (w8.heap[gx]? = some (.cells #[.int .u64 X.h.shard, .int .u64 X.h.seq, .string X.h.prev, .string X.h.root, .int .u64 X.h.who, .int .u64 X.h.stamp, .string X.mac] 26 (0, 0))) := Lib.hid (by rw [hw8]; exact (Below.heap_alloc _ _ _ (block_lt HX7.out)).trans HX7.out)
      have HY8 : Hid (w8.heap[gy]? = some (.cells #[.int .u64 X.h.shard, .int .u64 X.h.seq, .string X.h.prev, .string X.h.root, .int .u64 X.h.who, .int .u64 X.h.stamp, .string X.mac] 26 (0, 0))) := Lib.hid (by rw [hw8, hgy]; exact heap_alloc_new _ _)
      go_upto_region 9 with fail
      simp only [← hw8, ← hgy]
      clear hw8 hgy
      clear c0 c1 c2 c3 c4 c5 c6
      refine wp_region_held_drew (S := fun w' => Below w.heap.size w w' ∧ w'.heap[w.heap.size]? = some (.cells #[.int .u64 s.h.shard, .int .u64 s.h.seq, .string s.h.prev, .string s.h.root, .int .u64 s.h.who, .int .u64 s.h.stamp, .string s.mac] 26 (0, 0)) ∧ w'.heap[gx]? = some (.cells #[.int .u64 X.h.shard, .int .u64 X.h.seq, .string X.h.prev, .string X.h.root, .int .u64 X.h.who, .int .u64 X.h.stamp, .string X.mac] 26 (0, 0)) ∧ w'.heap[gy]? = some (.cells #[.int .u64 X.h.shard, .int .u64 X.h.seq, .string X.h.prev, .string X.h.root, .int .u64 X.h.who, .int .u64 X.h.stamp, .string X.mac] 26 (0, 0))) (by kernel_rfl) (⟨HB8.out.drew, HA8.out, HX8.out, HY8.out⟩) (fun hHeld => ?_)
      refine wpAnyH_take (i := 0) (v := ?_) rfl (by kernel_rfl) (by kernel_rfl) (by kernel_rfl) (fun _ _ _ h => h) (Or.inl ⟨by rfl, ?_⟩) hHeld ?_
      rotate_left
      · intro w' hSw; obtain ⟨c0, c1, c2, c3, c4, c5, c6⟩ := cells7 hSw.2.1; obtain ⟨d0, d1, d2, d3, d4, d5, d6⟩ := cells7 hSw.2.2.1; obtain ⟨e0, e1, e2, e3, e4, e5, e6⟩ := cells7 hSw.2.2.2; go_simp; first | done | with_reducible rfl | rfl
      try simp only [Act.put, List.getElem_toArray, List.getElem_cons_zero, List.setIfInBounds_toArray, List.set_cons_zero, List.set_cons_succ]
      refine wpAnyH_take (i := 1) (v := ?_) rfl (by kernel_rfl) (by kernel_rfl) (by kernel_rfl) (fun _ _ _ h => h) (Or.inl ⟨by rfl, ?_⟩) hHeld ?_
      rotate_left
      · intro w' hSw; obtain ⟨c0, c1, c2, c3, c4, c5, c6⟩ := cells7 hSw.2.1; obtain ⟨d0, d1, d2, d3, d4, d5, d6⟩ := cells7 hSw.2.2.1; obtain ⟨e0, e1, e2, e3, e4, e5, e6⟩ := cells7 hSw.2.2.2; go_simp; first | done | with_reducible rfl | rfl
      try simp only [Act.put, List.getElem_toArray, List.getElem_cons_zero, List.getElem_cons_succ, List.setIfInBounds_toArray, List.set_cons_zero, List.set_cons_succ]
      refine wpAnyH_take (i := 2) (v := ?_) rfl (by kernel_rfl) (by kernel_rfl) (by kernel_rfl) (fun _ _ _ h => h) (Or.inl ⟨by rfl, ?_⟩) hHeld ?_
      rotate_left
      · intro w' hSw; obtain ⟨c0, c1, c2, c3, c4, c5, c6⟩ := cells7 hSw.2.1; obtain ⟨d0, d1, d2, d3, d4, d5, d6⟩ := cells7 hSw.2.2.1; obtain ⟨e0, e1, e2, e3, e4, e5, e6⟩ := cells7 hSw.2.2.2; go_simp; first | done | with_reducible rfl | rfl
      try simp only [Act.put, List.getElem_toArray, List.getElem_cons_zero, List.getElem_cons_succ, List.setIfInBounds_toArray, List.set_cons_zero, List.set_cons_succ]
      refine wpAnyH_take (i := 3) (v := ?_) rfl (by kernel_rfl) (by kernel_rfl) (by kernel_rfl) (fun _ _ _ h => h) (Or.inl ⟨by rfl, ?_⟩) hHeld ?_
      rotate_left
      · intro w' hSw; obtain ⟨c0, c1, c2, c3, c4, c5, c6⟩ := cells7 hSw.2.1; obtain ⟨d0, d1, d2, d3, d4, d5, d6⟩ := cells7 hSw.2.2.1; obtain ⟨e0, e1, e2, e3, e4, e5, e6⟩ := cells7 hSw.2.2.2; go_simp; first | done | with_reducible rfl | rfl
      try simp only [Act.put, List.getElem_toArray, List.getElem_cons_zero, List.getElem_cons_succ, List.setIfInBounds_toArray, List.set_cons_zero, List.set_cons_succ]
      refine wpAnyH_take (i := 4) (v := ?_) rfl (by kernel_rfl) (by kernel_rfl) (by kernel_rfl) (fun _ _ _ h => h) (Or.inl ⟨by rfl, ?_⟩) hHeld ?_
      rotate_left
      · intro w' hSw; obtain ⟨c0, c1, c2, c3, c4, c5, c6⟩ := cells7 hSw.2.1; obtain ⟨d0, d1, d2, d3, d4, d5, d6⟩ := cells7 hSw.2.2.1; obtain ⟨e0, e1, e2, e3, e4, e5, e6⟩ := cells7 hSw.2.2.2; go_simp; first | done | with_reducible rfl | rfl
      try simp only [Act.put, List.getElem_toArray, List.getElem_cons_zero, List.getElem_cons_succ, List.setIfInBounds_toArray, List.set_cons_zero, List.set_cons_succ]
      refine wpAnyH_take (i := 5) (v := ?_) rfl (by kernel_rfl) (by kernel_rfl) (by kernel_rfl) (fun _ _ _ h => h) (Or.inl ⟨by rfl, ?_⟩) hHeld ?_
      rotate_left
      · intro w' hSw; obtain ⟨c0, c1, c2, c3, c4, c5, c6⟩ := cells7 hSw.2.1; obtain ⟨d0, d1, d2, d3, d4, d5, d6⟩ := cells7 hSw.2.2.1; obtain ⟨e0, e1, e2, e3, e4, e5, e6⟩ := cells7 hSw.2.2.2; go_simp; first | done | with_reducible rfl | rfl
      try simp only [Act.put, List.getElem_toArray, List.getElem_cons_zero, List.getElem_cons_succ, List.setIfInBounds_toArray, List.set_cons_zero, List.set_cons_succ]
      refine wpAnyH_take (i := 6) (v := ?_) rfl (by kernel_rfl) (by kernel_rfl) (by kernel_rfl) (fun _ _ _ h => h) (Or.inl ⟨by rfl, ?_⟩) hHeld ?_
      rotate_left
      · intro w' hSw; obtain ⟨c0, c1, c2, c3, c4, c5, c6⟩ := cells7 hSw.2.1; obtain ⟨d0, d1, d2, d3, d4, d5, d6⟩ := cells7 hSw.2.2.1; obtain ⟨e0, e1, e2, e3, e4, e5, e6⟩ := cells7 hSw.2.2.2; go_simp; first | done | with_reducible rfl | rfl
      try simp only [Act.put, List.getElem_toArray, List.getElem_cons_zero, List.getElem_cons_succ, List.setIfInBounds_toArray, List.set_cons_zero, List.set_cons_succ]
      refine wpAnyH_take (i := 7) (v := ?_) rfl (by kernel_rfl) (by kernel_rfl) (by kernel_rfl) (fun _ _ _ h => h) (Or.inl ⟨by rfl, ?_⟩) hHeld ?_
      rotate_left
      · intro w' hSw; obtain ⟨c0, c1, c2, c3, c4, c5, c6⟩ := cells7 hSw.2.1; obtain ⟨d0, d1, d2, d3, d4, d5, d6⟩ := cells7 hSw.2.2.1; obtain ⟨e0, e1, e2, e3, e4, e5, e6⟩ := cells7 hSw.2.2.2; go_simp; first | done | with_reducible rfl | rfl
      try simp only [Act.put, List.getElem_toArray, List.getElem_cons_zero, List.getElem_cons_succ, List.setIfInBounds_toArray, List.set_cons_zero, List.set_cons_succ]
      refine wpAnyH_take (i := 8) (v := ?_) rfl (by kernel_rfl) (by kernel_rfl) (by kernel_rfl) (fun _ _ _ h => h) (Or.inl ⟨by rfl, ?_⟩) hHeld ?_
      rotate_left
      · intro w' hSw; obtain ⟨c0, c1, c2, c3, c4, c5, c6⟩ := cells7 hSw.2.1; obtain ⟨d0, d1, d2, d3, d4, d5, d6⟩ := cells7 hSw.2.2.1; obtain ⟨e0, e1, e2, e3, e4, e5, e6⟩ := cells7 hSw.2.2.2; go_simp; first | done | with_reducible rfl | rfl
      try simp only [Act.put, List.getElem_toArray, List.getElem_cons_zero, List.getElem_cons_succ, List.setIfInBounds_toArray, List.set_cons_zero, List.set_cons_succ]
      refine wpAnyH_take (i := 9) (v := ?_) rfl (by kernel_rfl) (by kernel_rfl) (by kernel_rfl) (fun _ _ _ h => h) (Or.inl ⟨by rfl, ?_⟩) hHeld ?_
      rotate_left
      · intro w' hSw; obtain ⟨c0, c1, c2, c3, c4, c5, c6⟩ := cells7 hSw.2.1; obtain ⟨d0, d1, d2, d3, d4, d5, d6⟩ := cells7 hSw.2.2.1; obtain ⟨e0, e1, e2, e3, e4, e5, e6⟩ := cells7 hSw.2.2.2; go_simp; first | done | with_reducible rfl | rfl
      try simp only [Act.put, List.getElem_toArray, List.getElem_cons_zero, List.getElem_cons_succ, List.setIfInBounds_toArray, List.set_cons_zero, List.set_cons_succ]
      refine wpAnyH_take (i := 10) (v := ?_) rfl (by kernel_rfl) (by kernel_rfl) (by kernel_rfl) (fun _ _ _ h => h) (Or.inl ⟨by rfl, ?_⟩) hHeld ?_
      rotate_left
      · intro w' hSw; obtain ⟨c0, c1, c2, c3, c4, c5, c6⟩ := cells7 hSw.2.1; obtain ⟨d0, d1, d2, d3, d4, d5, d6⟩ := cells7 hSw.2.2.1; obtain ⟨e0, e1, e2, e3, e4, e5, e6⟩ := cells7 hSw.2.2.2; go_simp; first | done | with_reducible rfl | rfl
      try simp only [Act.put, List.getElem_toArray, List.getElem_cons_zero, List.getElem_cons_succ, List.setIfInBounds_toArray, List.set_cons_zero, List.set_cons_succ]
      refine wpAnyH_take (i := 12) (v := ?_) rfl (by kernel_rfl) (by kernel_rfl) (by kernel_rfl) (fun _ _ _ h => h) (Or.inl ⟨by rfl, ?_⟩) hHeld ?_
      rotate_left
      · intro w' hSw; obtain ⟨c0, c1, c2, c3, c4, c5, c6⟩ := cells7 hSw.2.1; obtain ⟨d0, d1, d2, d3, d4, d5, d6⟩ := cells7 hSw.2.2.1; obtain ⟨e0, e1, e2, e3, e4, e5, e6⟩ := cells7 hSw.2.2.2; go_simp; first | done | with_reducible rfl | rfl
      try simp only [Act.put, List.getElem_toArray, List.getElem_cons_zero, List.getElem_cons_succ, List.setIfInBounds_toArray, List.set_cons_zero, List.set_cons_succ]
      refine wpAnyH_take (i := 13) (v := ?_) rfl (by kernel_rfl) (by kernel_rfl) (by kernel_rfl) (fun _ _ _ h => h) (Or.inl ⟨by rfl, ?_⟩) hHeld ?_
      rotate_left
      · intro w' hSw; obtain ⟨c0, c1, c2, c3, c4, c5, c6⟩ := cells7 hSw.2.1; obtain ⟨d0, d1, d2, d3, d4, d5, d6⟩ := cells7 hSw.2.2.1; obtain ⟨e0, e1, e2, e3, e4, e5, e6⟩ := cells7 hSw.2.2.2; go_simp; first | done | with_reducible rfl | rfl
      try simp only [Act.put, List.getElem_toArray, List.getElem_cons_zero, List.getElem_cons_succ, List.setIfInBounds_toArray, List.set_cons_zero, List.set_cons_succ]
      refine wpAnyH_ready (rs := [11]) (by kernel_rfl) (by simp) ?_
      refine AllReadyH.cons rfl (fun K hK => ?_) AllReadyH.nil
      try simp only [Act.put, List.getElem_toArray, List.getElem_cons_zero, List.getElem_cons_succ, List.setIfInBounds_toArray, List.set_cons_zero, List.set_cons_succ]
      go_simp
      go_at_call 15
      refine (KH1.out _ (HST.out.later (HB8.out.drew))).mono ?_
      rintro e wa11 ⟨rfl, hba11⟩
      have HBa11 := (HB8.out.drew).trans (hba11.mono (HB8.out.drew).size)
      have HAa11 := (hba11.block _ (block_lt (HA8.out))).trans (HA8.out)
      have HXa11 := (hba11.block _ (block_lt (HX8.out))).trans (HX8.out)
      have HYa11 := (hba11.block _ (block_lt (HY8.out))).trans (HY8.out)
      go_wp2_with fail
      clear hHeld
      refine hK.out _ _ (⟨HBa11, HAa11, HXa11, HYa11⟩) (fun hHeld => ?_)
      clear hK K
      try simp only [Act.put, List.getElem_toArray, List.getElem_cons_zero, List.getElem_cons_succ, List.setIfInBounds_toArray, List.set_cons_zero, List.set_cons_succ]
      refine wpAnyH_ready (rs := [14]) (by kernel_rfl) (by simp) ?_
      refine AllReadyH.cons rfl (fun K hK => ?_) AllReadyH.nil
      try simp only [Act.put, List.getElem_toArray, List.getElem_cons_zero, List.getElem_cons_succ, List.setIfInBounds_toArray, List.set_cons_zero, List.set_cons_succ]
      go_simp
      go_at_call 16
      refine (KH2.out _).mono ?_
      rintro e wa14 ⟨rfl, hba14⟩
      have HBa14 := (HBa11).trans (hba14.mono (HBa11).size)
      have HAa14 := (hba14.block _ (block_lt (HAa11))).trans (HAa11)
      have HXa14 := (hba14.block _ (block_lt (HXa11))).trans (HXa11)
      have HYa14 := (hba14.block _ (block_lt (HYa11))).trans (HYa11)
      go_wp2_with fail
      clear hHeld
      refine hK.out _ _ (⟨HBa14, HAa14, HXa14, HYa14⟩) (fun hHeld => ?_)
      clear hK K
      try simp only [Act.put, List.getElem_toArray, List.getElem_cons_zero, List.getElem_cons_succ, List.setIfInBounds_toArray, List.set_cons_zero, List.set_cons_succ]
      refine wpAnyH_take (i := 15) (v := ?_) rfl (by kernel_rfl) (by kernel_rfl) (by kernel_rfl) (fun _ _ _ h => h) (Or.inl ⟨by rfl, ?_⟩) hHeld ?_
      rotate_left
      · intro w' hSw; obtain ⟨c0, c1, c2, c3, c4, c5, c6⟩ := cells7 hSw.2.1; obtain ⟨d0, d1, d2, d3, d4, d5, d6⟩ := cells7 hSw.2.2.1; obtain ⟨e0, e1, e2, e3, e4, e5, e6⟩ := cells7 hSw.2.2.2; go_simp; first | done | with_reducible rfl | rfl
      try simp only [Act.put, List.getElem_toArray, List.getElem_cons_zero, List.getElem_cons_succ, List.setIfInBounds_toArray, List.set_cons_zero, List.set_cons_succ]
      refine wpAnyH_take (i := 16) (v := ?_) rfl (by kernel_rfl) (by kernel_rfl) (by kernel_rfl) (fun _ _ _ h => h) (Or.inl ⟨by rfl, ?_⟩) hHeld ?_
      rotate_left
      · intro w' hSw; obtain ⟨c0, c1, c2, c3, c4, c5, c6⟩ := cells7 hSw.2.1; obtain ⟨d0, d1, d2, d3, d4, d5, d6⟩ := cells7 hSw.2.2.1; obtain ⟨e0, e1, e2, e3, e4, e5, e6⟩ := cells7 hSw.2.2.2; go_simp; first | done | with_reducible rfl | rfl
      try simp only [Act.put, List.getElem_toArray, List.getElem_cons_zero, List.getElem_cons_succ, List.setIfInBounds_toArray, List.set_cons_zero, List.set_cons_succ]
      refine wpAnyH_take (i := 17) (v := ?_) rfl (by kernel_rfl) (by kernel_rfl) (by kernel_rfl) (fun _ _ _ h => h) (Or.inl ⟨by rfl, ?_⟩) hHeld ?_
      rotate_left
      · intro w' hSw; obtain ⟨c0, c1, c2, c3, c4, c5, c6⟩ := cells7 hSw.2.1; obtain ⟨d0, d1, d2, d3, d4, d5, d6⟩ := cells7 hSw.2.2.1; obtain ⟨e0, e1, e2, e3, e4, e5, e6⟩ := cells7 hSw.2.2.2; go_simp; first | done | with_reducible rfl | rfl
      try simp only [Act.put, List.getElem_toArray, List.getElem_cons_zero, List.getElem_cons_succ, List.setIfInBounds_toArray, List.set_cons_zero, List.set_cons_succ]
      refine wpAnyH_take (i := 18) (v := ?_) rfl (by kernel_rfl) (by kernel_rfl) (by kernel_rfl) (fun _ _ _ h => h) (Or.inl ⟨by rfl, ?_⟩) hHeld ?_
      rotate_left
      · intro w' hSw; obtain ⟨c0, c1, c2, c3, c4, c5, c6⟩ := cells7 hSw.2.1; obtain ⟨d0, d1, d2, d3, d4, d5, d6⟩ := cells7 hSw.2.2.1; obtain ⟨e0, e1, e2, e3, e4, e5, e6⟩ := cells7 hSw.2.2.2; go_simp; first | done | with_reducible rfl | rfl
      try simp only [Act.put, List.getElem_toArray, List.getElem_cons_zero, List.getElem_cons_succ, List.setIfInBounds_toArray, List.set_cons_zero, List.set_cons_succ]
      refine wpAnyH_take (i := 19) (v := ?_) rfl (by kernel_rfl) (by kernel_rfl) (by kernel_rfl) (fun _ _ _ h => h) (Or.inl ⟨by rfl, ?_⟩) hHeld ?_
      rotate_left
      · intro w' hSw; obtain ⟨c0, c1, c2, c3, c4, c5, c6⟩ := cells7 hSw.2.1; obtain ⟨d0, d1, d2, d3, d4, d5, d6⟩ := cells7 hSw.2.2.1; obtain ⟨e0, e1, e2, e3, e4, e5, e6⟩ := cells7 hSw.2.2.2; go_simp; first | done | with_reducible rfl | rfl
      try simp only [Act.put, List.getElem_toArray, List.getElem_cons_zero, List.getElem_cons_succ, List.setIfInBounds_toArray, List.set_cons_zero, List.set_cons_succ]
      refine wpAnyH_take (i := 20) (v := ?_) rfl (by kernel_rfl) (by kernel_rfl) (by kernel_rfl) (fun _ _ _ h => h) (Or.inl ⟨by rfl, ?_⟩) hHeld ?_
      rotate_left
      · intro w' hSw; obtain ⟨c0, c1, c2, c3, c4, c5, c6⟩ := cells7 hSw.2.1; obtain ⟨d0, d1, d2, d3, d4, d5, d6⟩ := cells7 hSw.2.2.1; obtain ⟨e0, e1, e2, e3, e4, e5, e6⟩ := cells7 hSw.2.2.2; go_simp; first | done | with_reducible rfl | rfl
      try simp only [Act.put, List.getElem_toArray, List.getElem_cons_zero, List.getElem_cons_succ, List.setIfInBounds_toArray, List.set_cons_zero, List.set_cons_succ]
      refine wpAnyH_take (i := 21) (v := ?_) rfl (by kernel_rfl) (by kernel_rfl) (by kernel_rfl) (fun _ _ _ h => h) (Or.inl ⟨by rfl, ?_⟩) hHeld ?_
      rotate_left
      · intro w' hSw; obtain ⟨c0, c1, c2, c3, c4, c5, c6⟩ := cells7 hSw.2.1; obtain ⟨d0, d1, d2, d3, d4, d5, d6⟩ := cells7 hSw.2.2.1; obtain ⟨e0, e1, e2, e3, e4, e5, e6⟩ := cells7 hSw.2.2.2; go_simp; first | done | with_reducible rfl | rfl
      try simp only [Act.put, List.getElem_toArray, List.getElem_cons_zero, List.getElem_cons_succ, List.setIfInBounds_toArray, List.set_cons_zero, List.set_cons_succ]
      refine wpAnyH_take (i := 22) (v := ?_) rfl (by kernel_rfl) (by kernel_rfl) (by kernel_rfl) (fun _ _ _ h => h) (Or.inl ⟨by rfl, ?_⟩) hHeld ?_
      rotate_left
      · intro w' hSw; obtain ⟨c0, c1, c2, c3, c4, c5, c6⟩ := cells7 hSw.2.1; obtain ⟨d0, d1, d2, d3, d4, d5, d6⟩ := cells7 hSw.2.2.1; obtain ⟨e0, e1, e2, e3, e4, e5, e6⟩ := cells7 hSw.2.2.2; go_simp; first | done | with_reducible rfl | rfl
      try simp only [Act.put, List.getElem_toArray, List.getElem_cons_zero, List.getElem_cons_succ, List.setIfInBounds_toArray, List.set_cons_zero, List.set_cons_succ]
      refine wpAnyH_take (i := 23) (v := ?_) rfl (by kernel_rfl) (by kernel_rfl) (by kernel_rfl) (fun _ _ _ h => h) (Or.inl ⟨by rfl, ?_⟩) hHeld ?_
      rotate_left
      · intro w' hSw; obtain ⟨c0, c1, c2, c3, c4, c5, c6⟩ := cells7 hSw.2.1; obtain ⟨d0, d1, d2, d3, d4, d5, d6⟩ := cells7 hSw.2.2.1; obtain ⟨e0, e1, e2, e3, e4, e5, e6⟩ := cells7 hSw.2.2.2; go_simp; first | done | with_reducible rfl | rfl
      try simp only [Act.put, List.getElem_toArray, List.getElem_cons_zero, List.getElem_cons_succ, List.setIfInBounds_toArray, List.set_cons_zero, List.set_cons_succ]
      refine wpAnyH_take (i := 24) (v := ?_) rfl (by kernel_rfl) (by kernel_rfl) (by kernel_rfl) (fun _ _ _ h => h) (Or.inl ⟨by rfl, ?_⟩) hHeld ?_
      rotate_left
      · intro w' hSw; obtain ⟨c0, c1, c2, c3, c4, c5, c6⟩ := cells7 hSw.2.1; obtain ⟨d0, d1, d2, d3, d4, d5, d6⟩ := cells7 hSw.2.2.1; obtain ⟨e0, e1, e2, e3, e4, e5, e6⟩ := cells7 hSw.2.2.2; go_simp; first | done | with_reducible rfl | rfl
      try simp only [Act.put, List.getElem_toArray, List.getElem_cons_zero, List.getElem_cons_succ, List.setIfInBounds_toArray, List.set_cons_zero, List.set_cons_succ]
      refine wpAnyH_take (i := 25) (v := ?_) rfl (by kernel_rfl) (by kernel_rfl) (by kernel_rfl) (fun _ _ _ h => h) (Or.inl ⟨by rfl, ?_⟩) hHeld ?_
      rotate_left
      · intro w' hSw; obtain ⟨c0, c1, c2, c3, c4, c5, c6⟩ := cells7 hSw.2.1; obtain ⟨d0, d1, d2, d3, d4, d5, d6⟩ := cells7 hSw.2.2.1; obtain ⟨e0, e1, e2, e3, e4, e5, e6⟩ := cells7 hSw.2.2.2; go_simp; first | done | with_reducible rfl | rfl
      try simp only [Act.put, List.getElem_toArray, List.getElem_cons_zero, List.getElem_cons_succ, List.setIfInBounds_toArray, List.set_cons_zero, List.set_cons_succ]
      refine wpAnyH_take (i := 26) (v := ?_) rfl (by kernel_rfl) (by kernel_rfl) (by kernel_rfl) (fun _ _ _ h => h) (Or.inl ⟨by rfl, ?_⟩) hHeld ?_
      rotate_left
      · intro w' hSw; obtain ⟨c0, c1, c2, c3, c4, c5, c6⟩ := cells7 hSw.2.1; obtain ⟨d0, d1, d2, d3, d4, d5, d6⟩ := cells7 hSw.2.2.1; obtain ⟨e0, e1, e2, e3, e4, e5, e6⟩ := cells7 hSw.2.2.2; go_simp; first | done | with_reducible rfl | rfl
      try simp only [Act.put, List.getElem_toArray, List.getElem_cons_zero, List.getElem_cons_succ, List.setIfInBounds_toArray, List.set_cons_zero, List.set_cons_succ]
      refine wpAnyH_take (i := 27) (v := ?_) rfl (by kernel_rfl) (by kernel_rfl) (by kernel_rfl) (fun _ _ _ h => h) (Or.inl ⟨by rfl, ?_⟩) hHeld ?_
      rotate_left
      · intro w' hSw; obtain ⟨c0, c1, c2, c3, c4, c5, c6⟩ := cells7 hSw.2.1; obtain ⟨d0, d1, d2, d3, d4, d5, d6⟩ := cells7 hSw.2.2.1; obtain ⟨e0, e1, e2, e3, e4, e5, e6⟩ := cells7 hSw.2.2.2; go_simp; first | done | with_reducible rfl | rfl
      try simp only [Act.put, List.getElem_toArray, List.getElem_cons_zero, List.getElem_cons_succ, List.setIfInBounds_toArray, List.set_cons_zero, List.set_cons_succ]
      refine wpAnyH_take (i := 28) (v := ?_) rfl (by kernel_rfl) (by kernel_rfl) (by kernel_rfl) (fun _ _ _ h => h) (Or.inl ⟨by rfl, ?_⟩) hHeld ?_
      rotate_left
      · intro w' hSw; obtain ⟨c0, c1, c2, c3, c4, c5, c6⟩ := cells7 hSw.2.1; obtain ⟨d0, d1, d2, d3, d4, d5, d6⟩ := cells7 hSw.2.2.1; obtain ⟨e0, e1, e2, e3, e4, e5, e6⟩ := cells7 hSw.2.2.2; go_simp; first | done | with_reducible rfl | rfl
      try simp only [Act.put, List.getElem_toArray, List.getElem_cons_zero, List.getElem_cons_succ, List.setIfInBounds_toArray, List.set_cons_zero, List.set_cons_succ]
      refine wpAnyH_take (i := 29) (v := ?_) rfl (by kernel_rfl) (by kernel_rfl) (by kernel_rfl) (fun _ _ _ h => h) (Or.inl ⟨by rfl, ?_⟩) hHeld ?_
      rotate_left
      · intro w' hSw; obtain ⟨c0, c1, c2, c3, c4, c5, c6⟩ := cells7 hSw.2.1; obtain ⟨d0, d1, d2, d3, d4, d5, d6⟩ := cells7 hSw.2.2.1; obtain ⟨e0, e1, e2, e3, e4, e5, e6⟩ := cells7 hSw.2.2.2; go_simp; first | done | with_reducible rfl | rfl
      try simp only [Act.put, List.getElem_toArray, List.getElem_cons_zero, List.getElem_cons_succ, List.setIfInBounds_toArray, List.set_cons_zero, List.set_cons_succ]
      refine wpAnyH_take (i := 31) (v := ?_) rfl (by kernel_rfl) (by kernel_rfl) (by kernel_rfl) (fun _ _ _ h => h) (Or.inl ⟨by rfl, ?_⟩) hHeld ?_
      rotate_left
      · intro w' hSw; obtain ⟨c0, c1, c2, c3, c4, c5, c6⟩ := cells7 hSw.2.1; obtain ⟨d0, d1, d2, d3, d4, d5, d6⟩ := cells7 hSw.2.2.1; obtain ⟨e0, e1, e2, e3, e4, e5, e6⟩ := cells7 hSw.2.2.2; go_simp; first | done | with_reducible rfl | rfl
      try simp only [Act.put, List.getElem_toArray, List.getElem_cons_zero, List.getElem_cons_succ, List.setIfInBounds_toArray, List.set_cons_zero, List.set_cons_succ]
      refine wpAnyH_take (i := 32) (v := ?_) rfl (by kernel_rfl) (by kernel_rfl) (by kernel_rfl) (fun _ _ _ h => h) (Or.inl ⟨by rfl, ?_⟩) hHeld ?_
      rotate_left
      · intro w' hSw; obtain ⟨c0, c1, c2, c3, c4, c5, c6⟩ := cells7 hSw.2.1; obtain ⟨d0, d1, d2, d3, d4, d5, d6⟩ := cells7 hSw.2.2.1; obtain ⟨e0, e1, e2, e3, e4, e5, e6⟩ := cells7 hSw.2.2.2; go_simp; first | done | with_reducible rfl | rfl
      try simp only [Act.put, List.getElem_toArray, List.getElem_cons_zero, List.getElem_cons_succ, List.setIfInBounds_toArray, List.set_cons_zero, List.set_cons_succ]
      refine wpAnyH_ready (rs := [30]) (by kernel_rfl) (by simp) ?_
      refine AllReadyH.cons rfl (fun K hK => ?_) AllReadyH.nil
      try simp only [Act.put, List.getElem_toArray, List.getElem_cons_zero, List.getElem_cons_succ, List.setIfInBounds_toArray, List.set_cons_zero, List.set_cons_succ]
      go_simp
      go_at_call 17
      refine (KC1.out _ (HST.out.later (HBa14))).mono ?_
      rintro e wa30 ⟨rfl, hba30⟩
      have HBa30 := (HBa14).trans (hba30.mono (HBa14).size)
      have HAa30 := (hba30.block _ (block_lt (HAa14))).trans (HAa14)
      have HXa30 := (hba30.block _ (block_lt (HXa14))).trans (HXa14)
      have HYa30 := (hba30.block _ (block_lt (HYa14))).trans (HYa14)
      go_wp2_with fail
      clear hHeld
      refine hK.out _ _ (⟨HBa30, HAa30, HXa30, HYa30⟩) (fun hHeld => ?_)
      clear hK K
      try simp only [Act.put, List.getElem_toArray, List.getElem_cons_zero, List.getElem_cons_succ, List.setIfInBounds_toArray, List.set_cons_zero, List.set_cons_succ]
      refine wpAnyH_ready (rs := [33]) (by kernel_rfl) (by simp) ?_
      refine AllReadyH.cons rfl (fun K hK => ?_) AllReadyH.nil
      try simp only [Act.put, List.getElem_toArray, List.getElem_cons_zero, List.getElem_cons_succ, List.setIfInBounds_toArray, List.set_cons_zero, List.set_cons_succ]
      go_simp
      go_at_call 18
      refine (KC2.out _).mono ?_
      rintro e wa33 ⟨rfl, hba33⟩
      have HBa33 := (HBa30).trans (hba33.mono (HBa30).size)
      have HAa33 := (hba33.block _ (block_lt (HAa30))).trans (HAa30)
      have HXa33 := (hba33.block _ (block_lt (HXa30))).trans (HXa30)
      have HYa33 := (hba33.block _ (block_lt (HYa30))).trans (HYa30)
      go_wp2_with fail
      clear hHeld
      refine hK.out _ _ (⟨HBa33, HAa33, HXa33, HYa33⟩) (fun hHeld => ?_)
      clear hK K
      try simp only [Act.put, List.getElem_toArray, List.getElem_cons_zero, List.getElem_cons_succ, List.setIfInBounds_toArray, List.set_cons_zero, List.set_cons_succ]
      refine wpAnyH_take (i := 34) (v := ?_) rfl (by kernel_rfl) (by kernel_rfl) (by kernel_rfl) (fun _ _ _ h => h) (Or.inl ⟨by rfl, ?_⟩) hHeld ?_
      rotate_left
      · intro w' hSw; obtain ⟨c0, c1, c2, c3, c4, c5, c6⟩ := cells7 hSw.2.1; obtain ⟨d0, d1, d2, d3, d4, d5, d6⟩ := cells7 hSw.2.2.1; obtain ⟨e0, e1, e2, e3, e4, e5, e6⟩ := cells7 hSw.2.2.2; go_simp; first | done | with_reducible rfl | rfl
      try simp only [Act.put, List.getElem_toArray, List.getElem_cons_zero, List.getElem_cons_succ, List.setIfInBounds_toArray, List.set_cons_zero, List.set_cons_succ]
      refine wpAnyH_take (i := 35) (v := ?_) rfl (by kernel_rfl) (by kernel_rfl) (by kernel_rfl) (fun _ _ _ h => h) (Or.inl ⟨by rfl, ?_⟩) hHeld ?_
      rotate_left
      · intro w' hSw; obtain ⟨c0, c1, c2, c3, c4, c5, c6⟩ := cells7 hSw.2.1; obtain ⟨d0, d1, d2, d3, d4, d5, d6⟩ := cells7 hSw.2.2.1; obtain ⟨e0, e1, e2, e3, e4, e5, e6⟩ := cells7 hSw.2.2.2; go_simp; first | done | with_reducible rfl | rfl
      try simp only [Act.put, List.getElem_toArray, List.getElem_cons_zero, List.getElem_cons_succ, List.setIfInBounds_toArray, List.set_cons_zero, List.set_cons_succ]
      refine wpAnyH_take (i := 36) (v := ?_) rfl (by kernel_rfl) (by kernel_rfl) (by kernel_rfl) (fun _ _ _ h => h) (Or.inl ⟨by rfl, ?_⟩) hHeld ?_
      rotate_left
      · intro w' hSw; obtain ⟨c0, c1, c2, c3, c4, c5, c6⟩ := cells7 hSw.2.1; obtain ⟨d0, d1, d2, d3, d4, d5, d6⟩ := cells7 hSw.2.2.1; obtain ⟨e0, e1, e2, e3, e4, e5, e6⟩ := cells7 hSw.2.2.2; go_simp; first | done | with_reducible rfl | rfl
      try simp only [Act.put, List.getElem_toArray, List.getElem_cons_zero, List.getElem_cons_succ, List.setIfInBounds_toArray, List.set_cons_zero, List.set_cons_succ]
      refine wpAnyH_take (i := 37) (v := ?_) rfl (by kernel_rfl) (by kernel_rfl) (by kernel_rfl) (fun _ _ _ h => h) (Or.inl ⟨by rfl, ?_⟩) hHeld ?_
      rotate_left
      · intro w' hSw; obtain ⟨c0, c1, c2, c3, c4, c5, c6⟩ := cells7 hSw.2.1; obtain ⟨d0, d1, d2, d3, d4, d5, d6⟩ := cells7 hSw.2.2.1; obtain ⟨e0, e1, e2, e3, e4, e5, e6⟩ := cells7 hSw.2.2.2; go_simp; first | done | with_reducible rfl | rfl
      try simp only [Act.put, List.getElem_toArray, List.getElem_cons_zero, List.getElem_cons_succ, List.setIfInBounds_toArray, List.set_cons_zero, List.set_cons_succ]
      refine wpAnyH_take (i := 38) (v := ?_) rfl (by kernel_rfl) (by kernel_rfl) (by kernel_rfl) (fun _ _ _ h => h) (Or.inl ⟨by rfl, ?_⟩) hHeld ?_
      rotate_left
      · intro w' hSw; obtain ⟨c0, c1, c2, c3, c4, c5, c6⟩ := cells7 hSw.2.1; obtain ⟨d0, d1, d2, d3, d4, d5, d6⟩ := cells7 hSw.2.2.1; obtain ⟨e0, e1, e2, e3, e4, e5, e6⟩ := cells7 hSw.2.2.2; go_simp; first | done | with_reducible rfl | rfl
      try simp only [Act.put, List.getElem_toArray, List.getElem_cons_zero, List.getElem_cons_succ, List.setIfInBounds_toArray, List.set_cons_zero, List.set_cons_succ]
      refine wpAnyH_take (i := 40) (v := ?_) rfl (by kernel_rfl) (by kernel_rfl) (by kernel_rfl) (fun _ _ _ h => h) (Or.inl ⟨by rfl, ?_⟩) hHeld ?_
      rotate_left
      · intro w' hSw; obtain ⟨c0, c1, c2, c3, c4, c5, c6⟩ := cells7 hSw.2.1; obtain ⟨d0, d1, d2, d3, d4, d5, d6⟩ := cells7 hSw.2.2.1; obtain ⟨e0, e1, e2, e3, e4, e5, e6⟩ := cells7 hSw.2.2.2; go_simp; first | done | with_reducible rfl | rfl
      try simp only [Act.put, List.getElem_toArray, List.getElem_cons_zero, List.getElem_cons_succ, List.setIfInBounds_toArray, List.set_cons_zero, List.set_cons_succ]
      refine wpAnyH_ready (rs := [39]) (by kernel_rfl) (by simp) ?_
      refine AllReadyH.cons rfl (fun K hK => ?_) AllReadyH.nil
      try simp only [Act.put, List.getElem_toArray, List.getElem_cons_zero, List.getElem_cons_succ, List.setIfInBounds_toArray, List.set_cons_zero, List.set_cons_succ]
      go_simp
      go_at_call 17
      refine (KC3.out _ (HST.out.later (HBa33))).mono ?_
      rintro e wa39 ⟨rfl, hba39⟩
      have HBa39 := (HBa33).trans (hba39.mono (HBa33).size)
      have HAa39 := (hba39.block _ (block_lt (HAa33))).trans (HAa33)
      have HXa39 := (hba39.block _ (block_lt (HXa33))).trans (HXa33)
      have HYa39 := (hba39.block _ (block_lt (HYa33))).trans (HYa33)
      go_wp2_with fail
      clear hHeld
      refine hK.out _ _ (⟨HBa39, HAa39, HXa39, HYa39⟩) (fun hHeld => ?_)
      clear hK K
      try simp only [Act.put, List.getElem_toArray, List.getElem_cons_zero, List.getElem_cons_succ, List.setIfInBounds_toArray, List.set_cons_zero, List.set_cons_succ]
      refine wpAnyH_take (i := 41) (v := ?_) rfl (by kernel_rfl) (by kernel_rfl) (by kernel_rfl) (fun _ _ _ h => h) (Or.inl ⟨by rfl, ?_⟩) hHeld ?_
      rotate_left
      · intro w' hSw; obtain ⟨c0, c1, c2, c3, c4, c5, c6⟩ := cells7 hSw.2.1; obtain ⟨d0, d1, d2, d3, d4, d5, d6⟩ := cells7 hSw.2.2.1; obtain ⟨e0, e1, e2, e3, e4, e5, e6⟩ := cells7 hSw.2.2.2; go_simp; first | done | with_reducible rfl | rfl
      try simp only [Act.put, List.getElem_toArray, List.getElem_cons_zero, List.getElem_cons_succ, List.setIfInBounds_toArray, List.set_cons_zero, List.set_cons_succ]
      refine wpAnyH_take (i := 42) (v := ?_) rfl (by kernel_rfl) (by kernel_rfl) (by kernel_rfl) (fun _ _ _ h => h) (Or.inl ⟨by rfl, ?_⟩) hHeld ?_
      rotate_left
      · intro w' hSw; obtain ⟨c0, c1, c2, c3, c4, c5, c6⟩ := cells7 hSw.2.1; obtain ⟨d0, d1, d2, d3, d4, d5, d6⟩ := cells7 hSw.2.2.1; obtain ⟨e0, e1, e2, e3, e4, e5, e6⟩ := cells7 hSw.2.2.2; go_simp; first | done | with_reducible rfl | rfl
      try simp only [Act.put, List.getElem_toArray, List.getElem_cons_zero, List.getElem_cons_succ, List.setIfInBounds_toArray, List.set_cons_zero, List.set_cons_succ]
      refine wpAnyH_take (i := 43) (v := ?_) rfl (by kernel_rfl) (by kernel_rfl) (by kernel_rfl) (fun _ _ _ h => h) (Or.inl ⟨by rfl, ?_⟩) hHeld ?_
      rotate_left
      · intro w' hSw; obtain ⟨c0, c1, c2, c3, c4, c5, c6⟩ := cells7 hSw.2.1; obtain ⟨d0, d1, d2, d3, d4, d5, d6⟩ := cells7 hSw.2.2.1; obtain ⟨e0, e1, e2, e3, e4, e5, e6⟩ := cells7 hSw.2.2.2; go_simp; first | done | with_reducible rfl | rfl
      try simp only [Act.put, List.getElem_toArray, List.getElem_cons_zero, List.getElem_cons_succ, List.setIfInBounds_toArray, List.set_cons_zero, List.set_cons_succ]
      refine wpAnyH_done (by kernel_rfl) ?_ _
      go_wp2_with fail
      go_ret
      exact ⟨rfl, HBa39⟩
  · have g1 : (100 : Int) < (key.size : Int) := by omega
    clear hk
    go_wp2_with fail
    go_ret
    exact ⟨rfl, HB1.out⟩
end Go.Proofs.YtgcaaigfgbglcaaDoor
