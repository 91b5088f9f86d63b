/- HeaderTurned's walk. -/
import Derived.Test.YtgcaaigfgbglcaaDoorELawS
import Derived.Laws.Bits64
namespace Go.Proofs.YtgcaaigfgbglcaaDoor
open Go.RowKit
theorem xor1_u (n : Int) (h : U64 n) : ∃ q, U64 q ∧ bits .xor .u64 n 1 = q := by
  obtain ⟨k, rfl⟩ : ∃ k : Nat, n = (k : Int) := ⟨n.toNat, by have := h.1; omega⟩
  have hk : k < 18446744073709551616 := by have := h.2; omega
  refine ⟨((k ^^^ 1 : Nat) : Int), ⟨by omega, ?_⟩, by have := bits_xor_u64_nat k 1 hk (by decide); simpa using this⟩
  have := Nat.xor_lt_two_pow (n := 64) (x := k) (y := 1) (by simpa using hk) (by decide)
  have e : (2 : Nat) ^ 64 = 18446744073709551616 := by decide
  omega
/-- A text of which the last byte is turned. -/
def turnB (M : ByteArray) : ByteArray := M.extract 0 31 ++ ⟨#[M.get! 31 ^^^ 1]⟩
theorem turnB_size {M : ByteArray} (h : M.size = 32) : (turnB M).size = 32 := by
  unfold turnB; rw [ByteArray.size_append']; simp [ByteArray.size_extract, h]; rfl
theorem turnB_ne {M : ByteArray} (h : M.size = 32) : turnB M ≠ M := fun e => by
  have e1 : (turnB M).data[31]? = M.data[31]? := by rw [e]
  have hl : (M.extract 0 31).data.size = 31 := by
    have : (M.extract 0 31).size = 31 := by simp [ByteArray.size_extract, h]
    exact this
  unfold turnB at e1
  rw [ByteArray.data_append, Array.getElem?_append_right (by omega), hl] at e1
  have h2 : (31 : Nat) < M.data.size := by have : M.data.size = 32 := h; omega
  rw [Array.getElem?_eq_getElem h2] at e1
  have h3 : M.get! 31 = M.data[31] := by
    have : M.get! 31 = M.data[31]! := rfl
    rw [this, getElem!_pos M.data 31 h2]
  simp [h3] at e1
  have h4 : ∀ n, n < 256 → UInt8.ofNat n ^^^ 1 ≠ UInt8.ofNat n := by decide +kernel
  have h5 := h4 M.data[31].toNat M.data[31].toNat_lt
  simp at h5
  exact h5 e1
/-- What is turned of a signed header, as far as it matters. -/
def Turned (key M : ByteArray) (y : Sg) : Prop := y.h.is = true ∧ y.h.Ok 100 ∧ (y.mac = M ∨ y.by key = false)
set_option maxHeartbeats 4000000 in
set_option maxRecDepth 100000 in
theorem turned_law (key : ByteArray) (hkey : key.size ≤ maxLen) (s : Sg) (hf : s.Fit) (n : Int) (hn : 0 ≤ n ∧ n ≤ 255) (w : World) (hst : Start w) :
    Calls Tryd.prog 7 #[.string key, sgV s, .int .u8 n] w fun e w' => e = .returned (.bool true) ∧ Below w.heap.size w w' := by
  have HST := Lib.hid hst
  have KW := Lib.hid (fun W (hS : Start W) => awake_prog W hS)
  have KM := Lib.hid (fun W => small_prog s hf W)
  have bk : (key.size : Int) ≤ 9223372036854775807 := by unfold maxLen at hkey; omega
  have HF := Lib.hid hf
  have HNN := Lib.hid hn
  unfold sgV at KM ⊢
  obtain ⟨W0, hW0⟩ : ∃ W0, W0 = w.alloc (.cells #[.int .u64 s.h.shard, .int .u64 s.h.seq, .string s.h.prev, .string s.h.root, .int .u64 s.h.who, .int .u64 s.h.stamp, .string s.mac] 26) := ⟨_, rfl⟩
  have HB0 := Lib.hid (show Below w.heap.size w W0 by rw [hW0]; exact (Below.refl _ _).alloc (Nat.le_refl _) _)
  have HA0 : Hid (W0.heap[w.heap.size]? = some (.cells #[.int .u64 s.h.shard, .int .u64 s.h.seq, .string s.h.prev, .string s.h.root, .int .u64 s.h.who, .int .u64 s.h.stamp, .string s.mac] 26 (0, 0))) := Lib.hid (by rw [hW0]; exact heap_alloc_new _ _)
  clear hst hf hkey hn
  go_enter Tryd.func7, Tryd.ntmps7
  go_upto_region 1 with fail
  simp only [← hW0]
  clear hW0
  go_wp2_with fail
  refine (KW.out _ (HST.out.later HB0.out)).mono ?_
  rintro e w1 ⟨rfl, hb1⟩
  have HB1 := Lib.hid (HB0.out.trans (hb1.mono HB0.out.size))
  have HA1 := Lib.hid ((hb1.block _ (block_lt HA0.out)).trans HA0.out)
  clear hb1 KW
  obtain ⟨c0, c1, c2, c3, c4, c5, c6⟩ := cells7 HA1.out
  by_cases hk : key.size ≤ 100
  · have g1 : ¬ (100 : Int) < (key.size : Int) := by omega
    have HK := Lib.hid hk
    clear hk
    go_wp2_with fail
    refine (KM.out _).mono ?_
    rintro e w2 ⟨rfl, hb2⟩
    have HB2 := Lib.hid (HB1.out.trans (hb2.mono HB1.out.size))
    have HA2 := Lib.hid ((hb2.block _ (block_lt HA1.out)).trans HA1.out)
    clear hb2 KM c0 c1 c2 c3 c4 c5 c6
    obtain ⟨r, hr⟩ : ∃ r, s.small = r := ⟨_, rfl⟩
    rw [hr]
    cases r with
    | false =>
      clear hr
      go_wp2_with fail
      go_ret
      exact ⟨rfl, HB2.out⟩
    | true =>
      obtain ⟨ho, _⟩ := HF.out.ok hr
      have hkk : key.size ≤ 10000 := by have := HK.out; omega
      have KS1 := Lib.hid (fun W (hS : Start W) => psign_prog sum_ok key hkk s.h 100 ho (by decide) W hS)
      obtain ⟨c0, c1, c2, c3, c4, c5, c6⟩ := cells7 HA2.out
      obtain ⟨b, hb⟩ : ∃ b, s.h.is = b := ⟨_, rfl⟩
      rw [hb] at KS1
      cases b with
      | false =>
        rw [sign_false hb] at KS1
        unfold sgV zeroS zeroH at KS1
        unfold hdV at KS1
        have KC0 := Lib.hid (fun W (hS : Start W) => pcheck_prog sum_ok key hkk s 100 ho (by decide) W hS)
        have hcf : s.by key = false := by unfold Sg.by; rw [hb]; rfl
        rw [hcf] at KC0
        unfold sgV at KC0
        clear hr ho hkk hb hcf HF
        go_wp2_with fail
        refine (KS1.out _ (HST.out.later HB2.out)).mono ?_
        rintro e w3 ⟨rfl, hb3⟩
        have HB3 := Lib.hid (HB2.out.trans (hb3.mono HB2.out.size))
        have HA3 := Lib.hid ((hb3.block _ (block_lt HA2.out)).trans HA2.out)
        clear hb3 c0 c1 c2 c3 c4 c5 c6
        obtain ⟨W4, hW4⟩ : ∃ W4, W4 = w3.alloc (.cells #[.int .u64 0, .int .u64 0, .string ⟨#[]⟩, .string ⟨#[]⟩, .int .u64 0, .int .u64 0, .string ⟨#[]⟩] 26) := ⟨_, rfl⟩
        have HB4 : Hid (Below w.heap.size w W4) := Lib.hid (by rw [hW4]; exact HB3.out.alloc HB3.out.size _)
        have HA4 : Hid (W4.heap[w.heap.size]? = some (.cells #[.int .u64 s.h.shard, .int .u64 s.h.seq, .string s.h.prev, .string s.h.root, .int .u64 s.h.who, .int .u64 s.h.stamp, .string s.mac] 26 (0, 0))) := Lib.hid (by rw [hW4]; exact (Below.heap_alloc _ _ _ (block_lt HA3.out)).trans HA3.out)
        go_upto_region 6 with fail
        simp only [← hW4]
        clear hW4
        obtain ⟨c0, c1, c2, c3, c4, c5, c6⟩ := cells7 HA4.out
        go_wp2_with fail
        refine (KC0.out _ (HST.out.later HB4.out)).mono ?_
        rintro e w5 ⟨rfl, hb5⟩
        have HB5 := Lib.hid (HB4.out.trans (hb5.mono HB4.out.size))
        clear hb5
        go_wp2_with fail
        go_ret
        exact ⟨rfl, HB5.out⟩
      | true =>
        rw [sign_true hb] at KS1
        obtain ⟨M, hM⟩ : ∃ M, s.h.sealB key = M := ⟨_, rfl⟩
        have hMs : M.size = 32 := by rw [← hM]; exact seal_size key s.h
        have HMS := Lib.hid hMs
        have HM := Lib.hid hM
        have HO := Lib.hid ho
        have HI := Lib.hid hb
        have HKK := Lib.hid hkk
        have hxb : (⟨s.h, M⟩ : Sg).by key = true := by unfold Sg.by; rw [hb, hM]; simp
        have KC1 := Lib.hid (fun W (hS : Start W) => pcheck_prog sum_ok key hkk ⟨s.h, M⟩ 100 ho (by decide) W hS)
        rw [hxb] at KC1
        rw [hM] at KS1
        unfold sgV at KS1 KC1
        unfold hdV at KS1
        clear hr ho hkk hb hxb hM hMs HF
        go_wp2_with fail
        refine (KS1.out _ (HST.out.later HB2.out)).mono ?_
        rintro e w3 ⟨rfl, hb3⟩
        have HB3 := Lib.hid (HB2.out.trans (hb3.mono HB2.out.size))
        clear hb3 c0 c1 c2 c3 c4 c5 c6 KS1 HA2 HA1 HA0
        obtain ⟨W4, hW4⟩ : ∃ W4, W4 = w3.alloc (.cells #[.int .u64 s.h.shard, .int .u64 s.h.seq, .string s.h.prev, .string s.h.root, .int .u64 s.h.who, .int .u64 s.h.stamp, .string M] 26) := ⟨_, rfl⟩
        obtain ⟨gx, hgx⟩ : ∃ g, g = w3.heap.size := ⟨_, rfl⟩
        have HB4 : Hid (Below w.heap.size w W4) := Lib.hid (by rw [hW4]; exact HB3.out.alloc HB3.out.size _)
        have HX4 : Hid (W4.heap[gx]? = some (.cells #[.int .u64 s.h.shard, .int .u64 s.h.seq, .string s.h.prev, .string s.h.root, .int .u64 s.h.who, .int .u64 s.h.stamp, .string M] 26 (0, 0))) := Lib.hid (by rw [hW4, hgx]; exact heap_alloc_new _ _)
        have HLX : Hid (w.heap.size ≤ gx) := Lib.hid (by rw [hgx]; exact HB3.out.size)
        go_upto_region 6 with fail
        simp only [← hW4, ← hgx]
        clear hW4 hgx
        obtain ⟨c0, c1, c2, c3, c4, c5, c6⟩ := cells7 HX4.out
        obtain ⟨W5, hW5⟩ : ∃ W5, W5 = W4.alloc (.cells #[.int .u64 s.h.shard, .int .u64 s.h.seq, .string s.h.prev, .string s.h.root, .int .u64 s.h.who, .int .u64 s.h.stamp, .string M] 26) := ⟨_, rfl⟩
        obtain ⟨gy, hgy⟩ : ∃ g, g = W4.heap.size := ⟨_, rfl⟩
        have HB5 : Hid (Below w.heap.size w W5) := Lib.hid (by rw [hW5]; exact HB4.out.alloc HB4.out.size _)
        have HX5 : Hid (W5.heap[gx]? = some (.cells #[.int .u64 s.h.shard, .int .u64 s.h.seq, .string s.h.prev, .string s.h.root, .int .u64 s.h.who, .int .u64 s.h.stamp, .string M] 26 (0, 0))) := Lib.hid (by rw [hW5]; exact (Below.heap_alloc _ _ _ (block_lt HX4.out)).trans HX4.out)
        have HY5 : Hid (W5.heap[gy]? = some (.cells #[.int .u64 s.h.shard, .int .u64 s.h.seq, .string s.h.prev, .string s.h.root, .int .u64 s.h.who, .int .u64 s.h.stamp, .string M] 26 (0, 0))) := Lib.hid (by rw [hW5, hgy]; exact heap_alloc_new _ _)
        have HLY : Hid (gx < gy) := Lib.hid (by rw [hgy]; exact block_lt HX4.out)
        go_upto_region 9 with fail
        simp only [← hW5, ← hgy]
        clear hW5 hgy c0 c1 c2 c3 c4 c5 c6
        go_upto_block 0 with fail
        go_cut [] from 37 to 96 (fun wx => ∃ y : Sg, Hid (Turned key M y) ∧ Hid (Below w.heap.size w wx) ∧ Hid (wx.heap[gx]? = some (.cells #[.int .u64 s.h.shard, .int .u64 s.h.seq, .string s.h.prev, .string s.h.root, .int .u64 s.h.who, .int .u64 s.h.stamp, .string M] 26 (0, 0))) ∧ Hid (wx.heap[gy]? = some (.cells #[.int .u64 y.h.shard, .int .u64 y.h.seq, .string y.h.prev, .string y.h.root, .int .u64 y.h.who, .int .u64 y.h.stamp, .string y.mac] 26 (0, 0))))
        case first =>
          obtain ⟨y0, y1, y2, y3, y4, y5, y6⟩ := cells7 HY5.out
          obtain ⟨f0, f1, f2, f3, f4, f5, f6⟩ := free7 HY5.out
          have hlg : w.heap.size ≤ gy := by have := HLX.out; have := HLY.out; omega
          have hne : gx ≠ gy := by have := HLY.out; omega
          have hd6 : n % 6 = 0 ∨ n % 6 = 1 ∨ n % 6 = 2 ∨ n % 6 = 3 ∨ n % 6 = 4 ∨ n % 6 = 5 := by omega
          rcases hd6 with hd | hd | hd | hd | hd | hd
          · have hm : n.tmod 6 = 0 := by rw [Int.tmod_eq_emod_of_nonneg HNN.out.1]; exact hd
            obtain ⟨q, hq1, hq2⟩ := xor1_u s.h.seq HO.out.2.1
            have HQ := Lib.hid hq1
            clear hd hq1
            go_wp2_with fail
            go_meet
            refine ⟨⟨{ s.h with seq := q }, M⟩, Lib.hid ⟨by have := HI.out; unfold Hd.is at this ⊢; exact this, ?_, .inl rfl⟩, Lib.hid (HB5.out.setCell hlg _), Lib.hid ((heap_setCell_other W5 ⟨gy, 1, none⟩ gx _ hne).trans HX5.out), Lib.hid (heap_setCell_same W5 gy 1 _ _ _ HY5.out)⟩
            obtain ⟨i0, i1, i2, i3, i4, i5⟩ := HO.out
            exact ⟨i0, HQ.out, i2, i3, i4, i5⟩
          · have hm : n.tmod 6 = 1 := by rw [Int.tmod_eq_emod_of_nonneg HNN.out.1]; exact hd
            obtain ⟨q, hq1, hq2⟩ := xor1_u s.h.shard HO.out.1
            have HQ := Lib.hid hq1
            clear hd hq1
            go_wp2_with fail
            go_meet
            refine ⟨⟨{ s.h with shard := q }, M⟩, Lib.hid ⟨by have := HI.out; unfold Hd.is at this ⊢; exact this, ?_, .inl rfl⟩, Lib.hid (HB5.out.setCell hlg _), Lib.hid ((heap_setCell_other W5 ⟨gy, 0, none⟩ gx _ hne).trans HX5.out), Lib.hid (heap_setCell_same W5 gy 0 _ _ _ HY5.out)⟩
            obtain ⟨i0, i1, i2, i3, i4, i5⟩ := HO.out
            exact ⟨HQ.out, i1, i2, i3, i4, i5⟩
          · have hm : n.tmod 6 = 2 := by rw [Int.tmod_eq_emod_of_nonneg HNN.out.1]; exact hd
            obtain ⟨q, hq1, hq2⟩ := xor1_u s.h.who HO.out.2.2.2.2.1
            have HQ := Lib.hid hq1
            clear hd hq1
            go_wp2_with fail
            go_meet
            refine ⟨⟨{ s.h with who := q }, M⟩, Lib.hid ⟨by have := HI.out; unfold Hd.is at this ⊢; exact this, ?_, .inl rfl⟩, Lib.hid (HB5.out.setCell hlg _), Lib.hid ((heap_setCell_other W5 ⟨gy, 4, none⟩ gx _ hne).trans HX5.out), Lib.hid (heap_setCell_same W5 gy 4 _ _ _ HY5.out)⟩
            obtain ⟨i0, i1, i2, i3, i4, i5⟩ := HO.out
            exact ⟨i0, i1, i2, i3, HQ.out, i5⟩
          · have hm : n.tmod 6 = 3 := by rw [Int.tmod_eq_emod_of_nonneg HNN.out.1]; exact hd
            obtain ⟨q, hq1, hq2⟩ := xor1_u s.h.stamp HO.out.2.2.2.2.2
            have HQ := Lib.hid hq1
            clear hd hq1
            go_wp2_with fail
            go_meet
            refine ⟨⟨{ s.h with stamp := q }, M⟩, Lib.hid ⟨by have := HI.out; unfold Hd.is at this ⊢; exact this, ?_, .inl rfl⟩, Lib.hid (HB5.out.setCell hlg _), Lib.hid ((heap_setCell_other W5 ⟨gy, 5, none⟩ gx _ hne).trans HX5.out), Lib.hid (heap_setCell_same W5 gy 5 _ _ _ HY5.out)⟩
            obtain ⟨i0, i1, i2, i3, i4, i5⟩ := HO.out
            exact ⟨i0, i1, i2, i3, i4, HQ.out⟩
          · have hm : n.tmod 6 = 4 := by rw [Int.tmod_eq_emod_of_nonneg HNN.out.1]; exact hd
            have hsz : M.size = 32 := HMS.out
            obtain ⟨T, hT⟩ : ∃ T, M = T := ⟨_, rfl⟩
            rw [hT] at hsz
            have hTT := Lib.hid hT
            rw [hT] at y6
            have s1 : (31 : Int) ≤ (T.size : Int) := by omega
            have s2 : (31 : Int) < (T.size : Int) := by omega
            have s4 : (T.size : Int) ≤ 32 := by omega
            have s3 : 31 < T.size := by omega
            obtain ⟨x, hx⟩ : ∃ x : UInt8, T[31] ^^^ 1 = x := ⟨_, rfl⟩
            have hxb : bits .xor .u8 (T[31].toNat : Int) 1 = (x.toNat : Int) := by rw [← hx]; exact bits_xor8 T[31] 1
            have HX := Lib.hid hx
            have HSZ := Lib.hid hsz
            clear hd hsz hT hx
            go_upto_region 20 with fail
            have hcv := run_string_block (P := Tryd.prog) (w := (W5.alloc (.cells #[.int .u8 (x.toNat : Int)] 5)).drew) (src := 58) (dst := 9) Tryd.underlying58 Tryd.underlying5 Tryd.underlying9 W5.heap.size 1 [x] (by show (W5.alloc _).heap[W5.heap.size]? = _; rw [heap_at_alloc]; rfl)
            simp only [List.length_cons, List.length_nil, Nat.zero_add] at hcv
            have hmn : ¬ 9223372036854775807 < min 31 T.size + 1 := by omega
            have hya : (W5.alloc (.cells #[.int .u8 (x.toNat : Int)] 5)).drew.cell? ⟨gy, 6, none⟩ = some (.string T) := by rw [← hTT.out]; exact (cells7 ((Below.heap_alloc W5 (.cells #[.int .u8 (x.toNat : Int)] 5 (0, 0)) _ (block_lt HY5.out)).trans HY5.out)).2.2.2.2.2.2
            have hyf : (W5.alloc (.cells #[.int .u8 (x.toNat : Int)] 5)).drew.frozen? ⟨gy, 6, none⟩ = false := (free7 ((Below.heap_alloc W5 (.cells #[.int .u8 (x.toNat : Int)] 5 (0, 0)) _ (block_lt HY5.out)).trans HY5.out)).2.2.2.2.2.2
            have htb := Lib.hid (show T.extract 0 31 ++ ⟨#[x]⟩ = turnB T by
              have h3 : T.get! 31 = T[31] := by
                have : T.get! 31 = T.data[31]! := rfl
                rw [this, getElem!_pos T.data 31 s3]; rfl
              unfold turnB; rw [h3, HX.out])
            go_region
            go_wp2_with fail
            go_meet
            refine ⟨⟨s.h, turnB T⟩, Lib.hid ⟨?_, ?_, ?_⟩, Lib.hid (((HB5.out.alloc HB5.out.size _).drew).setCell hlg _), Lib.hid ((heap_setCell_other (World.drew (W5.alloc (.cells #[.int .u8 (x.toNat : Int)] 5))) ⟨gy, 6, none⟩ gx _ hne).trans ((Below.heap_alloc W5 (.cells #[.int .u8 (x.toNat : Int)] 5 (0, 0)) _ (block_lt HX5.out)).trans HX5.out)), Lib.hid ?_⟩
            · exact HI.out
            · exact HO.out
            · refine .inr ?_
              unfold Sg.by
              rw [HM.out, ← hTT.out, decide_eq_false (turnB_ne HMS.out), Bool.and_false]
            · rw [← htb.out]
              exact heap_setCell_same (World.drew (W5.alloc (.cells #[.int .u8 (x.toNat : Int)] 5))) gy 6 _ _ _ ((Below.heap_alloc W5 (.cells #[.int .u8 (x.toNat : Int)] 5 (0, 0)) _ (block_lt HY5.out)).trans HY5.out)
          · have hm : n.tmod 6 = 5 := by rw [Int.tmod_eq_emod_of_nonneg HNN.out.1]; exact hd
            have hsz : s.h.root.size = 32 := ((Hd.is_iff s.h).1 HI.out).2
            obtain ⟨T, hT⟩ : ∃ T, s.h.root = T := ⟨_, rfl⟩
            rw [hT] at hsz
            have hTT := Lib.hid hT
            rw [hT] at y3
            have s1 : (31 : Int) ≤ (T.size : Int) := by omega
            have s2 : (31 : Int) < (T.size : Int) := by omega
            have s4 : (T.size : Int) ≤ 32 := by omega
            have s3 : 31 < T.size := by omega
            obtain ⟨x, hx⟩ : ∃ x : UInt8, T[31] ^^^ 1 = x := ⟨_, rfl⟩
            have hxb : bits .xor .u8 (T[31].toNat : Int) 1 = (x.toNat : Int) := by rw [← hx]; exact bits_xor8 T[31] 1
            have HX := Lib.hid hx
            have HSZ := Lib.hid hsz
            clear hd hsz hT hx
            go_upto_region 10 with fail
            have hcv := run_string_block (P := Tryd.prog) (w := (W5.alloc (.cells #[.int .u8 (x.toNat : Int)] 5)).drew) (src := 58) (dst := 9) Tryd.underlying58 Tryd.underlying5 Tryd.underlying9 W5.heap.size 1 [x] (by show (W5.alloc _).heap[W5.heap.size]? = _; rw [heap_at_alloc]; rfl)
            simp only [List.length_cons, List.length_nil, Nat.zero_add] at hcv
            have hmn : ¬ 9223372036854775807 < min 31 T.size + 1 := by omega
            have hya : (W5.alloc (.cells #[.int .u8 (x.toNat : Int)] 5)).drew.cell? ⟨gy, 3, none⟩ = some (.string T) := by rw [← hTT.out]; exact (cells7 ((Below.heap_alloc W5 (.cells #[.int .u8 (x.toNat : Int)] 5 (0, 0)) _ (block_lt HY5.out)).trans HY5.out)).2.2.2.1
            have hyf : (W5.alloc (.cells #[.int .u8 (x.toNat : Int)] 5)).drew.frozen? ⟨gy, 3, none⟩ = false := (free7 ((Below.heap_alloc W5 (.cells #[.int .u8 (x.toNat : Int)] 5 (0, 0)) _ (block_lt HY5.out)).trans HY5.out)).2.2.2.1
            have htb := Lib.hid (show T.extract 0 31 ++ ⟨#[x]⟩ = turnB T by
              have h3 : T.get! 31 = T[31] := by
                have : T.get! 31 = T.data[31]! := rfl
                rw [this, getElem!_pos T.data 31 s3]; rfl
              unfold turnB; rw [h3, HX.out])
            go_region
            go_wp2_with fail
            go_meet
            refine ⟨⟨{ s.h with root := turnB T }, M⟩, Lib.hid ⟨?_, ?_, ?_⟩, Lib.hid (((HB5.out.alloc HB5.out.size _).drew).setCell hlg _), Lib.hid ((heap_setCell_other (World.drew (W5.alloc (.cells #[.int .u8 (x.toNat : Int)] 5))) ⟨gy, 3, none⟩ gx _ hne).trans ((Below.heap_alloc W5 (.cells #[.int .u8 (x.toNat : Int)] 5 (0, 0)) _ (block_lt HX5.out)).trans HX5.out)), Lib.hid ?_⟩
            · exact (Hd.is_iff _).2 ⟨((Hd.is_iff s.h).1 HI.out).1, turnB_size HSZ.out⟩
            · obtain ⟨i0, i1, i2, i3, i4, i5⟩ := HO.out
              exact ⟨i0, i1, i2, by show (turnB T).size ≤ 100; rw [turnB_size HSZ.out]; decide, i4, i5⟩
            · exact .inl rfl
            · rw [← htb.out]
              exact heap_setCell_same (World.drew (W5.alloc (.cells #[.int .u8 (x.toNat : Int)] 5))) gy 3 _ _ _ ((Below.heap_alloc W5 (.cells #[.int .u8 (x.toNat : Int)] 5 (0, 0)) _ (block_lt HY5.out)).trans HY5.out)
        case rest =>
          obtain ⟨y, HT, HB6, HX6, HY6⟩ := hcut
          have KS2 := Lib.hid (fun W => rsign_prog key HKK.out y.h 100 HT.out.2.1 (by decide) W)
          have KC2 := Lib.hid (fun W (hS : Start W) => pcheck_prog sum_ok key HKK.out y 100 HT.out.2.1 (by decide) W hS)
          rw [sign_true HT.out.1, HT.out.1] at KS2
          obtain ⟨M2, hM2⟩ : ∃ M2, y.h.sealB key = M2 := ⟨_, rfl⟩
          obtain ⟨c, hc⟩ : ∃ c, y.by key = c := ⟨_, rfl⟩
          rw [hM2] at KS2
          rw [hc] at KC2
          have HC : Hid (c = true → y.mac = M ∧ M2 = M) := Lib.hid (fun e => by
            rw [e] at hc
            have h1 : y.mac = M := by
              rcases HT.out.2.2 with h | h
              · exact h
              · rw [hc] at h; cases h
            unfold Sg.by at hc
            rw [hM2] at hc
            simp only [Bool.and_eq_true, decide_eq_true_eq] at hc
            exact ⟨h1, by rw [← hc.2]; exact h1⟩)
          unfold sgV at KS2 KC2
          unfold hdV at KS2
          clear hM2 hc
          obtain ⟨y0, y1, y2, y3, y4, y5, y6⟩ := cells7 HY6.out
          go_wp2_with fail
          refine (KS2.out _).mono ?_
          rintro e w7 ⟨rfl, hb7⟩
          have HB7 := Lib.hid (HB6.out.trans (hb7.mono HB6.out.size))
          have HX7 := Lib.hid ((hb7.block _ (block_lt HX6.out)).trans HX6.out)
          have HY7 := Lib.hid ((hb7.block _ (block_lt HY6.out)).trans HY6.out)
          clear hb7 y0 y1 y2 y3 y4 y5 y6
          obtain ⟨W8, hW8⟩ : ∃ W8, W8 = w7.alloc (.cells #[.int .u64 y.h.shard, .int .u64 y.h.seq, .string y.h.prev, .string y.h.root, .int .u64 y.h.who, .int .u64 y.h.stamp, .string M2] 26) := ⟨_, rfl⟩
          obtain ⟨gw, hgw⟩ : ∃ g, g = w7.heap.size := ⟨_, rfl⟩
          have HB8 : Hid (Below w.heap.size w W8) := Lib.hid (by rw [hW8]; exact HB7.out.alloc HB7.out.size _)
          have HX8 : Hid (W8.heap[gx]? = some (.cells #[.int .u64 s.h.shard, .int .u64 s.h.seq, .string s.h.prev, .string s.h.root, .int .u64 s.h.who, .int .u64 s.h.stamp, .string M] 26 (0, 0))) := Lib.hid (by rw [hW8]; exact (Below.heap_alloc _ _ _ (block_lt HX7.out)).trans HX7.out)
          have HY8 : Hid (W8.heap[gy]? = some (.cells #[.int .u64 y.h.shard, .int .u64 y.h.seq, .string y.h.prev, .string y.h.root, .int .u64 y.h.who, .int .u64 y.h.stamp, .string y.mac] 26 (0, 0))) := Lib.hid (by rw [hW8]; exact (Below.heap_alloc _ _ _ (block_lt HY7.out)).trans HY7.out)
          have HW8 : Hid (W8.heap[gw]? = some (.cells #[.int .u64 y.h.shard, .int .u64 y.h.seq, .string y.h.prev, .string y.h.root, .int .u64 y.h.who, .int .u64 y.h.stamp, .string M2] 26 (0, 0))) := Lib.hid (by rw [hW8, hgw]; exact heap_alloc_new _ _)
          go_upto_region 22 with fail
          simp only [← hW8, ← hgw]
          clear hW8 hgw
          obtain ⟨c0, c1, c2, c3, c4, c5, c6⟩ := cells7 HX8.out
          go_wp2_with fail
          refine (KC1.out _ (HST.out.later HB8.out)).mono ?_
          rintro e w9 ⟨rfl, hb9⟩
          have HB9 := Lib.hid (HB8.out.trans (hb9.mono HB8.out.size))
          have HX9 := Lib.hid ((hb9.block _ (block_lt HX8.out)).trans HX8.out)
          have HY9 := Lib.hid ((hb9.block _ (block_lt HY8.out)).trans HY8.out)
          have HW9 := Lib.hid ((hb9.block _ (block_lt HW8.out)).trans HW8.out)
          clear hb9 c0 c1 c2 c3 c4 c5 c6
          obtain ⟨y0, y1, y2, y3, y4, y5, y6⟩ := cells7 HY9.out
          go_wp2_with fail
          refine (KC2.out _ (HST.out.later HB9.out)).mono ?_
          rintro e w10 ⟨rfl, hb10⟩
          have HB10 := Lib.hid (HB9.out.trans (hb10.mono HB9.out.size))
          have HX10 := Lib.hid ((hb10.block _ (block_lt HX9.out)).trans HX9.out)
          have HY10 := Lib.hid ((hb10.block _ (block_lt HY9.out)).trans HY9.out)
          have HW10 := Lib.hid ((hb10.block _ (block_lt HW9.out)).trans HW9.out)
          clear hb10 y0 y1 y2 y3 y4 y5 y6
          cases c with
          | false =>
            go_wp2_with fail
            go_ret
            exact ⟨rfl, HB10.out⟩
          | true =>
            obtain ⟨e1, e2⟩ := HC.out rfl
            rw [e1] at HY10
            rw [e2] at HW10
            clear e1 e2
            obtain ⟨c0, c1, c2, c3, c4, c5, c6⟩ := cells7 HX10.out
            obtain ⟨y0, y1, y2, y3, y4, y5, y6⟩ := cells7 HY10.out
            obtain ⟨z0, z1, z2, z3, z4, z5, z6⟩ := cells7 HW10.out
            go_wp2_with fail
            go_ret
            exact ⟨rfl, HB10.out⟩
  · have g1 : (100 : Int) < (key.size : Int) := by omega
    clear hk
    go_wp2_with fail
    go_ret
    exact ⟨rfl, HB1.out⟩
end Go.Proofs.YtgcaaigfgbglcaaDoor
