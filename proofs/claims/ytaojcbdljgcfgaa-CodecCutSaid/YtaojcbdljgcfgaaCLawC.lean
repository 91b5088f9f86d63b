/- CodecCut's law. -/
import Derived.Test.YtaojcbdljgcfgaaCTop
namespace Go.Proofs.Ytaojcbdljgcfgaa
open Go.RowKit

set_option maxRecDepth 30000 in
set_option maxHeartbeats 2000000 in
theorem cut_law (la : Option Addr) (ln lc : Nat) (at0 m : Nat) (w : World) (hf : Flats w w.heap.size la ln) (ha : at0 ≤ 65535) (hm : m ≤ 255) :
    Calls Try.prog 8 #[.slice la ln lc, .int .u16 at0, .int .u8 m] w fun e w' => e = .returned (.bool true) ∧ Below w.heap.size w w' := by
  have HA := Lib.hid (awake_prog w)
  have HF := Lib.hid hf
  clear hf
  go_enter Try.func8, Try.ntmps8
  go_wp2_with fail
  refine HA.out.mono ?_
  rintro e w1 ⟨rfl, hb1⟩
  have HT := Lib.hid (tree_prog la ln lc w1 (flats_below HF.out (Nat.le_refl _) hb1))
  go_wp2_with fail
  refine HT.out.mono ?_
  rintro e w2 ⟨hb2, hres⟩
  have HB2 := Lib.hid (hb1.trans (hb2.mono hb1.size))
  clear HT HA hb1 hb2
  rcases hres with ⟨ka, kn, kc, f, rfl, hk, hwt, hnok⟩ | rfl
  · have HK := Lib.hid hk
    have HW := Lib.hid hwt
    have HN := Lib.hid hnok
    clear hk hwt hnok
    unfold nodeV
    obtain ⟨W, hW⟩ : ∃ W, W = w2.alloc (.cells #[.int .i64 2, .int .u64 0, .string ⟨#[]⟩, .slice ka kn kc] 27) := ⟨_, rfl⟩
    have hkW : Hid (KidsAt W (· < W.heap.size) f (.slice ka kn kc)) := Lib.hid (by rw [hW]; exact kids_later HK.out ((Below.refl _ w2).alloc (Nat.le_refl _) _))
    have hbW : Hid (Below w.heap.size w W) := Lib.hid (by rw [hW]; exact HB2.out.alloc HB2.out.size _)
    obtain ⟨r, hr⟩ : ∃ r, r = (tnd f).right 20 := ⟨_, rfl⟩
    obtain ⟨S, hS⟩ : ∃ S : ByteArray, S = if r then ⟨(tbs f).toArray⟩ else ⟨#[]⟩ := ⟨_, rfl⟩
    have hwr := Lib.hid (write_prog 2 0 ⟨#[]⟩ f (.slice ka kn kc) W (tree_ok HW.out HN.out).1 hkW.out (tree_fits HW.out HN.out) r S hr.symm hS)
    unfold nodeV at hwr
    have HS := Lib.hid hS
    have HR := Lib.hid hr
    clear hS hr
    cases r with
    | false =>
      go_wp2_with fail
      rw [← hW]
      refine hwr.out.mono ?_
      rintro e w3 ⟨rfl, hb3⟩
      go_wp2_with fail
      go_ret
      exact ⟨rfl, hbW.out.trans (hb3.mono hbW.out.size)⟩
    | true =>
      go_wp2_with fail
      rw [← hW]
      refine hwr.out.mono ?_
      rintro e w3 ⟨rfl, hb3⟩
      have HB3 := Lib.hid (hbW.out.trans (hb3.mono hbW.out.size))
      clear hb3 hwr hW
      have hSl : Hid (S.data.toList = tbs f) := Lib.hid (by rw [HS.out]; simp)
      have hSs : S.size = (tbs f).length := by rw [HS.out]; simp [ByteArray.size]
      have hS1 : S.size ≤ 81016 := by rw [hSs]; exact (tree_ok HW.out HN.out).2.1
      have hS0 : 0 < S.size := by rw [hSs]; simp [tbs, nodeL]
      have hSI : (S.size : Int) ≤ 81016 := by omega
      have hSI0 : (0 : Int) < (S.size : Int) := by omega
      clear hSs
      obtain ⟨k, hk, hkl⟩ : ∃ k : Nat, (at0 : Int) % (S.size : Int) = (k : Int) ∧ k < S.size := ⟨at0 % S.size, by omega, Nat.mod_lt _ hS0⟩
      have hkI : (k : Int) ≤ (S.size : Int) := by omega
      have hk0 : (0 : Int) ≤ (k : Int) := by omega
      have H1 := Lib.hid (read_prog (S.extract 0 k) w3 (by simp; omega))
      have hp1 : Hid (readO (S.extract 0 k).data.toList = none) := Lib.hid (pre_none HW.out HN.out HR.out.symm _ (S.data.toList.drop k) (by
        rw [← hSl.out]; simp) (by
        intro h
        have := congrArg List.length h
        simp at this; omega))
      go_wp2_with fail
      refine H1.out.mono ?_
      rintro e w4 ⟨x, xa, xn, xc, b, rfl, hb4, p1, p2, _⟩
      obtain rfl : b = false := by
        cases b with
        | false => rfl
        | true => have := p1 rfl; rw [hp1.out] at this; cases this
      have HB4 := Lib.hid (HB3.out.trans (hb4.mono HB3.out.size))
      obtain rfl : x = ⟨0, 0, ⟨#[]⟩, .nil⟩ := (p2 rfl).2
      obtain ⟨W4, hW4⟩ : ∃ W4, W4 = w4.alloc (.cells #[.int .i64 0, .int .u64 0, .string ⟨#[]⟩, .slice xa xn xc] 27) := ⟨_, rfl⟩
      have hs4 : W4.heap.size = w4.heap.size + 1 := by rw [hW4]; simp
      have HB5 := Lib.hid (show Below w.heap.size w W4 by rw [hW4]; exact HB4.out.alloc HB4.out.size _)
      have hmc : (m : Int) = ((UInt8.ofNat m).toNat : Int) := by simp; omega
      have hcv : (convert 40 9 (.slice (some ⟨w4.heap.size + 1, 0, none⟩) 1 1)).run Try.prog (W4.alloc (.cells #[.int .u8 (m : Int)] 5)) = .ok (.string ⟨#[UInt8.ofNat m]⟩) (W4.alloc (.cells #[.int .u8 (m : Int)] 5)) := by
        rw [← hs4]
        exact run_string_block (w := (W4.alloc (.cells #[.int .u8 (m : Int)] 5))) (src := 40) (dst := 9) Try.underlying40 Try.underlying5 Try.underlying9 W4.heap.size 1 [UInt8.ofNat m] (by rw [heap_at_alloc, hmc]; simp [byteV])
      rw [hW4] at hcv
      have H2 := Lib.hid (read_prog (S ++ ⟨#[UInt8.ofNat m]⟩) (W4.alloc (.cells #[.int .u8 (m : Int)] 5)) (by rw [ByteArray.size_append]; have h1 : (⟨#[UInt8.ofNat m]⟩ : ByteArray).size = 1 := rfl; omega))
      rw [hW4] at H2
      have hp2 : Hid (readO (S ++ ⟨#[UInt8.ofNat m]⟩).data.toList = none) := Lib.hid (by
        rw [ByteArray.data_append, Array.toList_append, hSl.out]
        exact more_none HW.out HN.out HR.out.symm _)
      have HW4 := Lib.hid hW4
      clear H1 hb4 p1 p2 hmc hs4 hW4
      unfold nodeV
      go_wp2_with fail
      refine H2.out.mono ?_
      rintro e w5 ⟨y, ya, yn, yc, b, rfl, hb5, q1, q2, _⟩
      obtain rfl : b = false := by
        cases b with
        | false => rfl
        | true => have := q1 rfl; rw [hp2.out] at this; cases this
      have HB6 := Lib.hid ((HB5.out.alloc HB5.out.size (.cells #[.int .u8 (m : Int)] 5)).trans ((show Below (W4.alloc (.cells #[.int .u8 (m : Int)] 5)).heap.size (W4.alloc (.cells #[.int .u8 (m : Int)] 5)) w5 by rw [HW4.out]; exact hb5).mono (by have := HB5.out.size; simp; omega)))
      clear hb5 q1 q2
      unfold nodeV
      go_wp2_with fail
      go_ret
      exact ⟨rfl, HB6.out.alloc HB6.out.size _⟩
  · unfold nodeV
    go_wp2_with fail
    go_ret
    exact ⟨rfl, HB2.out.alloc HB2.out.size _⟩
end Go.Proofs.Ytaojcbdljgcfgaa
