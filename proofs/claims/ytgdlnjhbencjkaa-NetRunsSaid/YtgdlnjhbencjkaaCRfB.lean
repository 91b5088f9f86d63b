/- The reference's bytes, Write. -/
import Derived.Test.YtgdlnjhbencjkaaCRfS
namespace Go.Proofs.Ytgdlnjhbencjkaa
open Go.RowKit

def BtRel (c : F) (B0 : List UInt8) (w1 : World) (al i : Value) (wr : World) : Prop :=
  ∃ (j : Nat) (A : ByteArray), i = .int .i64 j ∧ j ≤ c.len ∧ al = .string A ∧ A.size ≤ B0.length ∧ Hid (A.data.toList ++ (c.drop j).bytes = B0) ∧ Below w1.heap.size w1 wr
def BytesOk (D : Nat) : Prop := ∀ (x : Nd) (xv : Value) (B : Nat) (w : World), x.kids.deep < D → x.ok → B ≤ w.heap.size → KidsAt w (· < B) x.kids xv → (nodeL x.k x.n x.s x.kids.len x.kids.bytes).length ≤ 16777216 →
  Calls Try.prog 46 #[nodeV x.k x.n x.s xv] w fun e w' => e = .returned (.string ⟨(nodeL x.k x.n x.s x.kids.len x.kids.bytes).toArray⟩) ∧ Below w.heap.size w w'

theorem bytes3 (c : UInt8) (l m : List UInt8) : ((⟨#[c]⟩ : ByteArray) ++ ⟨l.toArray⟩) ++ ⟨m.toArray⟩ = ⟨(c :: (l ++ m)).toArray⟩ := by
  apply ByteArray.ext; apply Array.toList_inj.1
  simp [ByteArray.data_append]
theorem bytes2 (c : UInt8) (l : List UInt8) : ((⟨#[c]⟩ : ByteArray) ++ ⟨l.toArray⟩) = ⟨(c :: l).toArray⟩ := by
  apply ByteArray.ext; apply Array.toList_inj.1
  simp [ByteArray.data_append]
theorem sz_list (l : List UInt8) : (⟨l.toArray⟩ : ByteArray).size = l.length := by simp [ByteArray.size]

set_option maxRecDepth 30000 in
set_option maxHeartbeats 2000000 in
theorem bytes_step (D : Nat) (IH : BytesOk D) : BytesOk (D + 1) := by
  rintro ⟨k, n, s, c⟩ xv B w hD hok hB hx hlen
  simp only at hD hok hx hlen ⊢
  have HIH := Lib.hid IH
  have HX := Lib.hid hx
  have HOK := Lib.hid hok
  obtain ⟨xa, xc, rfl⟩ := hx.shape
  have hn := hok.1
  have hcl := hok.2.2.1
  have hsl := hok.2.1
  simp only at hn hcl hsl
  have hlI : (c.len : Int) ≤ 268435456 := by omega
  have hsI : (s.size : Int) ≤ 268435456 := by omega
  obtain ⟨w1, hw1⟩ : ∃ w1, w1 = w.alloc (.cells #[.int .i64 k, .int .u64 n, .string s, .slice xa c.len xc] 76) := ⟨_, rfl⟩
  have hbl := Lib.hid (show w1.heap[w.heap.size]? = some (.cells #[.int .i64 k, .int .u64 n, .string s, .slice xa c.len xc] 76 (0, 0)) by rw [hw1]; exact heap_alloc_new w _)
  have hb1 : Hid (Below w.heap.size w w1) := Lib.hid (by rw [hw1]; exact (Below.refl _ w).alloc (Nat.le_refl _) _)
  have hl1 : Hid (w.heap.size < w1.heap.size) := Lib.hid (by rw [hw1]; simp)
  clear IH hx hok
  unfold nodeV
  by_cases hk0 : k = 0
  · subst hk0
    obtain ⟨N, rfl⟩ : ∃ N : Nat, n = (N : Int) := ⟨n.toNat, by omega⟩
    have hNl : N < 18446744073709551616 := by omega
    have hnl := numL_len N 8 (by omega)
    have hs4 := szL_len (numL N).length (by omega)
    have hnum := Lib.hid (numberS_ref N w1 hNl)
    obtain ⟨A, hA⟩ : ∃ A : ByteArray, A = ⟨(numL N).toArray⟩ := ⟨_, rfl⟩
    have hAs : A.size = (numL N).length := by rw [hA, sz_list]
    rw [← hA] at hnum
    obtain ⟨Z, hZ⟩ : ∃ Z : ByteArray, Z = ⟨(szL A.size).toArray⟩ := ⟨_, rfl⟩
    have hZs : Z.size ≤ 4 := by rw [hZ, sz_list, hAs]; exact hs4
    have hsz := Lib.hid (fun w => sizeS_ref A.size w (by omega))
    rw [← hZ] at hsz
    have hAI : (A.size : Int) ≤ 8 := by omega
    have hZI : (Z.size : Int) ≤ 4 := by omega
    have HE : Hid (((⟨#[110]⟩ : ByteArray) ++ Z) ++ A = ⟨(nodeL 0 (N : Int) s c.len c.bytes).toArray⟩) := Lib.hid (by
      rw [hZ, hA, bytes3, sz_list]; simp [nodeL])
    clear hNl hnl hs4 hA hAs hZ hn hlen
    go_enter Try.func46, Try.ntmps46
    go_wp2_with fail
    rw [← hw1]
    clear hw1
    refine hnum.out.mono ?_
    rintro e w2 ⟨rfl, hb2⟩
    have HB2 := Lib.hid (hb1.out.trans (hb2.mono hb1.out.size))
    clear hb2 hnum
    go_wp2_with fail
    refine (hsz.out w2).mono ?_
    rintro e w3 ⟨rfl, hb3⟩
    have HB3 := Lib.hid (HB2.out.trans (hb3.mono HB2.out.size))
    clear hb3 hsz
    go_wp2_with fail
    rw [HE.out]
    go_ret
    exact ⟨rfl, HB3.out⟩
  by_cases hk1 : k = 1
  · subst hk1
    have hs4 := szL_len s.size hsl
    obtain ⟨Z, hZ⟩ : ∃ A : ByteArray, A = ⟨(szL s.size).toArray⟩ := ⟨_, rfl⟩
    have hZs : Z.size ≤ 4 := by rw [hZ, sz_list]; exact hs4
    have hsz := Lib.hid (sizeS_ref s.size w1.drew hsl)
    rw [← hZ] at hsz
    have hZI : (Z.size : Int) ≤ 4 := by omega
    have HE : Hid (((⟨#[115]⟩ : ByteArray) ++ Z) ++ s = ⟨(nodeL 1 n s c.len c.bytes).toArray⟩) := Lib.hid (by
      apply ByteArray.ext; apply Array.toList_inj.1
      rw [hZ]; simp [nodeL, ByteArray.data_append])
    obtain ⟨_, _, x2, _, _, _, _, _⟩ := block4' hbl.out
    clear hs4 hZ hlen
    go_enter Try.func46, Try.ntmps46
    go_upto_region 6 with (fail)
    rw [← hw1]
    clear hw1
    go_region_with ((go_at_call 55; refine hsz.out.mono ?_; rintro e w4 ⟨rfl, hb4⟩; have x4 := cellP hb4 x2))
    all_goals
      have HB4 := Lib.hid (hb1.out.trans ((Below.refl w1.heap.size w1).drew.trans hb4 |>.mono hb1.out.size))
      go_wp2_with fail
      rw [HE.out]
      go_ret
      exact ⟨rfl, HB4.out⟩
  · have hkb0 : (k == 0) = false := by simpa using hk0
    have hkb1 : (k == 1) = false := by simpa using hk1
    have hs4 := szL_len c.len hcl
    obtain ⟨L0, hL0⟩ : ∃ L0, nodeL k n s c.len c.bytes = L0 := ⟨_, rfl⟩
    rw [hL0] at hlen ⊢
    have hL1 : 108 :: (szL c.len ++ c.bytes) = L0 := by rw [← hL0, nodeL, if_neg hk0, if_neg hk1]
    obtain ⟨Z, hZ⟩ : ∃ A : ByteArray, A = ⟨(szL c.len).toArray⟩ := ⟨_, rfl⟩
    have hZs : Z.size ≤ 4 := by rw [hZ, sz_list]; exact hs4
    have hsz := Lib.hid (sizeS_ref c.len w1 hcl)
    rw [← hZ] at hsz
    have hZI : (Z.size : Int) ≤ 4 := by omega
    have HS0 : Hid (((⟨#[108]⟩ : ByteArray) ++ Z).data.toList ++ (c.drop 0).bytes = L0) := Lib.hid (by
      rw [hZ, bytes2, ← hL1]; simp [F.drop])
    have HZL : Hid (((⟨#[108]⟩ : ByteArray) ++ Z).size ≤ L0.length) := Lib.hid (by
      have := congrArg List.length HS0.out
      rw [List.length_append] at this
      simp only [Array.length_toList, ByteArray.size_data] at this
      omega)
    clear hs4 hZ hL1 hL0
    go_enter Try.func46, Try.ntmps46
    go_wp2_with fail
    rw [← hw1]
    clear hw1
    refine hsz.out.mono ?_
    rintro e w2 ⟨rfl, hb2⟩
    have HB2 := Lib.hid hb2
    clear hb2 hsz
    go_wp2_with fail
    go_loopw [4, 5] (BtRel c L0 w1) (fun _ i _ => c.len - (intOf i).toNat)
    case atStart => exact ⟨0, _, rfl, by omega, rfl, HZL.out, HS0, HB2.out⟩
    case round =>
      obtain ⟨j, A, rfl, hj, rfl, hA, hAm, hb⟩ := hrel
      obtain ⟨_, _, _, x3, _, _, _, _⟩ := block4' (blockB hbl.out hl1.out hb)
      have hbw : Below w.heap.size w wr := hb1.out.trans (hb.mono hb1.out.size)
      have hAI : (A.size : Int) ≤ 16777216 := by omega
      by_cases hlt : j < c.len
      · have hj0 : (0 : Int) ≤ (j : Int) := by omega
        have hjI : (j : Int) < (c.len : Int) := by omega
        obtain ⟨g, o, cap, hkv, hgB, hlx⟩ := HX.out.lies (by omega)
        injection hkv with e1 _ e2
        subst e1 e2
        obtain ⟨k1, n1, s1, c1, hd1⟩ := F.drop_at c j hlt
        have hlx2 := (Lies.drop j c g o hlx).below hgB (hbw.mono hB)
        rw [hd1] at hlx2
        obtain ⟨⟨v1, p0, p1, p2, p3, hkk⟩, _⟩ := lies_cons.1 hlx2
        obtain ⟨a1, b1, rfl⟩ := hkk.shape
        have hdp : c1.deep + 1 ≤ c.deep := by
          have e1 := F.drop_deep c j
          rw [hd1] at e1
          simp only [F.deep] at e1
          omega
        have hokd := F.drop_ok c j HOK.out.2.2.2
        rw [hd1] at hokd
        have hst : A.data.toList ++ (nodeL k1 n1 s1 c1.len c1.bytes ++ (c.drop (j + 1)).bytes) = L0 := by
          rw [← hAm.out, hd1]; rfl
        have hl2 := congrArg List.length hst
        simp only [List.length_append, Array.length_toList, ByteArray.size_data] at hl2
        have hcall := Lib.hid (HIH.out ⟨k1, n1, s1, c1⟩ (.slice a1 c1.len b1) B wr (by simp only; omega) ⟨hokd.1, hokd.2.1, hokd.2.2.1, hokd.2.2.2.1⟩ (by have := hbw.size; omega) hkk (by simp only; omega))
        simp only at hcall
        obtain ⟨T, hT⟩ : ∃ T : ByteArray, T = ⟨(nodeL k1 n1 s1 c1.len c1.bytes).toArray⟩ := ⟨_, rfl⟩
        rw [← hT] at hcall
        have HST : Hid ((A ++ T).data.toList ++ (c.drop (j + 1)).bytes = L0) := Lib.hid (by
          rw [hT, ByteArray.data_append, Array.toList_append, ← hst]; simp)
        have hTs : A.size + T.size ≤ L0.length := by
          have h1 := congrArg List.length HST.out
          rw [List.length_append] at h1
          simp only [Array.length_toList, ByteArray.size_data, ByteArray.size_append] at h1
          omega
        have hTI : (T.size : Int) ≤ 16777216 := by omega
        unfold nodeV at hcall
        clear hlx hlx2 hkk hd1 hokd hdp hst hl2 hT
        go_wp2_with fail
        refine hcall.out.mono ?_
        rintro e w4 ⟨rfl, hb4⟩
        have HB4 := Lib.hid (hb.trans (hb4.mono hb.size))
        clear hcall hb4
        go_wp2_with fail
        go_roundw
        case rel => exact ⟨j + 1, A ++ T, by go_num, by omega, rfl, by rw [ByteArray.size_append]; exact hTs, HST, HB4.out⟩
        case measure => rw [intOf_int, intOf_int]; omega
      · have hge : ¬ ((j : Int) < (c.len : Int)) := by omega
        have HE : Hid (A = ⟨L0.toArray⟩) := Lib.hid (by
          have := hAm.out
          rw [show j = c.len by omega, F.drop_end, F.bytes, List.append_nil] at this
          apply ByteArray.ext; apply Array.toList_inj.1
          rw [← this])
        go_wp2_with fail
        rw [HE.out]
        go_ret
        exact ⟨rfl, hbw⟩
theorem bytes_ok (D : Nat) : BytesOk D := by
  induction D with
  | zero => intro _ _ _ _ h; exact absurd h (Nat.not_lt_zero _)
  | succ D ih => exact bytes_step D ih
end Go.Proofs.Ytgdlnjhbencjkaa
