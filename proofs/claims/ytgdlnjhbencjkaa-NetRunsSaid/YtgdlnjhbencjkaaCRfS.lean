/- The reference's Right, Size, number. -/
import Derived.Test.YtgdlnjhbencjkaaCRfR
namespace Go.Proofs.Ytgdlnjhbencjkaa
open Go.RowKit

theorem right20 (x : Nd) : x.right 20 = (decide ((x.kids.deep : Int) + 1 ≤ 20) && plV x.k x.n x.s x.kids) := by
  unfold Nd.right plV
  rw [right_iff, Bool.eq_iff_iff]
  simp only [Bool.and_eq_true, decide_eq_true_eq]
  constructor
  · rintro ⟨h1, _, h2, h3⟩; exact ⟨by omega, h1, h3⟩
  · rintro ⟨h1, h2, h3⟩; exact ⟨h2, by omega, by omega, h3⟩
set_option maxRecDepth 30000 in
set_option maxHeartbeats 1000000 in
theorem rright_prog (x : Nd) (xv : Value) (w : World) (hok : x.ok) (hd : x.kids.deep ≤ 1000000) (hx : KidsAt w (· < w.heap.size) x.kids xv) :
    Calls Try.prog 45 #[nodeV x.k x.n x.s xv] w fun e w' => e = .returned (.bool (x.right 20)) ∧ Below w.heap.size w w' := by
  rw [right20]
  obtain ⟨xa, xc, rfl⟩ := hx.shape
  obtain ⟨w1, hw1⟩ : ∃ w1, w1 = w.alloc (.cells #[.int .i64 x.k, .int .u64 x.n, .string x.s, .slice xa x.kids.len xc] 76) := ⟨_, rfl⟩
  have hbl : w1.heap[w.heap.size]? = some (.cells #[.int .i64 x.k, .int .u64 x.n, .string x.s, .slice xa x.kids.len xc] 76 (0, 0)) := by rw [hw1]; exact heap_alloc_new w _
  have hb1 : Hid (Below w.heap.size w w1) := Lib.hid (by rw [hw1]; exact (Below.refl _ w).alloc (Nat.le_refl _) _)
  have hx1 : Hid (KidsAt w1 (· < w.heap.size) x.kids (.slice xa x.kids.len xc)) := Lib.hid (hx.below hb1.out)
  have hcall := Lib.hid (deep_ok (x.kids.deep + 1) x (.slice xa x.kids.len xc) w.heap.size w1 (by omega) hd hok.2.2.2 hok.2.2.1 hb1.out.size hx1.out)
  have hdI : (x.kids.deep : Int) ≤ 1000000 := by omega
  have hd0 : (0 : Int) ≤ (x.kids.deep : Int) := by omega
  have HOK := Lib.hid hok
  have hl1 : w.heap.size < w1.heap.size := by rw [hw1]; simp
  obtain ⟨p, hp⟩ : ∃ p, plV x.k x.n x.s x.kids = p := ⟨_, rfl⟩
  have HP := Lib.hid hp
  rw [hp]
  unfold nodeV at hcall ⊢
  clear hx hok hp
  by_cases hle : (x.kids.deep : Int) + 1 ≤ 20
  · have hdec : decide ((x.kids.deep : Int) + 1 ≤ 20) = true := by simpa using hle
    rw [hdec]
    go_enter Try.func45, Try.ntmps45
    go_wp2_with fail
    rw [← hw1]
    clear hw1
    refine hcall.out.mono ?_
    rintro e w2 ⟨rfl, hb2⟩
    obtain ⟨x0, x1, x2, x3, _, _, _, _⟩ := block4' (blockP hb2 hbl)
    have hpl := Lib.hid (plain_ok (x.kids.deep + 1) x (.slice xa x.kids.len xc) w.heap.size w2 (by omega) HOK.out.2.2.2 HOK.out.2.2.1 (by have := hb1.out.size; have := hb2.size; omega) (hx1.out.below (hb2.mono (by have := hb1.out.size; omega))))
    rw [HP.out] at hpl
    have HB2 := Lib.hid (hb1.out.trans (hb2.mono hb1.out.size))
    unfold nodeV at hpl
    clear hcall hb2
    go_wp2_with fail
    refine hpl.out.mono ?_
    rintro e w3 ⟨rfl, hb3⟩
    have HB3 := Lib.hid (HB2.out.trans (hb3.mono HB2.out.size))
    clear hb3 hpl
    go_wp2_with fail
    go_ret
    exact ⟨ret_bool (by simp), HB3.out⟩
  · have hdec : decide ((x.kids.deep : Int) + 1 ≤ 20) = false := by simpa using hle
    rw [hdec]
    go_enter Try.func45, Try.ntmps45
    go_wp2_with fail
    rw [← hw1]
    clear hw1
    refine hcall.out.mono ?_
    rintro e w2 ⟨rfl, hb2⟩
    have HB2 := Lib.hid (hb1.out.trans (hb2.mono hb1.out.size))
    clear hcall hb2
    go_wp2_with fail
    go_ret
    exact ⟨ret_bool (by simp), HB2.out⟩

theorem conv1 (W : World) (g c : Nat) (hg : g = W.heap.size) (hc : c < 256) : (convert 90 9 (.slice (some ⟨g, 0, none⟩) 1 1)).run Try.prog (W.alloc (.cells #[.int .u8 (c : Int)] 5)) = .ok (.string ⟨#[UInt8.ofNat c]⟩) (W.alloc (.cells #[.int .u8 (c : Int)] 5)) := by
  subst hg
  have hmc : (c : Int) = ((UInt8.ofNat c).toNat : Int) := by simp; omega
  exact run_string_block (w := (W.alloc (.cells #[.int .u8 (c : Int)] 5))) (src := 90) (dst := 9) Try.underlying90 Try.underlying5 Try.underlying9 W.heap.size 1 [UInt8.ofNat c] (by rw [heap_at_alloc, hmc]; simp [byteV])

def SzRl2 (N : Nat) (w1 : World) (n s : Value) (wr : World) : Prop :=
  ∃ (m : Nat) (A : ByteArray), n = .int .i64 m ∧ m ≤ N ∧ s = .string A ∧ A.size ≤ 4 ∧ Hid (A.data.toList ++ szL m = szL N) ∧ Below w1.heap.size w1 wr

set_option maxRecDepth 30000 in
set_option maxHeartbeats 1000000 in
theorem sizeS_ref (N : Nat) (w : World) (hN : N < 268435456) :
    Calls Try.prog 55 #[.int .i64 N] w fun e w' => e = .returned (.string ⟨(szL N).toArray⟩) ∧ Below w.heap.size w w' := by
  have hN' := Lib.hid (szL_len N hN)
  have HN := Lib.hid hN
  clear hN
  go_enter Try.func55, Try.ntmps55
  go_wp2_with fail
  go_loopw [0, 3] (SzRl2 N w) (fun n _ _ => (intOf n).toNat)
  case atStart => exact ⟨N, ⟨#[]⟩, rfl, by omega, rfl, by show 0 ≤ 4; omega, Lib.hid (by simp), Below.refl _ _⟩
  case round =>
    obtain ⟨m, A, rfl, hm, rfl, hA, hAm, hb⟩ := hrel
    have hm0 : (0 : Int) ≤ (m : Int) := by omega
    have hmI : (m : Int) ≤ 268435456 := by have := HN.out; omega
    have hAI : (A.size : Int) ≤ 4 := by omega
    by_cases hge : 128 ≤ m
    · have hgI : (128 : Int) ≤ (m : Int) := by omega
      obtain ⟨c, hc, hcl, hcm⟩ : ∃ c : Nat, (m : Int) % 128 + 128 = (c : Int) ∧ c < 256 ∧ c = m % 128 + 128 := ⟨m % 128 + 128, by omega, by omega, rfl⟩
      obtain ⟨d, hd, hdl⟩ : ∃ d : Nat, (m : Int) / 128 = (d : Int) ∧ d = m / 128 := ⟨m / 128, by omega, rfl⟩
      have hcv := conv1 wr wr.heap.size c rfl hcl
      have hcI : (c : Int) ≤ 255 := by omega
      have hc0 : (0 : Int) ≤ (c : Int) := by omega
      have hd0 : (0 : Int) ≤ (d : Int) := by omega
      have HCM := Lib.hid hcm
      have HDL := Lib.hid hdl
      have HA2 : Hid ((A ++ ⟨#[UInt8.ofNat c]⟩).data.toList ++ szL d = szL N) := Lib.hid (by
        have := hAm.out
        rw [szL_ge hge] at this
        rw [ByteArray.data_append, Array.toList_append, hdl, hcm, ← this]; simp)
      have HL : Hid ((A ++ ⟨#[UInt8.ofNat c]⟩).size ≤ 4) := Lib.hid (by
        have h1 := congrArg List.length HA2.out
        rw [List.length_append] at h1
        have h2 := hN'.out
        simp only [Array.length_toList, ByteArray.size_data] at h1
        omega)
      clear hcm hdl hcl
      go_wp2_with fail
      go_roundw
      case rel => exact ⟨d, _, rfl, by have := HDL.out; omega, rfl, HL.out, HA2, hb.alloc hb.size _⟩
      case measure => rw [intOf_int, intOf_int]; have := HDL.out; omega
    · have hgI : ¬ (128 : Int) ≤ (m : Int) := by omega
      have hcv := conv1 wr wr.heap.size m rfl (by omega)
      have hmI2 : (m : Int) ≤ 255 := by omega
      have HE : Hid ((A ++ ⟨#[UInt8.ofNat m]⟩ : ByteArray) = ⟨(szL N).toArray⟩) := Lib.hid (by
        apply ByteArray.ext; apply Array.toList_inj.1
        rw [ByteArray.data_append, Array.toList_append, ← hAm.out, szL_lt (by omega)])
      go_wp2_with fail
      rw [HE.out]
      go_ret
      exact ⟨rfl, hb.alloc hb.size _⟩

def NmRl2 (N : Nat) (w1 : World) (n s : Value) (wr : World) : Prop :=
  ∃ (m : Nat) (A : ByteArray), n = .int .u64 m ∧ m ≤ N ∧ s = .string A ∧ A.size ≤ 8 ∧ Hid (numL m ++ A.data.toList = numL N) ∧ Below w1.heap.size w1 wr

set_option maxRecDepth 30000 in
set_option maxHeartbeats 1000000 in
theorem numberS_ref (N : Nat) (w : World) (hN : N < 18446744073709551616) :
    Calls Try.prog 54 #[.int .u64 N] w fun e w' => e = .returned (.string ⟨(numL N).toArray⟩) ∧ Below w.heap.size w w' := by
  have hN' := Lib.hid (numL_len N 8 (by omega))
  have HN := Lib.hid hN
  clear hN
  go_enter Try.func54, Try.ntmps54
  go_wp2_with fail
  go_loopw [0, 3] (NmRl2 N w) (fun n _ _ => (intOf n).toNat)
  case atStart => exact ⟨N, ⟨#[]⟩, rfl, by omega, rfl, by show 0 ≤ 8; omega, Lib.hid (by simp), Below.refl _ _⟩
  case round =>
    obtain ⟨m, A, rfl, hm, rfl, hA, hAm, hb⟩ := hrel
    have hm0 : (0 : Int) ≤ (m : Int) := by omega
    have hmI : (m : Int) ≤ 18446744073709551615 := by have := HN.out; omega
    have hAI : (A.size : Int) ≤ 8 := by omega
    by_cases hge : 0 < m
    · have hgI : (0 : Int) < (m : Int) := by omega
      obtain ⟨c, hc, hcl, hcm⟩ : ∃ c : Nat, (m : Int) % 256 = (c : Int) ∧ c < 256 ∧ c = m % 256 := ⟨m % 256, by omega, by omega, rfl⟩
      obtain ⟨d, hd, hdl⟩ : ∃ d : Nat, (m : Int) / 256 = (d : Int) ∧ d = m / 256 := ⟨m / 256, by omega, rfl⟩
      have hcv := conv1 wr wr.heap.size c rfl hcl
      have hcI : (c : Int) ≤ 255 := by omega
      have hc0 : (0 : Int) ≤ (c : Int) := by omega
      have hd0 : (0 : Int) ≤ (d : Int) := by omega
      have HDL := Lib.hid hdl
      have HA2 : Hid (numL d ++ ((⟨#[UInt8.ofNat c]⟩ : ByteArray) ++ A).data.toList = numL N) := Lib.hid (by
        have := hAm.out
        rw [numL_pos hge] at this
        rw [ByteArray.data_append, Array.toList_append, hdl, hcm, ← this]; simp)
      have HL : Hid (((⟨#[UInt8.ofNat c]⟩ : ByteArray) ++ A).size ≤ 8) := Lib.hid (by
        have h1 := congrArg List.length HA2.out
        rw [List.length_append] at h1
        have h2 := hN'.out
        simp only [Array.length_toList, ByteArray.size_data] at h1
        omega)
      clear hdl hcl hcm
      go_wp2_with fail
      go_roundw
      case rel => exact ⟨d, _, rfl, by have := HDL.out; omega, rfl, HL.out, HA2, hb.alloc hb.size _⟩
      case measure => rw [intOf_int, intOf_int]; have := HDL.out; omega
    · have hgI : ¬ (0 : Int) < (m : Int) := by omega
      have HE : Hid (A = ⟨(numL N).toArray⟩) := Lib.hid (by
        apply ByteArray.ext; apply Array.toList_inj.1
        rw [← hAm.out, show m = 0 by omega, numL_zero]; rfl)
      go_wp2_with fail
      rw [HE.out]
      go_ret
      exact ⟨rfl, hb⟩
end Go.Proofs.Ytgdlnjhbencjkaa
