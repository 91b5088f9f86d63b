/- vidimusref03.node: texts, other letters, no size. -/
import Derived.Test.YtaojcbdljgcfgaaCNd
namespace Go.Proofs.Ytaojcbdljgcfgaa
open Go.RowKit

set_option maxRecDepth 30000 in
set_option maxHeartbeats 2000000 in
theorem node_txt (s : ByteArray) (A d E m : Nat) (w : World) (hs : s.size ≤ 100000000) (hA : A < s.size) (hE : E ≤ s.size) (hm : Lim m) (hc : s[A].toNat = 115)
    (hz : szP 4 (s.data.toList.drop (A + 1)) = some (m, s.data.toList.drop E)) :
    Calls Try.prog 30 #[.string s, .int .i64 A, .int .i64 ((d + 1 : Nat) : Int)] w
      (NRes (txtO (txtP m (s.data.toList.drop E))) s w.heap.size w) := by
  have hsI : (s.size : Int) ≤ 100000000 := by omega
  have hAI : ¬ ((s.size : Int) ≤ (A : Int)) := by omega
  have hAs : (A : Int) ≤ 100000000 := by omega
  have hA1 : (0 : Int) ≤ (A : Int) := by omega
  have hdI : ¬ (((d + 1 : Nat) : Int) < 1) := by omega
  obtain ⟨dd, hdd⟩ : ∃ dd : Int, dd = ((d + 1 : Nat) : Int) := ⟨_, rfl⟩
  rw [← hdd] at hdI ⊢
  have hcall := Lib.hid (size_some s ((A : Int) + 1) (A + 1) m E (two w) (by omega) hs (by omega) hE hz)
  have hce : ((s[A].toNat : Int) == 110) = false := by rw [hc]; rfl
  have hce2 : ((s[A].toNat : Int) == 115) = true := by rw [hc]; rfl
  clear hc
  obtain ⟨O, hO⟩ : ∃ O, txtO (txtP m (s.data.toList.drop E)) = O := ⟨_, rfl⟩
  have HO := Lib.hid hO
  rw [hO]
  clear hO
  have hEI : (E : Int) ≤ (s.size : Int) := by omega
  have hE0 : (0 : Int) ≤ (E : Int) := by omega
  have hm0 : (0 : Int) ≤ (m : Int) := by omega
  have hmI : (m : Int) ≤ 268435456 := by unfold Lim at hm; omega
  have HM := Lib.hid hm
  have HDD := Lib.hid hdd
  clear hz hdd hm
  unfold two at hcall
  by_cases hl : s.size < E + m
  · have hp : Hid (O = none) := Lib.hid (by rw [← HO.out, txtP, if_pos (by simp; omega)]; rfl)
    have hl' : (s.size : Int) < (E : Int) + (m : Int) := by omega
    go_enter Try.func30, Try.ntmps30
    go_wp2_with fail
    refine hcall.out.mono ?_
    rintro e w1 ⟨rfl, rfl⟩
    go_wp2_with fail
    exact bodyPost_ret (v := .tuple #[nodeV 0 0 ⟨#[]⟩ (.slice none 0 0), .int .i64 (-1)]) (by simp [results, Try.results30, go_sem, nodeV]) rfl ⟨⟨0, 0, ⟨#[]⟩, .nil⟩, none, 0, 0, _, rfl, two_below w, .inl ⟨rfl, hp.out⟩⟩
  · have hl' : ¬ (s.size : Int) < (E : Int) + (m : Int) := by omega
    have hl2 : (E : Int) + (m : Int) ≤ (s.size : Int) := by omega
    have hl3 : (E : Int) ≤ (E : Int) + (m : Int) := by omega
    have hp : Hid (O = some (⟨1, 0, s.extract E (E + m), .nil⟩, s.data.toList.drop (E + m))) := Lib.hid (by
      have e1 : (⟨((s.data.toList.drop E).take m).toArray⟩ : ByteArray) = s.extract E (E + m) := by
        apply ByteArray.ext
        apply Array.ext'
        simp [List.extract_eq_take_drop]
      rw [← HO.out, txtP, if_neg (by simp; omega), e1, List.drop_drop]; rfl)
    go_enter Try.func30, Try.ntmps30
    go_wp2_with fail
    refine hcall.out.mono ?_
    rintro e w1 ⟨rfl, rfl⟩
    go_wp2_with fail
    refine bodyPost_ret (v := .tuple #[nodeV 1 0 (s.extract E (E + m)) (.slice none 0 0), .int .i64 ((E : Int) + (m : Int))]) (by simp [results, Try.results30, go_sem, nodeV]) rfl ⟨⟨1, 0, s.extract E (E + m), .nil⟩, none, 0, 0, _, rfl, ?_, .inr ⟨E + m, by simp, by omega, hp.out, .inl ⟨rfl, rfl⟩⟩⟩
    exact ((Below.refl _ w).alloc (Nat.le_refl _) _).alloc (by simp) _

set_option maxRecDepth 30000 in
set_option maxHeartbeats 2000000 in
theorem node_oth (s : ByteArray) (A d E m : Nat) (w : World) (hs : s.size ≤ 100000000) (hA : A < s.size) (hE : E ≤ s.size) (hm : Lim m) (hc1 : s[A].toNat ≠ 110) (hc2 : s[A].toNat ≠ 115) (hc3 : s[A].toNat ≠ 108)
    (hz : szP 4 (s.data.toList.drop (A + 1)) = some (m, s.data.toList.drop E)) :
    Calls Try.prog 30 #[.string s, .int .i64 A, .int .i64 ((d + 1 : Nat) : Int)] w
      (NRes (none) s w.heap.size w) := by
  have hsI : (s.size : Int) ≤ 100000000 := by omega
  have hAI : ¬ ((s.size : Int) ≤ (A : Int)) := by omega
  have hAs : (A : Int) ≤ 100000000 := by omega
  have hA1 : (0 : Int) ≤ (A : Int) := by omega
  have hdI : ¬ (((d + 1 : Nat) : Int) < 1) := by omega
  obtain ⟨dd, hdd⟩ : ∃ dd : Int, dd = ((d + 1 : Nat) : Int) := ⟨_, rfl⟩
  rw [← hdd] at hdI ⊢
  have hcall := Lib.hid (size_some s ((A : Int) + 1) (A + 1) m E (two w) (by omega) hs (by omega) hE hz)
  have hce : ((s[A].toNat : Int) == 110) = false := by simp; omega
  have hce2 : ((s[A].toNat : Int) == 115) = false := by simp; omega
  have hce3 : ((s[A].toNat : Int) == 108) = false := by simp; omega
  clear hc1 hc2 hc3
  have hEI : (E : Int) ≤ (s.size : Int) := by omega
  have hE0 : (0 : Int) ≤ (E : Int) := by omega
  have hm0 : (0 : Int) ≤ (m : Int) := by omega
  have hmI : (m : Int) ≤ 268435456 := by unfold Lim at hm; omega
  have HM := Lib.hid hm
  have HDD := Lib.hid hdd
  clear hz hdd hm
  unfold two at hcall
  go_enter Try.func30, Try.ntmps30
  go_wp2_with fail
  refine hcall.out.mono ?_
  rintro e w1 ⟨rfl, rfl⟩
  go_wp2_with fail
  exact bodyPost_ret (v := .tuple #[nodeV 0 0 ⟨#[]⟩ (.slice none 0 0), .int .i64 (-1)]) (by simp [results, Try.results30, go_sem, nodeV]) rfl ⟨⟨0, 0, ⟨#[]⟩, .nil⟩, none, 0, 0, _, rfl, two_below w, .inl ⟨rfl, rfl⟩⟩

set_option maxRecDepth 30000 in
set_option maxHeartbeats 2000000 in
theorem node_nosize (s : ByteArray) (A d : Nat) (w : World) (hs : s.size ≤ 100000000) (hA : A < s.size) (hz : szP 4 (s.data.toList.drop (A + 1)) = none) :
    Calls Try.prog 30 #[.string s, .int .i64 A, .int .i64 ((d + 1 : Nat) : Int)] w (NRes none s w.heap.size w) := by
  have hsI : (s.size : Int) ≤ 100000000 := by omega
  have hAI : ¬ ((s.size : Int) ≤ (A : Int)) := by omega
  have hAs : (A : Int) ≤ 100000000 := by omega
  have hA1 : (0 : Int) ≤ (A : Int) := by omega
  have hdI : ¬ (((d + 1 : Nat) : Int) < 1) := by omega
  obtain ⟨dd, hdd⟩ : ∃ dd : Int, dd = ((d + 1 : Nat) : Int) := ⟨_, rfl⟩
  rw [← hdd] at hdI ⊢
  have hcall := Lib.hid (size_none s ((A : Int) + 1) (A + 1) (two w) (by omega) hs (by omega) hz)
  clear hz hdd
  unfold two at hcall
  go_enter Try.func30, Try.ntmps30
  go_wp2_with fail
  refine hcall.out.mono ?_
  rintro e w1 ⟨m, rfl, rfl⟩
  go_wp2_with fail
  exact bodyPost_ret (v := .tuple #[nodeV 0 0 ⟨#[]⟩ (.slice none 0 0), .int .i64 (-1)]) (by simp [results, Try.results30, go_sem, nodeV]) rfl ⟨⟨0, 0, ⟨#[]⟩, .nil⟩, none, 0, 0, _, rfl, two_below w, .inl ⟨rfl, rfl⟩⟩
end Go.Proofs.Ytaojcbdljgcfgaa
