/- The reference's Take and Below. -/
import Derived.Test.YtndpdledhjdfeaaTBelow
namespace Go.Proofs.Ytndpdledhjdfeaa
open Go.RowKit

/-- Block b is the reference's tape. -/
def Rp (w : World) (b : Nat) (s : ByteArray) (n : Nat) : Prop := w.heap[b]? = some (.cells #[.string s, .int .i64 n] 28 (0, 0))
theorem rp_lt {w : World} {b n : Nat} {s : ByteArray} (h : Rp w b s n) : b < w.heap.size := by
  rcases Nat.lt_or_ge b w.heap.size with h1 | h1
  · exact h1
  · unfold Rp at h; rw [Array.getElem?_eq_none h1] at h; cases h
theorem rp_cells {w : World} {b n : Nat} {s : ByteArray} (h : Rp w b s n) : w.cell? ⟨b, 0, none⟩ = some (.string s) ∧ w.cell? ⟨b, 1, none⟩ = some (.int .i64 n) ∧ w.frozen? ⟨b, 1, none⟩ = false := by
  unfold Rp at h
  simp [World.cell?, World.frozen?, h]
theorem rp_keep {w w' : World} {b c n : Nat} {s : ByteArray} (h : Rp w c s n) (hb : But b w w') (hn : c ≠ b) : Rp w' c s n := by
  unfold Rp at *; rw [hb.block c (rp_lt h) hn]; exact h
theorem rp_below {w w' : World} {c n : Nat} {s : ByteArray} (h : Rp w c s n) (hb : Below w.heap.size w w') : Rp w' c s n := by
  unfold Rp at *; rw [hb.block c (rp_lt h)]; exact h
theorem rp_set {w : World} {b n m : Nat} {s : ByteArray} (h : Rp w b s n) : Rp (w.setCell ⟨b, 1, none⟩ (.int .i64 m)) b s m := by
  unfold Rp at *
  exact heap_setCell_same w b 1 _ _ _ h
theorem rp_drewN {w : World} {b a : Nat} {s : ByteArray} (h : Rp w b s a) (n : Nat) : Rp (w.drewN n) b s a := by
  unfold Rp at *
  rw [← h]; rfl
theorem rp_step {w : World} {b a : Nat} {s : ByteArray} (m : Nat) (h : Rp w b s a) (q : Nat) : Rp ((w.drewN q).setCell ⟨b, 1, none⟩ (.int .i64 ((a : Int) + (m : Int)))) b s (a + m) := by
  simpa using rp_set (m := a + m) (rp_drewN h q)
def RkRes (b : Nat) (s x : ByteArray) (er : Int) (a : Nat) (w : World) (e : Ending) (w' : World) : Prop :=
  e = .returned (.tuple #[.string x, .int .i64 er]) ∧ But b w w' ∧ Rp w' b s a
def RlRes (b : Nat) (s : ByteArray) (x er : Int) (a : Nat) (w : World) (e : Ending) (w' : World) : Prop :=
  e = .returned (.tuple #[.int .i64 x, .int .i64 er]) ∧ But b w w' ∧ Rp w' b s a

set_option maxHeartbeats 1000000 in
theorem take_ref {w : World} {b a : Nat} {s : ByteArray} (n : Int) (h : Rp w b s a) (ha : a ≤ s.size) (hs : s.size ≤ 2000) :
    Calls Try.prog 10 #[.pointer (some ⟨b, 0, none⟩), .int .i64 n] w (RkRes b s (tkX s a n) (tkE s a n) (tkA s a n) w) := by
  obtain ⟨c0, c1, c2⟩ := rp_cells h
  have haI : (a : Int) ≤ (s.size : Int) := by omega
  have hsI : (s.size : Int) ≤ 2000 := by omega
  have ha0 : (0 : Int) ≤ (a : Int) := by omega
  by_cases h0 : n < 0
  · obtain ⟨e1, e2, e3⟩ := tk_neg (s := s) (a := a) h0
    rw [e1, e2, e3]
    clear e1 e2 e3
    go_enter Try.func10, Try.ntmps10
    go_wp2_with fail
    go_ret2
    exact ⟨rfl, But.ofBelow (Below.refl _ _), h⟩
  by_cases h1 : (s.size : Int) - (a : Int) < n
  · obtain ⟨e1, e2, e3⟩ := tk_few (s := s) (a := a) (by omega) h1
    rw [e1, e2, e3]
    clear e1 e2 e3
    go_enter Try.func10, Try.ntmps10
    go_wp2_with fail
    go_quiet (fail)
    go_wp2_with fail
    go_ret2
    exact ⟨rfl, But.ofBelow ((Same.of _ _).below _), rp_drewN h _⟩
  · obtain ⟨m, rfl⟩ : ∃ m : Nat, n = m := ⟨n.toNat, by omega⟩
    have hm : a + m ≤ s.size := by omega
    obtain ⟨e1, e2, e3⟩ := tk_ok (s := s) (a := a) hm
    rw [e1, e2, e3]
    have hmI : (a : Int) + (m : Int) ≤ (s.size : Int) := by omega
    have hm0 : (0 : Int) ≤ (m : Int) := by omega
    clear e1 e2 e3 h1 h0 hm
    go_enter Try.func10, Try.ntmps10
    go_wp2_with fail
    go_quiet (fail)
    go_wp2_with fail
    go_quiet (fail)
    go_wp2_with fail
    go_ret2
    refine ⟨rfl, (But.ofBelow ((Same.of _ _).below _)).trans (But.set _ _ _ _), ?_⟩
    exact rp_step m h _

theorem below_ref_arg {w : World} {b a : Nat} {s : ByteArray} (m : Int) (h : Rp w b s a) (hA : blArg m) :
    Calls Try.prog 12 #[.pointer (some ⟨b, 0, none⟩), .int .i64 m] w (RlRes b s 0 1 a w) := by
  by_cases h0 : m < 1
  · go_enter Try.func12, Try.ntmps12
    go_wp2_with fail
    go_ret2
    exact ⟨rfl, But.ofBelow (Below.refl _ _), h⟩
  · have h1 : 2147483648 < m := hA.resolve_left h0
    go_enter Try.func12, Try.ntmps12
    go_wp2_with fail
    go_ret2
    exact ⟨rfl, But.ofBelow (Below.refl _ _), h⟩

theorem nm_mod (l : List UInt8) (k : Nat) (h : k < l.length) (m : Int) : ((nm (l.take (k + 1)) : Nat) : Int) % m = ((nm (l.take k) : Int) % m * 256 + ((l[k]).toNat : Int)) % m := by
  rw [List.take_add_one, List.getElem?_eq_getElem h, Option.toList_some, nm_snoc]
  rw [Int.add_emod (_ % m * 256), Int.mul_emod (_ % m), Int.emod_emod, ← Int.mul_emod, ← Int.add_emod]
  simp

set_option maxHeartbeats 1000000 in
theorem below_ref {w : World} {b a : Nat} {s : ByteArray} (m : Int) (h : Rp w b s a) (ha : a ≤ s.size) (hs : s.size ≤ 2000) :
    Calls Try.prog 12 #[.pointer (some ⟨b, 0, none⟩), .int .i64 m] w (RlRes b s (blX s a m) (blE s a m) (blA s a m) w) := by
  by_cases hA : blArg m
  · obtain ⟨e1, e2, e3⟩ := bl_arg (s := s) (a := a) hA
    rw [e1, e2, e3]
    exact below_ref_arg m h hA
  have h0 : ¬ m < 1 := fun h => hA (.inl h)
  have h1 : ¬ 2147483648 < m := fun h => hA (.inr h)
  by_cases h8 : a + 8 ≤ s.size
  · have H : Hid (Calls Try.prog 10 #[.pointer (some ⟨b, 0, none⟩), .int .i64 8] w (RkRes b s (s.extract a (a + 8)) 0 (a + 8) w)) := Lib.hid (by
      have := take_ref (8 : Nat) h ha hs
      obtain ⟨e1, e2, e3⟩ := tk_ok (s := s) (a := a) h8
      rwa [e1, e2, e3] at this)
    obtain ⟨e1, e2, e3⟩ := bl_ok hA h8
    rw [e1, e2, e3]
    clear e1 e2 e3
    obtain ⟨X, hX⟩ : ∃ X, X = s.extract a (a + 8) := ⟨_, rfl⟩
    rw [← hX] at H ⊢
    have hXs : Hid (X.data.toList.length = 8) := Lib.hid (by rw [hX]; simp; omega)
    have hX8 : (8 : Int) ≤ (X.size : Int) := by rw [hX]; simp; omega
    clear hX
    have hm0 : 0 < m := by omega
    have hm1 : m ≤ 2147483648 := by omega
    go_enter Try.func12, Try.ntmps12
    go_wp2_with fail
    refine H.out.mono ?_
    rintro e w1 ⟨rfl, hb, ht⟩
    go_wp2_with fail
    go_loopw [8, 9] (fun r i wr => ∃ k : Nat, k ≤ 8 ∧ i = .int .i64 k ∧ r = .int .i64 (((nm (X.data.toList.take k) : Nat) : Int) % m) ∧ Same w1 wr) (fun _ i _ => 8 - (intOf i).toNat)
    case atStart => exact ⟨0, by omega, rfl, by simp [nm], Same.refl _⟩
    case round =>
      obtain ⟨k, hk, rfl, rfl, hsm⟩ := hrel
      obtain ⟨r, hr⟩ : ∃ r, r = ((nm (X.data.toList.take k) : Nat) : Int) % m := ⟨_, rfl⟩
      have hr0 : 0 ≤ r := by rw [hr]; exact Int.emod_nonneg _ (by omega)
      have hrm : r < 2147483648 := by have := Int.emod_lt_of_pos ((nm (X.data.toList.take k) : Nat) : Int) hm0; omega
      by_cases hlt : k < 8
      · have hn : Hid (((nm (X.data.toList.take (k + 1)) : Nat) : Int) % m = (r * 256 + (X[k].toNat : Int)) % m) := Lib.hid (by
          rw [nm_mod X.data.toList k (by rw [hXs.out]; exact hlt), hr]; rfl)
        rw [← hr]
        have HR := Lib.hid hr
        clear hr
        have hkI : (k : Int) < (X.size : Int) := by omega
        have hkI8 : (k : Int) < 8 := by omega
        have hbk := X[k].toNat_lt
        have hbI : (X[k].toNat : Int) ≤ 255 := by omega
        have hq0 : 0 ≤ (r * 256 + (X[k].toNat : Int)) % m := Int.emod_nonneg _ (by omega)
        have hqm : (r * 256 + (X[k].toNat : Int)) % m < m := Int.emod_lt_of_pos _ hm0
        go_wp2_with fail
        go_roundw
        case rel => exact ⟨k + 1, by omega, by simp, by rw [hn.out], hsm⟩
        case measure => rw [intOf_int, intOf_int]; omega
      · have HK : Hid (k = 8) := Lib.hid (by omega)
        have hge : ¬ (k : Int) < 8 := by omega
        rw [← hr]
        have HR := Lib.hid hr
        clear hr
        go_wp2_with fail
        go_ret2
        refine ⟨?_, hb.trans (But.ofBelow (hsm.below _)), ?_⟩
        · rw [HR.out, List.take_of_length_le (by rw [hXs.out, HK.out]; omega)]; rfl
        · obtain ⟨q, rfl⟩ := hsm; exact rp_drewN ht q
  · have H : Hid (Calls Try.prog 10 #[.pointer (some ⟨b, 0, none⟩), .int .i64 8] w (RkRes b s ⟨#[]⟩ 2 a w)) := Lib.hid (by
      have := take_ref 8 h ha hs
      obtain ⟨e1, e2, e3⟩ := tk_few (s := s) (a := a) (n := 8) (by omega) (by omega)
      rwa [e1, e2, e3] at this)
    obtain ⟨e1, e2, e3⟩ := bl_few hA h8
    rw [e1, e2, e3]
    clear e1 e2 e3
    go_enter Try.func12, Try.ntmps12
    go_wp2_with fail
    refine H.out.mono ?_
    rintro e w1 ⟨rfl, hb, ht⟩
    go_wp2_with fail
    go_ret2
    exact ⟨rfl, hb, ht⟩
end Go.Proofs.Ytndpdledhjdfeaa
