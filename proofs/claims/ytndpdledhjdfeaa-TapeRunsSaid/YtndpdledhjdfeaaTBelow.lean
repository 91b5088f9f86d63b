/- tape: Below; the reference's Take and Below. -/
import Derived.Test.YtndpdledhjdfeaaTTake
namespace Go.Proofs.Ytndpdledhjdfeaa
open Go.RowKit

/-- Below's answer. -/
def blArg (m : Int) : Prop := m < 1 ∨ 2147483648 < m
instance (m : Int) : Decidable (blArg m) := by unfold blArg; infer_instance
def blX (s : ByteArray) (a : Nat) (m : Int) : Int := if blArg m then 0 else if a + 8 ≤ s.size then ((nm (s.extract a (a + 8)).data.toList : Int) % m) else 0
def blE (s : ByteArray) (a : Nat) (m : Int) : Int := if blArg m then 1 else if a + 8 ≤ s.size then 0 else 2
def blA (s : ByteArray) (a : Nat) (m : Int) : Nat := if blArg m then a else if a + 8 ≤ s.size then a + 8 else a
theorem blA_le {s : ByteArray} {a : Nat} (m : Int) (h : a ≤ s.size) : blA s a m ≤ s.size := by
  unfold blA; split
  · exact h
  · split <;> omega
def BlRes (b : Nat) (s : ByteArray) (x er : Int) (a : Nat) (w : World) (e : Ending) (w' : World) : Prop :=
  e = .returned (.tuple #[.int .i64 x, .int .i64 er]) ∧ But b w w' ∧ Tp w' b s a
theorem bl_arg {s : ByteArray} {a : Nat} {m : Int} (h : blArg m) : blX s a m = 0 ∧ blE s a m = 1 ∧ blA s a m = a := ⟨if_pos h, if_pos h, if_pos h⟩
theorem bl_few {s : ByteArray} {a : Nat} {m : Int} (h : ¬ blArg m) (h8 : ¬ a + 8 ≤ s.size) : blX s a m = 0 ∧ blE s a m = 2 ∧ blA s a m = a := by
  unfold blX blE blA
  simp only [if_neg h, if_neg h8, and_self]
theorem bl_ok {s : ByteArray} {a : Nat} {m : Int} (h : ¬ blArg m) (h8 : a + 8 ≤ s.size) : blX s a m = ((nm (s.extract a (a + 8)).data.toList : Int) % m) ∧ blE s a m = 0 ∧ blA s a m = a + 8 := by
  unfold blX blE blA
  simp only [if_neg h, if_pos h8, and_self]

set_option maxHeartbeats 1000000 in
theorem below_prog {w : World} {b a : Nat} {s : ByteArray} (m : Int) (h : Tp w b s a) (ha : a ≤ s.size) (hs : s.size ≤ 2000) :
    Calls Try.prog 11 #[.pointer (some ⟨b, 0, none⟩), .int .i64 m] w (BlRes b s (blX s a m) (blE s a m) (blA s a m) w) := by
  by_cases h0 : m < 1
  · obtain ⟨e1, e2, e3⟩ := bl_arg (s := s) (a := a) (.inl h0 : blArg m)
    rw [e1, e2, e3]
    clear e1 e2 e3
    go_enter Try.func11, Try.ntmps11
    go_wp2_with fail
    go_ret2
    exact ⟨rfl, But.ofBelow (Below.refl _ _), h⟩
  by_cases h1 : 2147483648 < m
  · obtain ⟨e1, e2, e3⟩ := bl_arg (s := s) (a := a) (.inr h1 : blArg m)
    rw [e1, e2, e3]
    clear e1 e2 e3
    go_enter Try.func11, Try.ntmps11
    go_wp2_with fail
    go_ret2
    exact ⟨rfl, But.ofBelow (Below.refl _ _), h⟩
  have hA : ¬ blArg m := fun h => h.elim h0 h1
  by_cases h8 : a + 8 ≤ s.size
  · have H := Lib.hid (next_ok (n := 8) h hs h8)
    obtain ⟨e1, e2, e3⟩ := bl_ok hA h8
    rw [e1, e2, e3]
    clear e1 e2 e3
    obtain ⟨X, hX⟩ : ∃ X, X = s.extract a (a + 8) := ⟨_, rfl⟩
    rw [← hX] at H ⊢
    have HN := Lib.hid (fun w1 => number_prog X w1 (by rw [hX]; simp; omega))
    obtain ⟨y, hy⟩ : ∃ y, y = nm X.data.toList := ⟨_, rfl⟩
    have hyl : (y : Int) ≤ 18446744073709551615 := by
      have := nm_lt X.data.toList 8 (by rw [hX]; simp; omega)
      rw [List.take_of_length_le (by rw [hX]; simp; omega), ← hy] at this
      omega
    have hy0 : (0 : Int) ≤ (y : Int) := by omega
    rw [← hy] at HN ⊢
    clear hX hy
    have hm0 : 0 < m := by omega
    have hmU : IntKind.u64.wrap m = m := IntWalk.u64_in _ (by omega)
    have hr0 : 0 ≤ (y : Int) % m := Int.emod_nonneg _ (by omega)
    have hrm : (y : Int) % m < m := Int.emod_lt_of_pos _ hm0
    have hrw : IntKind.i64.wrap ((y : Int) % m) = (y : Int) % m := IntWalk.i64_in _ (by omega)
    go_enter Try.func11, Try.ntmps11
    go_wp2_with fail
    refine H.out.mono ?_
    rintro e w1 ⟨rfl, hb, ht⟩
    go_wp2_with fail
    refine (HN.out _).mono ?_
    rintro e w2 ⟨rfl, n, rfl⟩
    go_wp2_with fail
    go_ret2
    exact ⟨rfl, hb.trans (But.ofBelow ((Same.of _ _).below _)), tp_drewN ht n⟩
  · have H := Lib.hid (next_few (n := 8) h ha hs (by omega))
    obtain ⟨e1, e2, e3⟩ := bl_few hA h8
    rw [e1, e2, e3]
    clear e1 e2 e3
    go_enter Try.func11, Try.ntmps11
    go_wp2_with fail
    refine H.out.mono ?_
    rintro e w1 ⟨rfl, hb, ht⟩
    go_wp2_with fail
    go_ret2
    exact ⟨rfl, hb, ht⟩
end Go.Proofs.Ytndpdledhjdfeaa
