/- tape: next, Take. -/
import Derived.Test.YtndpdledhjdfeaaTBase
namespace Go.Proofs.Ytndpdledhjdfeaa
open Go.RowKit

/-- What is answered: a text and an error; the tape's place behind it. -/
def TkRes (b : Nat) (s x : ByteArray) (er : Int) (a : Nat) (w : World) (e : Ending) (w' : World) : Prop :=
  e = .returned (.tuple #[.string x, .int .i64 er]) ∧ But b w w' ∧ Tp w' b s a

set_option maxHeartbeats 1000000 in
theorem next_few {w : World} {b a : Nat} {s : ByteArray} {n : Int} (h : Tp w b s a) (ha : a ≤ s.size) (hs : s.size ≤ 2000) (hn : (s.size : Int) - (a : Int) < n) :
    Calls Try.prog 16 #[.pointer (some ⟨b, 0, none⟩), .int .i64 n] w (TkRes b s ⟨#[]⟩ 2 a w) := by
  obtain ⟨c0, c1, c2⟩ := tp_cells h
  have H := Lib.hid (load_prog b 1 a w c1)
  have haI : (a : Int) ≤ (s.size : Int) := by omega
  have hsI : (s.size : Int) ≤ 2000 := by omega
  have ha0 : (0 : Int) ≤ (a : Int) := by omega
  go_enter Try.func16, Try.ntmps16
  go_wp2_with fail
  go_loopw [6] (fun _ wr => wr = w) (fun _ _ => 0)
  case atStart => rfl
  case round =>
    subst hrel
    go_wp2_with fail
    refine H.out.mono ?_
    rintro e w1 ⟨rfl, rfl⟩
    go_wp2_with fail
    go_ret2
    exact ⟨rfl, But.ofBelow (Below.refl _ _), h⟩

set_option maxHeartbeats 1000000 in
theorem next_ok {w : World} {b a n : Nat} {s : ByteArray} (h : Tp w b s a) (hs : s.size ≤ 2000) (hn : a + n ≤ s.size) :
    Calls Try.prog 16 #[.pointer (some ⟨b, 0, none⟩), .int .i64 n] w (TkRes b s (s.extract a (a + n)) 0 (a + n) w) := by
  obtain ⟨c0, c1, c2⟩ := tp_cells h
  have H := Lib.hid (load_prog b 1 a w c1)
  have C := Lib.hid (cas_prog b 1 a ((a : Int) + (n : Int)) w c1 c2)
  have haI : (a : Int) + (n : Int) ≤ (s.size : Int) := by omega
  have hnI : ¬ (s.size : Int) - (a : Int) < (n : Int) := by omega
  have hsI : (s.size : Int) ≤ 2000 := by omega
  have ha0 : (0 : Int) ≤ (a : Int) := by omega
  have hn0 : (0 : Int) ≤ (n : Int) := by omega
  have hT := tp_set (m := a + n) h
  have hT2 : Hid (Tp (w.setCell ⟨b, 1, none⟩ (.int .i64 ((a : Int) + (n : Int)))) b s (a + n)) := Lib.hid (by simpa using hT)
  obtain ⟨d0, d1, d2⟩ := tp_cells hT2.out
  have HS := Lib.hid (clone_prog (s.extract a (a + n)) (w.setCell ⟨b, 1, none⟩ (.int .i64 ((a : Int) + (n : Int)))) (by simp; omega))
  clear hT
  go_enter Try.func16, Try.ntmps16
  go_wp2_with fail
  go_loopw [6] (fun _ wr => wr = w) (fun _ _ => 0)
  case atStart => rfl
  case round =>
    subst hrel
    go_wp2_with fail
    refine H.out.mono ?_
    rintro e w1 ⟨rfl, rfl⟩
    go_wp2_with fail
    refine C.out.mono ?_
    rintro e w1 ⟨rfl, rfl⟩
    go_wp2_with fail
    refine HS.out.mono ?_
    rintro e w2 ⟨rfl, hb⟩
    go_wp2_with fail
    go_ret2
    exact ⟨rfl, (But.set _ _ _ _).trans (But.ofBelow hb), tp_below hT2.out hb⟩
end Go.Proofs.Ytndpdledhjdfeaa
