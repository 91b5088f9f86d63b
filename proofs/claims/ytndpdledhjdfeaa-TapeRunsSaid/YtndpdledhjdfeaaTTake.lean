/- tape: Take, Taken, Left, number. -/
import Derived.Test.YtndpdledhjdfeaaTNext
import Derived.Laws.Bits64b
namespace Go.Proofs.Ytndpdledhjdfeaa
open Go.RowKit

def tkOk (s : ByteArray) (a : Nat) (n : Int) : Prop := 0 ≤ n ∧ (a : Int) + n ≤ (s.size : Int)
instance (s : ByteArray) (a : Nat) (n : Int) : Decidable (tkOk s a n) := by unfold tkOk; infer_instance
def tkX (s : ByteArray) (a : Nat) (n : Int) : ByteArray := if tkOk s a n then s.extract a (a + n.toNat) else ⟨#[]⟩
def tkE (s : ByteArray) (a : Nat) (n : Int) : Int := if n < 0 then 1 else if (a : Int) + n ≤ (s.size : Int) then 0 else 2
def tkA (s : ByteArray) (a : Nat) (n : Int) : Nat := if tkOk s a n then a + n.toNat else a
theorem tkA_le {s : ByteArray} {a : Nat} (n : Int) (h : a ≤ s.size) : tkA s a n ≤ s.size := by
  unfold tkA; split
  · rename_i h1; unfold tkOk at h1; omega
  · exact h
theorem tk_ok {s : ByteArray} {a m : Nat} (h : a + m ≤ s.size) : tkX s a m = s.extract a (a + m) ∧ tkE s a m = 0 ∧ tkA s a m = a + m := by
  have h1 : tkOk s a m := ⟨by omega, by omega⟩
  refine ⟨by rw [tkX, if_pos h1]; simp, ?_, by rw [tkA, if_pos h1]; simp⟩
  rw [tkE, if_neg (by omega), if_pos (by omega)]
theorem tk_few {s : ByteArray} {a : Nat} {n : Int} (h0 : 0 ≤ n) (h : (s.size : Int) - (a : Int) < n) : tkX s a n = ⟨#[]⟩ ∧ tkE s a n = 2 ∧ tkA s a n = a := by
  have h1 : ¬ tkOk s a n := fun ⟨_, h2⟩ => by omega
  exact ⟨by rw [tkX, if_neg h1], by rw [tkE, if_neg (by omega), if_neg (by omega)], by rw [tkA, if_neg h1]⟩
theorem tk_neg {s : ByteArray} {a : Nat} {n : Int} (h0 : n < 0) : tkX s a n = ⟨#[]⟩ ∧ tkE s a n = 1 ∧ tkA s a n = a := by
  have h1 : ¬ tkOk s a n := fun ⟨h2, _⟩ => by omega
  exact ⟨by rw [tkX, if_neg h1], by rw [tkE, if_pos h0], by rw [tkA, if_neg h1]⟩
theorem TkRes.mono {b : Nat} {s x x' : ByteArray} {er er' : Int} {a a' : Nat} {w w' : World} {e : Ending} (h : TkRes b s x er a w e w') (h1 : x = x') (h2 : er = er') (h3 : a = a') : TkRes b s x' er' a' w e w' := by
  subst h1; subst h2; subst h3; exact h

set_option maxHeartbeats 1000000 in
theorem take_prog {w : World} {b a : Nat} {s : ByteArray} (n : Int) (h : Tp w b s a) (ha : a ≤ s.size) (hs : s.size ≤ 2000) :
    Calls Try.prog 9 #[.pointer (some ⟨b, 0, none⟩), .int .i64 n] w (TkRes b s (tkX s a n) (tkE s a n) (tkA s a n) w) := by
  by_cases h0 : n < 0
  · obtain ⟨e1, e2, e3⟩ := tk_neg (s := s) (a := a) h0
    rw [e1, e2, e3]
    clear e1 e2 e3
    go_enter Try.func9, Try.ntmps9
    go_wp2_with fail
    go_ret2
    exact ⟨rfl, But.ofBelow (Below.refl _ _), h⟩
  by_cases h1 : (s.size : Int) - (a : Int) < n
  · have H := Lib.hid (next_few h ha hs h1)
    obtain ⟨e1, e2, e3⟩ := tk_few (s := s) (a := a) (by omega) h1
    rw [e1, e2, e3]
    clear e1 e2 e3 h1
    go_enter Try.func9, Try.ntmps9
    go_wp2_with fail
    refine H.out.mono ?_
    rintro e w1 ⟨rfl, hb, ht⟩
    go_wp2_with fail
    go_ret2
    exact ⟨rfl, hb, ht⟩
  · obtain ⟨m, rfl⟩ : ∃ m : Nat, n = m := ⟨n.toNat, by omega⟩
    have hm : a + m ≤ s.size := by omega
    have H := Lib.hid (next_ok h hs hm)
    obtain ⟨e1, e2, e3⟩ := tk_ok (s := s) (a := a) hm
    rw [e1, e2, e3]
    clear e1 e2 e3 h1 hm
    go_enter Try.func9, Try.ntmps9
    go_wp2_with fail
    refine H.out.mono ?_
    rintro e w1 ⟨rfl, hb, ht⟩
    go_wp2_with fail
    go_ret2
    exact ⟨rfl, hb, ht⟩

theorem tp_drewN {w : World} {b a : Nat} {s : ByteArray} (h : Tp w b s a) (n : Nat) : Tp (w.drewN n) b s a := by
  unfold Tp at *
  rw [← h]; rfl
theorem taken_prog {w : World} {b a : Nat} {s : ByteArray} (h : Tp w b s a) (ha : a ≤ s.size) (hs : s.size ≤ 2000) :
    Calls Try.prog 13 #[.pointer (some ⟨b, 0, none⟩)] w fun e w' => e = .returned (.int .i64 a) ∧ w' = w := by
  obtain ⟨c0, c1, c2⟩ := tp_cells h
  have H := Lib.hid (load_prog b 1 a w c1)
  have haI : (a : Int) ≤ 2000 := by omega
  have ha0 : (0 : Int) ≤ (a : Int) := by omega
  go_enter Try.func13, Try.ntmps13
  go_wp2_with fail
  refine H.out.mono ?_
  rintro e w1 ⟨rfl, rfl⟩
  go_wp2_with fail
  go_ret
  exact ⟨rfl, rfl⟩

set_option maxHeartbeats 1000000 in
theorem left_prog {w : World} {b a : Nat} {s : ByteArray} (h : Tp w b s a) (ha : a ≤ s.size) (hs : s.size ≤ 2000) :
    Calls Try.prog 14 #[.pointer (some ⟨b, 0, none⟩)] w fun e w' => e = .returned (.int .i64 ((s.size : Int) - (a : Int))) ∧ Same w w' := by
  obtain ⟨c0, c1, c2⟩ := tp_cells h
  have haI : (a : Int) ≤ 2000 := by omega
  have ha0 : (0 : Int) ≤ (a : Int) := by omega
  have hsI : (s.size : Int) ≤ 2000 := by omega
  go_enter Try.func14, Try.ntmps14
  go_wp2_with fail
  go_quiet ((go_at_call 13; exact quietE ((taken_prog (tp_drewN h _) ha hs).mono fun _ _ h => ⟨h.1, h.2.symm⟩)))
  go_wp2_with fail
  go_ret
  exact ⟨rfl, Same.of w _⟩

/-- Bytes as a number, the highest first. -/
def nm (l : List UInt8) : Nat := l.foldl (fun n b => n * 256 + b.toNat) 0
theorem nm_snoc (l : List UInt8) (b : UInt8) : nm (l ++ [b]) = nm l * 256 + b.toNat := by simp [nm]
theorem nm_lt (l : List UInt8) : ∀ k, k ≤ l.length → nm (l.take k) < 256 ^ k
  | 0, _ => by simp [nm]
  | k + 1, h => by
    have h1 := nm_lt l k (by omega)
    rw [List.take_add_one, List.getElem?_eq_getElem (by omega), Option.toList_some, nm_snoc, Nat.pow_succ]
    have := (l[k]'(by omega)).toNat_lt
    omega
theorem or256 (x b : Nat) (hx : x < 72057594037927936) (hb : b < 256) : bits BinOp.or IntKind.u64 ((x : Int) * 256) (IntKind.u64.wrap (b : Int)) = ((x * 256 + b : Nat) : Int) := by
  rw [show IntKind.u64.wrap (b : Int) = (b : Int) from IntWalk.u64_in _ (by omega)]
  have h := bits_or_u64_nat (x * 256) b (by omega) (by omega)
  have e : x * 256 ||| b = x * 256 + b := by
    have := Nat.two_pow_add_eq_or_of_lt (i := 8) (b := b) (by omega) x
    rw [Nat.mul_comm x 256]; exact this.symm
  rw [e] at h
  simpa using h
theorem intOf_int (k : IntKind) (n : Int) : intOf (.int k n) = n := rfl
set_option maxHeartbeats 1000000 in
theorem number_prog (s : ByteArray) (w : World) (hs : s.size = 8) :
    Calls Try.prog 17 #[.string s] w fun e w' => e = .returned (.int .u64 (nm s.data.toList)) ∧ Same w w' := by
  have h1 : (s.size : Int) ≤ 8 := by omega
  have h2 : (8 : Int) ≤ (s.size : Int) := by omega
  have HS := Lib.hid hs
  clear hs
  go_enter Try.func17, Try.ntmps17
  go_wp2_with fail
  go_loopw [3, 7] (fun n i wr => ∃ k : Nat, k ≤ 8 ∧ i = .int .i64 k ∧ n = .int .u64 (nm (s.data.toList.take k)) ∧ Same w wr) (fun _ i _ => 8 - (intOf i).toNat)
  case atStart => exact ⟨0, by omega, rfl, rfl, Same.refl w⟩
  case round =>
    obtain ⟨k, hk, rfl, rfl, hsm⟩ := hrel
    by_cases hlt : k < 8
    · have hltI : (k : Int) < (s.size : Int) := by omega
      have hb : nm (s.data.toList.take k) < 256 ^ k := by
        exact nm_lt s.data.toList k (by have := HS.out; simp; omega)
      obtain ⟨x, hx⟩ : ∃ x, x = nm (s.data.toList.take k) := ⟨_, rfl⟩
      rw [← hx] at hb ⊢
      have HX := Lib.hid hx
      clear hx
      have hb7 : x < 256 ^ 7 := Nat.lt_of_lt_of_le hb (Nat.pow_le_pow_right (by omega) (by omega))
      have hor := or256 x s[k].toNat hb7 s[k].toNat_lt
      have hsn : Hid (nm (s.data.toList.take (k + 1)) = x * 256 + s[k].toNat) := Lib.hid (by
        rw [HX.out, List.take_add_one, List.getElem?_eq_getElem (by have := HS.out; simp; omega), Option.toList_some, nm_snoc]; rfl)
      have HO := Lib.hid hor
      clear hor
      go_wp2_with fail
      go_roundw
      case rel => exact ⟨k + 1, by omega, by simp, by rw [hsn.out]; exact congrArg _ HO.out, hsm⟩
      case measure => rw [intOf_int, intOf_int]; omega
    · have hk8 : k = 8 := by omega
      have hge : (s.size : Int) ≤ (k : Int) := by omega
      have HK := Lib.hid hk8
      clear hk8
      go_wp2_with fail
      go_ret
      refine ⟨?_, hsm⟩
      rw [List.take_of_length_le (by have := HS.out; have := HK.out; simp; omega)]
      rfl
end Go.Proofs.Ytndpdledhjdfeaa
