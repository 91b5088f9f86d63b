/- net: what is read is what was written. -/
import Derived.Test.YtgdlnjhbencjkaaNPure
import Derived.Test.YtgdlnjhbencjkaaNRead
namespace Go.Proofs.Ytgdlnjhbencjkaa
open Go.RowKit

theorem entO_entF (e : Ent) : entO 2 (entF e) = some e := by
  show (if (2 : Int) = 2 ∧ (0 : Int) = 0 ∧ (1 : Int) = 1 then some ((e.1 : Int).toNat, e.2) else none) = some e
  rw [if_pos ⟨rfl, rfl, rfl⟩]
  rfl
theorem entsO_entsF : ∀ l : List Ent, entsO (entsF l) = some l
  | [] => rfl
  | e :: r => by
    simp only [entsF, entsO, entO_entF, entsO_entsF r]
theorem kinds_msg (m : Mg) : kindsF 0 (msgF m) = true := by
  simp [msgF, kindsF, kindI]
theorem msgO_msgF {m : Mg} (h1 : m.kind ≤ 2147483648) (h2 : m.src < 2147483648) (h3 : m.dst < 2147483648) : msgO ⟨2, 0, ⟨#[]⟩, msgF m⟩ = some m := by
  have hs : shapedB ⟨2, 0, ⟨#[]⟩, msgF m⟩ = true := by
    unfold shapedB
    simp only [kinds_msg]
    rfl
  have ht : ten (msgF m) = some (m.kind, m.src + 1, m.dst + 1, (m.term : Int), (m.index : Int), (m.lterm : Int), (m.commit : Int), okN m.ok, entsF m.ents, m.state) := rfl
  have hk := okN_b m.ok
  have hk1 : ¬ 1 < okN m.ok := by cases m.ok <;> decide
  have hk2 : (okN m.ok == 1) = m.ok := by cases m.ok <;> rfl
  unfold msgO
  rw [if_pos hs]
  simp only [ht]
  rw [if_neg (by omega), entsO_entsF]
  simp only [Int.add_sub_cancel, Int.toNat_natCast, hk2]
theorem bytes_nil {s : ByteArray} (h : (s.size == 0) = true) : s = ⟨#[]⟩ := ByteArray.ext (Array.eq_empty_of_size_eq_zero (by simpa using h))
theorem plain0 {k n : Int} {s : ByteArray} {c : F} (h : plainB k n s c.len = true) (hk : k = 0) : s = ⟨#[]⟩ ∧ c = .nil := by
  subst hk
  simp only [plainB, if_true, Bool.and_eq_true] at h
  exact ⟨bytes_nil h.1, F.len_zero (by simpa using h.2)⟩
theorem plain1 {k n : Int} {s : ByteArray} {c : F} (h : plainB k n s c.len = true) (hk : k = 1) : n = 0 ∧ c = .nil := by
  subst hk
  simp [plainB] at h
  exact ⟨h.1, F.len_zero h.2⟩
theorem plain2 {k n : Int} {s : ByteArray} {c : F} (h : plainB k n s c.len = true) (hk : k = 2) : n = 0 ∧ s = ⟨#[]⟩ := by
  subst hk
  simp only [plainB, if_neg (show ¬ (2 : Int) = 0 by decide), if_neg (show ¬ (2 : Int) = 1 by decide), Bool.and_eq_true] at h
  exact ⟨by simpa using h.1.2, bytes_nil h.2⟩
theorem right_cons {k n : Int} {s : ByteArray} {c r : F} {d : Nat} (h : (F.cons k n s c r).right d = true) : plainB k n s c.len = true ∧ c.right (d - 1) = true ∧ r.right d = true := by
  simp only [F.right, Bool.and_eq_true] at h
  exact ⟨h.1, h.2.2.1, h.2.2.2⟩
theorem entsO_inv : ∀ (f : F) (l : List Ent) (d : Nat), entsO f = some l → f.right d = true → f.ok → f = entsF l
  | .nil, l, d, h, _, _ => by
    obtain rfl : [] = l := Option.some.inj h
    rfl
  | .cons k n s c r, l, d, h, hr, hok => by
    obtain ⟨p, hc, hr2⟩ := right_cons hr
    simp only [entsO] at h
    cases he : entO k c with
    | none => rw [he] at h; cases h
    | some e =>
      rw [he] at h
      cases hl : entsO r with
      | none => rw [hl] at h; cases h
      | some l2 =>
        rw [hl] at h
        obtain rfl : e :: l2 = l := Option.some.inj h
        have ih := entsO_inv r l2 d hl hr2 hok.2.2.2.2
        unfold entO at he
        split at he
        · rename_i k1 n1 s1 c1 k2 n2 s2 c2
          split at he
          · rename_i hkk
            obtain ⟨e0, e1, e2⟩ := hkk
            obtain rfl := Option.some.inj he
            obtain ⟨p1, _, hc2⟩ := right_cons hc
            obtain ⟨p2, _, _⟩ := right_cons hc2
            obtain ⟨rfl, rfl⟩ := plain0 p1 e1
            obtain ⟨rfl, rfl⟩ := plain1 p2 e2
            obtain ⟨rfl, rfl⟩ := plain2 p e0
            have hn : 0 ≤ n1 := hok.2.2.2.1.1.1
            subst e0 e1 e2
            rw [ih]
            simp only [entsF, entF, Int.toNat_of_nonneg hn]
          · cases he
        · cases he
theorem msgO_inv {x : Nd} {m : Mg} (hm : msgO x = some m) (hr : x.right 20 = true) (hok : x.ok) : x = ⟨2, 0, ⟨#[]⟩, msgF m⟩ ∧ (0 ≤ m.kind ∧ m.kind ≤ 2147483648) ∧ (-1 ≤ m.src ∧ m.src < 2147483648) ∧ (-1 ≤ m.dst ∧ m.dst < 2147483648) := by
  unfold msgO at hm
  split at hm
  rotate_left
  · cases hm
  rename_i hs
  unfold shapedB at hs
  simp only [Bool.and_eq_true, decide_eq_true_eq] at hs
  obtain ⟨hk, hl, hkk⟩ := hs
  obtain ⟨xk, xn, xs, f⟩ := x
  simp only at hk hl hkk hm
  obtain ⟨k0, n0, s0, c0, k1, n1, s1, c1, k2, n2, s2, c2, k3, n3, s3, c3, k4, n4, s4, c4, k5, n5, s5, c5, k6, n6, s6, c6, k7, n7, s7, c7, k8, n8, s8, c8, k9, n9, s9, c9, rfl⟩ := ten_kids hl
  simp only [kindsF, Bool.and_eq_true, decide_eq_true_eq] at hkk
  simp only [kindI] at hkk
  obtain ⟨e0, e1, e2, e3, e4, e5, e6, e7, e8, e9, _⟩ := hkk
  simp at e0 e1 e2 e3 e4 e5 e6 e7 e8 e9
  simp only [Nd.right, Bool.and_eq_true] at hr
  obtain ⟨px, _, hr⟩ := hr
  obtain ⟨p0, _, hr⟩ := right_cons hr
  obtain ⟨p1, _, hr⟩ := right_cons hr
  obtain ⟨p2, _, hr⟩ := right_cons hr
  obtain ⟨p3, _, hr⟩ := right_cons hr
  obtain ⟨p4, _, hr⟩ := right_cons hr
  obtain ⟨p5, _, hr⟩ := right_cons hr
  obtain ⟨p6, _, hr⟩ := right_cons hr
  obtain ⟨p7, _, hr⟩ := right_cons hr
  obtain ⟨p8, hr8, hr⟩ := right_cons hr
  obtain ⟨p9, _, hr⟩ := right_cons hr
  obtain ⟨rfl, rfl⟩ := plain0 p0 e0
  obtain ⟨rfl, rfl⟩ := plain0 p1 e1
  obtain ⟨rfl, rfl⟩ := plain0 p2 e2
  obtain ⟨rfl, rfl⟩ := plain0 p3 e3
  obtain ⟨rfl, rfl⟩ := plain0 p4 e4
  obtain ⟨rfl, rfl⟩ := plain0 p5 e5
  obtain ⟨rfl, rfl⟩ := plain0 p6 e6
  obtain ⟨rfl, rfl⟩ := plain0 p7 e7
  obtain ⟨rfl, rfl⟩ := plain2 p8 e8
  obtain ⟨rfl, rfl⟩ := plain1 p9 e9
  obtain ⟨rfl, rfl⟩ := plain2 px hk
  have hok2 : F.ok _ := hok.2.2.2
  obtain ⟨⟨o0, _⟩, _, _, _, ⟨o1, _⟩, _, _, _, ⟨o2, _⟩, _, _, _, ⟨o3, o3'⟩, _, _, _, ⟨o4, o4'⟩, _, _, _, ⟨o5, o5'⟩, _, _, _, ⟨o6, o6'⟩, _, _, _, ⟨o7, _⟩, _, _, _, ⟨_, _⟩, _, h8l, o8, _⟩ := hok2
  simp only [ten] at hm
  split at hm
  · cases hm
  rename_i hc
  split at hm
  · cases hm
  rename_i l hE
  have hEl := entsO_inv c8 l _ hE hr8 o8
  obtain rfl := Option.some.inj hm
  subst hk e0 e1 e2 e3 e4 e5 e6 e7 e8 e9
  have h7 : n7 = okN (n7 == 1) := by
    rcases (by omega : n7 = 0 ∨ n7 = 1) with h | h <;> subst h <;> rfl
  refine ⟨?_, ⟨o0, by simp only; omega⟩, ⟨by simp only; omega, by simp only; omega⟩, ⟨by simp only; omega, by simp only; omega⟩⟩
  simp only [msgF, Int.sub_add_cancel, Int.toNat_of_nonneg o3, Int.toNat_of_nonneg o4, Int.toNat_of_nonneg o5, Int.toNat_of_nonneg o6, ← h7, ← hEl]
end Go.Proofs.Ytgdlnjhbencjkaa
