/- net: what bytes stand for what message. -/
import Derived.Test.YtgdlnjhbencjkaaNByt2
namespace Go.Proofs.Ytgdlnjhbencjkaa
open Go.RowKit

theorem entsF_right : ∀ (l : List Ent) (d : Nat), 2 ≤ d → (entsF l).right d = true
  | [], _, _ => rfl
  | e :: r, d, h => by
    have ih := entsF_right r d h
    have e1 : (entF e).right (d - 1) = true := by
      have h1 : 0 < d - 1 := by omega
      simp [entF, F.right, plainB, F.len, h1]
      rfl
    have h0 : 0 < d := by omega
    simp [entsF, F.right, plainB, h0, ih, e1]
    rfl
theorem msg_right (m : Mg) : Nd.right ⟨2, 0, ⟨#[]⟩, msgF m⟩ 20 = true := by
  have h := entsF_right m.ents 18 (by omega)
  simp [Nd.right, msgF, F.right, plainB, F.len, h]
  decide
def SmEnt (e : Ent) : Prop := e.1 < 18446744073709551616 ∧ e.2.size ≤ 100
theorem entsF_ok : ∀ (l : List Ent), (∀ e ∈ l, SmEnt e) → l.length ≤ 1000 → (entsF l).ok
  | [], _, _ => trivial
  | e :: r, h, hl => by
    have h1 := h e (by simp)
    unfold SmEnt at h1
    have ih := entsF_ok r (fun x hx => h x (by simp [hx])) (by simp at hl; omega)
    refine ⟨⟨by decide, by decide⟩, by decide, by show (2 : Nat) < _; decide, ⟨⟨by omega, by omega⟩, by decide, by decide, trivial, ⟨by decide, by decide⟩, by omega, by decide, trivial, trivial⟩, ih⟩
structure SmMsg (m : Mg) : Prop where
  kind : 0 ≤ m.kind ∧ m.kind < 9223372036854775808
  src : -1 ≤ m.src ∧ m.src < 9223372036854775808
  dst : -1 ≤ m.dst ∧ m.dst < 9223372036854775808
  term : m.term < 18446744073709551616
  index : m.index < 18446744073709551616
  lterm : m.lterm < 18446744073709551616
  commit : m.commit < 18446744073709551616
  len : m.ents.length ≤ 12
  ents : ∀ e ∈ m.ents, SmEnt e
  state : m.state.size ≤ 100
theorem okN_b (b : Bool) : 0 ≤ okN b ∧ okN b < 18446744073709551616 := by cases b <;> decide
theorem msg_ok {m : Mg} (h : SmMsg m) : Nd.ok ⟨2, 0, ⟨#[]⟩, msgF m⟩ := by
  obtain ⟨h1, h2, h3, h4, h5, h6, h7, h8, h9, h10⟩ := h
  have hk := okN_b m.ok
  have he := entsF_ok m.ents h9 (by omega)
  have hel : (entsF m.ents).len < 268435456 := by rw [entsF_len]; omega
  refine ⟨⟨by show (0 : Int) ≤ 0; decide, by show (0 : Int) < _; decide⟩, by show (0 : Nat) < _; decide, by show (10 : Nat) < _; decide, ?_⟩
  show (msgF m).ok
  exact ⟨⟨h1.1, by omega⟩, by decide, by decide, trivial, ⟨by omega, by omega⟩, by decide, by decide, trivial, ⟨by omega, by omega⟩, by decide, by decide, trivial, ⟨by omega, by omega⟩, by decide, by decide, trivial,
    ⟨by omega, by omega⟩, by decide, by decide, trivial, ⟨by omega, by omega⟩, by decide, by decide, trivial, ⟨by omega, by omega⟩, by decide, by decide, trivial, hk, by decide, by decide, trivial,
    ⟨by decide, by decide⟩, by decide, hel, he, ⟨by decide, by decide⟩, by omega, by decide, trivial, trivial⟩
theorem num_len (n : Int) (h : 0 ≤ n ∧ n < 18446744073709551616) (s : ByteArray) (len : Nat) (kb : List UInt8) : (nodeL 0 n s len kb).length ≤ 13 := by
  have h1 := numL_len n.toNat 8 (by omega)
  have h2 := szL_len (numL n.toNat).length (by omega)
  simp only [nodeL, if_true, List.length_cons, List.length_append]
  omega
theorem txt_len (s : ByteArray) (hs : s.size ≤ 100) (n : Int) (len : Nat) (kb : List UInt8) : (nodeL 1 n s len kb).length ≤ 105 := by
  have h2 := szL_len s.size (by omega)
  have h3 : s.data.toList.length = s.size := by simp
  simp only [nodeL, List.length_cons, List.length_append, if_neg (show ¬ (1 : Int) = 0 by decide), if_true]
  omega
theorem lst_len (n : Int) (s : ByteArray) (len : Nat) (hl : len < 268435456) (kb : List UInt8) : (nodeL 2 n s len kb).length ≤ 5 + kb.length := by
  have h2 := szL_len len hl
  simp only [nodeL, List.length_cons, List.length_append, if_neg (show ¬ (2 : Int) = 0 by decide), if_neg (show ¬ (2 : Int) = 1 by decide)]
  omega
theorem entsF_bytes : ∀ (l : List Ent), (∀ e ∈ l, SmEnt e) → (entsF l).bytes.length ≤ l.length * 123
  | [], _ => by simp [entsF, F.bytes]
  | e :: r, h => by
    have h1 := h e (by simp)
    unfold SmEnt at h1
    have ih := entsF_bytes r (fun x hx => h x (by simp [hx]))
    have a1 := num_len (e.1 : Int) ⟨by omega, by omega⟩ ⟨#[]⟩ F.nil.len []
    have a2 := txt_len e.2 h1.2 0 F.nil.len []
    have a3 := lst_len 0 ⟨#[]⟩ (entF e).len (by show (2 : Nat) < _; decide) (entF e).bytes
    have a4 : (entF e).bytes.length ≤ 118 := by
      simp only [entF, F.bytes, List.length_append, List.length_nil]
      omega
    simp only [entsF, F.bytes, List.length_append, List.length_cons]
    omega
theorem msg_small {m : Mg} (h : SmMsg m) : (msgB m).length ≤ 2000 := by
  obtain ⟨h1, h2, h3, h4, h5, h6, h7, h8, h9, h10⟩ := h
  have hk := okN_b m.ok
  unfold msgB
  have a0 := lst_len 0 ⟨#[]⟩ 10 (by decide) (msgF m).bytes
  have a1 := num_len m.kind ⟨h1.1, by omega⟩ ⟨#[]⟩ F.nil.len []
  have a2 := num_len (m.src + 1) ⟨by omega, by omega⟩ ⟨#[]⟩ F.nil.len []
  have a3 := num_len (m.dst + 1) ⟨by omega, by omega⟩ ⟨#[]⟩ F.nil.len []
  have a4 := num_len (m.term : Int) ⟨by omega, by omega⟩ ⟨#[]⟩ F.nil.len []
  have a5 := num_len (m.index : Int) ⟨by omega, by omega⟩ ⟨#[]⟩ F.nil.len []
  have a6 := num_len (m.lterm : Int) ⟨by omega, by omega⟩ ⟨#[]⟩ F.nil.len []
  have a7 := num_len (m.commit : Int) ⟨by omega, by omega⟩ ⟨#[]⟩ F.nil.len []
  have a8 := num_len (okN m.ok) hk ⟨#[]⟩ F.nil.len []
  have a9 := lst_len 0 ⟨#[]⟩ (entsF m.ents).len (by rw [entsF_len]; omega) (entsF m.ents).bytes
  have b0 := entsF_bytes m.ents h9
  have b1 := txt_len m.state h10 0 F.nil.len []
  have b2 : (msgF m).bytes.length ≤ 13 * 8 + (5 + 12 * 123) + 105 := by
    simp only [msgF, F.bytes, List.length_append, List.length_nil]
    have : m.ents.length * 123 ≤ 12 * 123 := Nat.mul_le_mul_right _ h8
    omega
  omega
theorem msg_fits {m : Mg} (h : SmMsg m) : Fits (msgB m).length := by have := msg_small h; unfold Fits; omega
theorem sz_bytes (l : List UInt8) : (⟨l.toArray⟩ : ByteArray).size = l.length := by simp [ByteArray.size]
theorem msg_read (m : Mg) (hok : Nd.ok ⟨2, 0, ⟨#[]⟩, msgF m⟩) : readO (msgB m) = some ⟨2, 0, ⟨#[]⟩, msgF m⟩ := by
  have h := parse_app 20 2 0 ⟨#[]⟩ (msgF m) [] (msg_right m) hok
  rw [List.append_nil] at h
  have e : nodeL 2 0 ⟨#[]⟩ (msgF m).len (msgF m).bytes = msgB m := rfl
  rw [e] at h
  rw [readO, h]
end Go.Proofs.Ytgdlnjhbencjkaa
