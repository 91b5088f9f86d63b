/- Lists of signed headers read from nodes and bytes: plain mathematics, over no program. -/
import Derived.Test.YtpkkdjmcabefbaaDoorEPure
import Derived.Test.YtpkkdjmcabefbaaDoorDCodS
namespace Go.Proofs.YtpkkdjmcabefbaaDoor
open Go.RowKit
open Cod (F Nd nodeL)
/-- The signed header whose seven fields these are, if they are seven. -/
def seven : F → Option Sg
  | .cons _ a _ _ (.cons _ b _ _ (.cons _ _ c _ (.cons _ _ d _ (.cons _ e _ _ (.cons _ f _ _ (.cons _ _ g _ .nil)))))) => some ⟨⟨a, b, c, d, e, f⟩, g⟩
  | _ => none
def sgN (s : Sg) : Nd := ⟨2, 0, ⟨#[]⟩, sgF s⟩
def ofO (x : Nd) : Option Sg := match seven x.kids with | none => none | some s => if s.h.is && x.eqB (sgN s) then some s else none
theorem seven_sgF (s : Sg) : seven (sgF s) = some s := rfl
theorem seven_len : ∀ f : F, f.len ≠ 7 → seven f = none := by
  intro f h
  match f with
  | .nil => rfl
  | .cons _ _ _ _ .nil => rfl
  | .cons _ _ _ _ (.cons _ _ _ _ .nil) => rfl
  | .cons _ _ _ _ (.cons _ _ _ _ (.cons _ _ _ _ .nil)) => rfl
  | .cons _ _ _ _ (.cons _ _ _ _ (.cons _ _ _ _ (.cons _ _ _ _ .nil))) => rfl
  | .cons _ _ _ _ (.cons _ _ _ _ (.cons _ _ _ _ (.cons _ _ _ _ (.cons _ _ _ _ .nil)))) => rfl
  | .cons _ _ _ _ (.cons _ _ _ _ (.cons _ _ _ _ (.cons _ _ _ _ (.cons _ _ _ _ (.cons _ _ _ _ .nil))))) => rfl
  | .cons _ _ _ _ (.cons _ _ _ _ (.cons _ _ _ _ (.cons _ _ _ _ (.cons _ _ _ _ (.cons _ _ _ _ (.cons _ _ _ _ .nil)))))) => exact absurd rfl h
  | .cons _ _ _ _ (.cons _ _ _ _ (.cons _ _ _ _ (.cons _ _ _ _ (.cons _ _ _ _ (.cons _ _ _ _ (.cons _ _ _ _ (.cons _ _ _ _ _))))))) => rfl
theorem seven_inv : ∀ f : F, f.len = 7 → ∃ (k0 k1 k2 k3 k4 k5 k6 n2 n3 n6 : Int) (s0 s1 s4 s5 : ByteArray) (c0 c1 c2 c3 c4 c5 c6 : F) (s : Sg),
    f = .cons k0 s.h.shard s0 c0 (.cons k1 s.h.seq s1 c1 (.cons k2 n2 s.h.prev c2 (.cons k3 n3 s.h.root c3 (.cons k4 s.h.who s4 c4 (.cons k5 s.h.stamp s5 c5 (.cons k6 n6 s.mac c6 .nil)))))) ∧ seven f = some s := by
  intro f h
  match f with
  | .nil => cases h
  | .cons _ _ _ _ .nil => cases h
  | .cons _ _ _ _ (.cons _ _ _ _ .nil) => cases h
  | .cons _ _ _ _ (.cons _ _ _ _ (.cons _ _ _ _ .nil)) => cases h
  | .cons _ _ _ _ (.cons _ _ _ _ (.cons _ _ _ _ (.cons _ _ _ _ .nil))) => cases h
  | .cons _ _ _ _ (.cons _ _ _ _ (.cons _ _ _ _ (.cons _ _ _ _ (.cons _ _ _ _ .nil)))) => cases h
  | .cons _ _ _ _ (.cons _ _ _ _ (.cons _ _ _ _ (.cons _ _ _ _ (.cons _ _ _ _ (.cons _ _ _ _ .nil))))) => cases h
  | .cons k0 a s0 c0 (.cons k1 b s1 c1 (.cons k2 n2 c c2 (.cons k3 n3 d c3 (.cons k4 e s4 c4 (.cons k5 f s5 c5 (.cons k6 n6 g c6 .nil)))))) =>
    exact ⟨k0, k1, k2, k3, k4, k5, k6, n2, n3, n6, s0, s1, s4, s5, c0, c1, c2, c3, c4, c5, c6, ⟨⟨a, b, c, d, e, f⟩, g⟩, rfl, rfl⟩
  | .cons _ _ _ _ (.cons _ _ _ _ (.cons _ _ _ _ (.cons _ _ _ _ (.cons _ _ _ _ (.cons _ _ _ _ (.cons _ _ _ _ (.cons _ _ _ _ r))))))) => simp [F.len] at h
theorem ofO_some {x : Nd} {s : Sg} : ofO x = some s ↔ s.h.is = true ∧ x = sgN s := by
  constructor
  · intro h
    unfold ofO at h
    cases q : seven x.kids with
    | none => rw [q] at h; cases h
    | some t =>
      rw [q] at h
      simp only at h
      split at h
      · rename_i e
        injection h with h
        subst h
        rw [Bool.and_eq_true] at e
        exact ⟨e.1, (Cod.ndEqB_iff _ _).1 e.2⟩
      · cases h
  · rintro ⟨h1, rfl⟩
    unfold ofO
    rw [show seven (sgN s).kids = some s from rfl]
    simp only
    rw [h1, (Cod.ndEqB_iff _ _).2 rfl]
    rfl
theorem ofO_ok {x : Nd} {s : Sg} {m : Nat} (h : ofO x = some s) (hx : x.ok) (hm : 32 ≤ m) (hs : s.mac.size ≤ m) : s.Ok m := by
  obtain ⟨h1, rfl⟩ := ofO_some.1 h
  obtain ⟨_, _, _, h2⟩ := hx
  obtain ⟨a, _, _, _, b, _, _, _, _, _, _, _, _, _, _, _, c, _, _, _, d, _⟩ := h2
  rw [Hd.is_iff] at h1
  exact ⟨⟨a, b, by omega, by omega, c, d⟩, hs⟩
/-- What a list's kids stand for. -/
def ofsO : F → Option (List Sg)
  | .nil => some []
  | .cons k n s c r => match ofO ⟨k, n, s, c⟩ with | none => none | some g => (ofsO r).map (g :: ·)
theorem ofsO_some : ∀ (f : F) (l : List Sg), ofsO f = some l ↔ f = sgsF l ∧ ∀ s ∈ l, s.h.is = true
  | .nil, l => by
    cases l with
    | nil => simp [ofsO, sgsF]
    | cons s l => simp [ofsO, sgsF]
  | .cons k n s c r, l => by
    unfold ofsO
    cases h : ofO ⟨k, n, s, c⟩ with
    | none =>
      constructor
      · intro e; cases e
      · rintro ⟨e, h2⟩
        exfalso
        cases l with
        | nil => cases e
        | cons g l =>
          simp only [sgsF, F.cons.injEq] at e
          obtain ⟨rfl, rfl, rfl, rfl, _⟩ := e
          have := (ofO_some (x := ⟨2, 0, ⟨#[]⟩, sgF g⟩) (s := g)).2 ⟨h2 g (by simp), rfl⟩
          rw [h] at this; cases this
    | some g =>
      simp only
      obtain ⟨h1, h2⟩ := ofO_some.1 h
      unfold sgN at h2
      injection h2 with e1 e2 e3 e4
      subst e1 e2 e3 e4
      cases l with
      | nil => simp [sgsF]
      | cons x l =>
        rw [Option.map_eq_some_iff]
        constructor
        · rintro ⟨t, ht, e⟩
          injection e with e1 e2
          subst e1 e2
          obtain ⟨q1, q2⟩ := (ofsO_some r t).1 ht
          exact ⟨by rw [sgsF, ← q1], fun y hy => by
            rcases List.mem_cons.1 hy with rfl | hy
            · exact h1
            · exact q2 y hy⟩
        · rintro ⟨e, q⟩
          simp only [sgsF, F.cons.injEq, true_and] at e
          obtain ⟨e1, e2⟩ := e
          obtain rfl : g = x := by
            have := congrArg seven e1
            rw [seven_sgF, seven_sgF] at this
            injection this
          exact ⟨l, (ofsO_some r l).2 ⟨e2, fun y hy => q y (by simp [hy])⟩, rfl⟩
def consO (O : Option Sg) (r : Option (List Sg)) : Option (List Sg) := match O with | none => none | some g => r.map (g :: ·)
theorem ofsO_cons (k n : Int) (s : ByteArray) (c r : F) : ofsO (.cons k n s c r) = consO (ofO ⟨k, n, s, c⟩) (ofsO r) := rfl
def readS (l : List UInt8) : Option (List Sg) := match Cod.readO l with | none => none | some x => if x.k = 2 then ofsO x.kids else none
theorem rd_some {l : List UInt8} {x : Nd} (h : Cod.readO l = some x) : l = x.bytes ∧ x.right 20 = true ∧ (l.length < 268435456 → x.ok) := by
  unfold Cod.readO at h
  split at h
  · rename_i y hy
    injection h with h
    subst h
    obtain ⟨h1, h2, h3⟩ := Cod.parse_inv 20 l y [] hy
    exact ⟨by simpa using h1, h2, h3⟩
  · cases h
theorem readS_some {l : List UInt8} {m : List Sg} (h : readS l = some m) : l = textB m ∧ ∀ s ∈ m, s.h.is = true := by
  unfold readS at h
  cases q : Cod.readO l with
  | none => rw [q] at h; cases h
  | some x =>
    rw [q] at h
    simp only at h
    split at h
    · rename_i hk
      obtain ⟨h1, h2, _⟩ := rd_some q
      obtain ⟨e1, e2⟩ := (ofsO_some _ _).1 h
      obtain ⟨k, n, s, c⟩ := x
      simp only at hk e1
      subst hk e1
      rw [Nd.right, Bool.and_eq_true] at h2
      have h3 := h2.1
      simp [Cod.plainB] at h3
      obtain ⟨rfl, h4⟩ := h3
      obtain rfl : s = ⟨#[]⟩ := h4
      exact ⟨by rw [h1]; unfold textB Nd.bytes; rw [sgsF_len], e2⟩
    · cases h
theorem readS_text {l : List Sg} {m : Nat} (hm : m < 268435456) (h : ∀ s ∈ l, s.Ok m) (hi : ∀ s ∈ l, s.h.is = true) (hl : l.length < 268435456) : readS (textB l) = some l := by
  have e := Cod.parse_app 20 2 0 ⟨#[]⟩ (sgsF l) [] (text_right l) (text_ok hm l h hl)
  rw [List.append_nil, sgsF_len] at e
  unfold readS Cod.readO textB
  rw [e]
  simp only [if_true]
  exact (ofsO_some _ _).2 ⟨rfl, hi⟩
theorem len_le_text (l : List Sg) : l.length ≤ (textB l).length := by
  have h : ∀ l : List Sg, l.length ≤ (sgsF l).bytes.length := by
    intro l
    induction l with
    | nil => simp
    | cons s l ih =>
      have e : (sgsF (s :: l)).bytes = sgB s ++ (sgsF l).bytes := by rw [sgsF, F.bytes, sgF_len]; rfl
      rw [e, List.length_append, List.length_cons]
      have : 1 ≤ (sgB s).length := by unfold sgB nodeL; simp
      omega
  unfold textB nodeL
  have := h l
  simp
  omega
theorem mac_le_text : ∀ (l : List Sg) (s : Sg), s ∈ l → s.mac.size ≤ (sgsF l).bytes.length
  | x :: l, s, h => by
    have e : (sgsF (x :: l)).bytes = sgB x ++ (sgsF l).bytes := by rw [sgsF, F.bytes, sgF_len]; rfl
    rw [e, List.length_append]
    rcases List.mem_cons.1 h with rfl | h
    · have : s.mac.size ≤ (sgB s).length := by
        unfold sgB nodeL sgF hdR
        simp [F.bytes, nodeL]
        omega
      omega
    · have := mac_le_text l s h
      omega
theorem readS_ok {l : List UInt8} {m : List Sg} {n : Nat} (h : readS l = some m) (hl : l.length ≤ n) (h32 : 32 ≤ n) (hn : n < 268435456) : ∀ s ∈ m, s.Ok n := by
  intro s hs
  have ht := (readS_some h).1
  unfold readS at h
  cases q : Cod.readO l with
  | none => rw [q] at h; cases h
  | some x =>
    rw [q] at h
    simp only at h
    split at h
    · obtain ⟨_, _, h3⟩ := rd_some q
      obtain ⟨_, _, _, h4⟩ := h3 (by omega)
      obtain ⟨e1, e2⟩ := (ofsO_some _ _).1 h
      rw [e1] at h4
      have hmac : s.mac.size ≤ n := by
        have h5 := mac_le_text m s hs
        have h6 : (sgsF m).bytes.length ≤ (textB m).length := by unfold textB nodeL; simp; omega
        rw [← ht] at h6
        omega
      have : ∀ (m : List Sg), (sgsF m).ok → s ∈ m → (sgF s).ok := by
        intro m
        induction m with
        | nil => intro _ h; cases h
        | cons x m ih =>
          intro h h2
          obtain ⟨_, _, _, h7, h8⟩ := h
          rcases List.mem_cons.1 h2 with rfl | h2
          · exact h7
          · exact ih h8 h2
      have h9 := this m h4 hs
      obtain ⟨a, _, _, _, b, _, _, _, _, _, _, _, _, _, _, _, c, _, _, _, d, _⟩ := h9
      have hi := (Hd.is_iff _).1 (e2 s hs)
      exact ⟨⟨a, b, by omega, by omega, c, d⟩, hmac⟩
    · cases h
end Go.Proofs.YtpkkdjmcabefbaaDoor
