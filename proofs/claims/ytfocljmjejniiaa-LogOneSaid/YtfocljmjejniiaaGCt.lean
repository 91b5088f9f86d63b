/- log: a content in memory: its last index, what it takes, its entries and terms. -/
import Derived.Test.YtfocljmjejniiaaGRd
namespace Go.Proofs.Ytfocljmjejniiaa
open Go.RowKit

def ctL (c : CT) (v : Value) : List Value := [.int .u64 (c.term : Int), .int .i64 c.vote, .int .u64 (c.base : Int), .int .u64 (c.bterm : Int), .string c.state, v]
/-- Block b begins with this content; its entries lie in v; X stands behind it. -/
def CtAt (w : World) (b : Nat) (ty : TypeId) (X : List Value) (v : Value) (c : CT) : Prop :=
  w.heap[b]? = some (.cells (ctL c v ++ X).toArray ty (0, 0)) ∧ EOwn w 0 v c.ents ∧ v.ownBlock ≠ some b
section
variable {w w' : World} {b : Nat} {ty : TypeId} {X : List Value} {v : Value} {c : CT}
theorem CtAt.lt (h : CtAt w b ty X v c) : b < w.heap.size := (Array.getElem?_eq_some_iff.1 h.1).1
theorem CtAt.cells (h : CtAt w b ty X v c) : w.cell? ⟨b, 0, none⟩ = some (.int .u64 (c.term : Int)) ∧ w.cell? ⟨b, 1, none⟩ = some (.int .i64 c.vote) ∧ w.cell? ⟨b, 2, none⟩ = some (.int .u64 (c.base : Int)) ∧
    w.cell? ⟨b, 3, none⟩ = some (.int .u64 (c.bterm : Int)) ∧ w.cell? ⟨b, 4, none⟩ = some (.string c.state) ∧ w.cell? ⟨b, 5, none⟩ = some v := by
  have h1 := h.1
  simp [World.cell?, h1, ctL]
theorem CtAt.free (h : CtAt w b ty X v c) (o : Nat) : w.frozen? ⟨b, o, none⟩ = false := by
  have h1 := h.1
  simp [World.frozen?, h1]
theorem CtAt.mv (h : CtAt w b ty X v c) (hb : w'.heap[b]? = w.heap[b]?) (hv : ∀ k, v.ownBlock = some k → w'.heap[k]? = w.heap[k]?) : CtAt w' b ty X v c :=
  ⟨by rw [hb]; exact h.1, h.2.1.mv hv, h.2.2⟩
theorem CtAt.later (h : CtAt w b ty X v c) (hb : Below w.heap.size w w') : CtAt w' b ty X v c := h.mv (hb.block b h.lt) fun k hk => hb.block k (h.2.1.lt k hk)
theorem CtAt.same (h : CtAt w b ty X v c) (hs : Same w w') : CtAt w' b ty X v c := h.later (hs.below _)
end
theorem u64_nat' (n : Nat) (h : n ≤ 18446744073709551615) : IntKind.u64.wrap (n : Int) = (n : Int) := u64_nat n (by unfold m64; omega)
theorem lastN_int (c : CT) (h : c.ents.length ≤ 1000000) : IntKind.u64.wrap ((c.base : Int) + IntKind.u64.wrap (c.ents.length : Int)) = (c.lastN : Int) := by
  rw [u64_nat' _ (by omega)]
  have e : ∀ x : Int, IntKind.u64.wrap x = x % 18446744073709551616 := fun x => by simp [IntKind.wrap, IntKind.signed, IntKind.bits]
  rw [e]; unfold CT.lastN m64; omega

set_option maxRecDepth 100000 in
theorem last_prog {ty : TypeId} {X : List Value} (b : Nat) (v : Value) (c : CT) (w : World) (h : CtAt w b ty X v c) (hl : c.ents.length ≤ 1000000) :
    Calls Try.prog 33 #[.pointer (some ⟨b, 0, none⟩)] w fun e w' => e = .returned (.int .u64 (c.lastN : Int)) ∧ Same w w' := by
  obtain ⟨c0, c1, c2, c3, c4, c5⟩ := h.cells
  obtain ⟨a, cp, rfl, _⟩ := h.2.1.shape
  have hL := lastN_int c hl
  have hlI : (c.ents.length : Int) ≤ 1000000 := by omega
  clear c0 c1 c3 c4 h hl
  go_enter Try.func33, Try.ntmps33
  go_wp2_with fail
  go_quiet (fail)
  go_wp2_with fail
  go_ret
  exact ⟨rfl, _, rfl⟩

set_option maxRecDepth 100000 in
theorem takes_prog {ty : TypeId} {X : List Value} (b : Nat) (v : Value) (c : CT) (behind n : Nat) (w : World) (h : CtAt w b ty X v c) (hl : c.ents.length ≤ 1000000) (hb : behind < m64) (hn : n ≤ 1000000) :
    Calls Try.prog 23 #[.pointer (some ⟨b, 0, none⟩), .int .u64 (behind : Int), .int .i64 (n : Int)] w fun e w' => e = .returned (.bool (c.takes behind n)) ∧ Same w w' := by
  have H := Lib.hid (last_prog b v c w h hl)
  obtain ⟨c0, c1, c2, c3, c4, c5⟩ := h.cells
  have hbI : (behind : Int) ≤ 18446744073709551615 := by unfold m64 at hb; omega
  have hb0 : (0 : Int) ≤ (behind : Int) := by omega
  have hnI : (n : Int) ≤ 1000000 := by omega
  clear c0 c1 c3 c4 c5 h hl
  by_cases h1 : c.base ≤ behind
  · have h1I : (c.base : Int) ≤ (behind : Int) := by omega
    by_cases h2 : behind ≤ c.lastN
    · have h2I : (behind : Int) ≤ (c.lastN : Int) := by omega
      by_cases h3 : n ≤ 18446744073709551615 - behind
      · have h3I : (n : Int) ≤ 18446744073709551615 - (behind : Int) := by unfold m64 at hb; omega
        have e1 : c.takes behind n = true := by simp [CT.takes, h1, h2, h3]
        rw [e1]
        clear e1 h1 h2 h3 hb hn
        go_enter Try.func23, Try.ntmps23
        go_wp2_with fail
        refine H.out.mono ?_
        rintro e w1 ⟨rfl, hs1⟩
        go_wp2_with fail
        go_ret
        exact ⟨rfl, hs1⟩
      · have h3I : ¬ (n : Int) ≤ 18446744073709551615 - (behind : Int) := by unfold m64 at hb; omega
        have hd : decide ((n : Int) ≤ 18446744073709551615 - (behind : Int)) = false := decide_eq_false h3I
        have e1 : c.takes behind n = false := by simp only [CT.takes, h3, decide_false, Bool.and_false]
        rw [e1]
        clear e1 h1 h2 h3 hb hn
        go_enter Try.func23, Try.ntmps23
        go_wp2_with fail
        refine H.out.mono ?_
        rintro e w1 ⟨rfl, hs1⟩
        go_wp2_with fail
        go_ret
        exact ⟨rfl, hs1⟩
    · have h2I : ¬ (behind : Int) ≤ (c.lastN : Int) := by omega
      have e1 : c.takes behind n = false := by simp only [CT.takes, h2, decide_false, Bool.false_and, Bool.and_false]
      rw [e1]
      clear e1 h1 h2 hb hn
      go_enter Try.func23, Try.ntmps23
      go_wp2_with fail
      refine H.out.mono ?_
      rintro e w1 ⟨rfl, hs1⟩
      go_wp2_with fail
      go_ret
      exact ⟨rfl, hs1⟩
  · have h1I : ¬ (c.base : Int) ≤ (behind : Int) := by omega
    have e1 : c.takes behind n = false := by simp only [CT.takes, h1, decide_false, Bool.false_and]
    rw [e1]
    clear e1 h1 hb hn H
    go_enter Try.func23, Try.ntmps23
    go_wp2_with fail
    go_ret
    exact ⟨rfl, Same.refl _⟩

set_option maxRecDepth 100000 in
theorem votes_prog {ty : TypeId} {X : List Value} (b : Nat) (v : Value) (c : CT) (t : Nat) (x : Int) (w : World) (h : CtAt w b ty X v c) :
    Calls Try.prog 30 #[.pointer (some ⟨b, 0, none⟩), .int .u64 (t : Int), .int .i64 x] w fun e w' => e = .returned (.bool (c.votes t x)) ∧ w' = w := by
  obtain ⟨c0, c1, c2, c3, c4, c5⟩ := h.cells
  clear c1 c2 c3 c4 c5 h
  by_cases h1 : c.term ≤ t
  · have h1I : (c.term : Int) ≤ (t : Int) := by omega
    have h1J : ¬ (t : Int) < (c.term : Int) := by omega
    by_cases h2 : -1 ≤ x
    · have e1 : c.votes t x = true := by simp [CT.votes, h1, h2]
      rw [e1]
      clear e1 h1
      go_enter Try.func30, Try.ntmps30
      go_wp2_with fail
      go_ret
      exact ⟨rfl, rfl⟩
    · have e1 : c.votes t x = false := by simp only [CT.votes, h2, decide_false, Bool.and_false]
      rw [e1]
      clear e1 h1
      go_enter Try.func30, Try.ntmps30
      go_wp2_with fail
      go_ret
      exact ⟨rfl, rfl⟩
  · have h1I : ¬ (c.term : Int) ≤ (t : Int) := by omega
    have e1 : c.votes t x = false := by simp only [CT.votes, h1, decide_false, Bool.false_and]
    rw [e1]
    clear e1 h1
    go_enter Try.func30, Try.ntmps30
    go_wp2_with fail
    go_ret
    exact ⟨rfl, rfl⟩

/-- The entry at an index. -/
def CT.at (c : CT) (i : Nat) : Option Ent := if i ≤ c.base ∨ c.base + c.ents.length < i then none else c.ents[i - c.base - 1]?
def entV : Option Ent → Value
  | some e => .agg #[.int .u64 (e.1 : Int), .string e.2]
  | none => .agg #[.int .u64 0, .string ⟨#[]⟩]
theorem lastN_of {c : CT} (h : c.base + c.ents.length < m64) : c.lastN = c.base + c.ents.length := Nat.mod_eq_of_lt h

set_option maxHeartbeats 1000000 in
set_option maxRecDepth 100000 in
theorem at_prog {ty : TypeId} {X : List Value} (b : Nat) (v : Value) (c : CT) (i : Nat) (w : World) (h : CtAt w b ty X v c) (hl : c.ents.length ≤ 1000000) (hc : c.base + c.ents.length < m64) :
    Calls Try.prog 32 #[.pointer (some ⟨b, 0, none⟩), .int .u64 (i : Int)] w fun e w' => e = .returned (.tuple #[entV (c.at i), .bool (c.at i).isSome]) ∧ Below w.heap.size w w' := by
  have hlast := lastN_of hc
  by_cases h1 : i ≤ c.base
  · obtain ⟨c0, c1, c2, c3, c4, c5⟩ := h.cells
    have h1I : (i : Int) ≤ (c.base : Int) := by omega
    have e1 : c.at i = none := by simp [CT.at, h1]
    rw [e1]
    have hlt := h.lt
    clear c0 c1 c3 c4 c5 h hl hlast e1 h1
    go_enter Try.func32, Try.ntmps32
    go_wp2_with fail
    exact bodyPost_ret (v := .tuple #[entV none, .bool (none : Option Ent).isSome]) (by simp [results, Try.results32, go_sem, entV]) rfl ⟨rfl, ((Below.refl _ _).alloc (Nat.le_refl _) _)⟩
  · have h1I : ¬ (i : Int) ≤ (c.base : Int) := by omega
    have HL := Lib.hid (fun W (hW : CtAt W b ty X v c) => last_prog b v c W hW hl)
    have hlt := h.lt
    by_cases h2 : c.base + c.ents.length < i
    · have h2I : (c.lastN : Int) < (i : Int) := by omega
      have e1 : c.at i = none := by simp [CT.at, h2]
      rw [e1]
      have H0 := h.later ((Below.refl _ _).alloc (Nat.le_refl _) (.cells #[.int .u64 0, .string ⟨#[]⟩] 37))
      have HL' := Lib.hid (HL.out _ H0)
      obtain ⟨c0, c1, c2, c3, c4, c5⟩ := h.cells
      clear c0 c1 c3 c4 c5 h hl hlast e1 h1 h2 H0 HL
      go_enter Try.func32, Try.ntmps32
      go_wp2_with fail
      refine HL'.out.mono ?_
      rintro e w1 ⟨rfl, n1, rfl⟩
      go_wp2_with fail
      exact bodyPost_ret (v := .tuple #[entV none, .bool (none : Option Ent).isSome]) (by simp [results, Try.results32, go_sem, entV]) rfl ⟨rfl, by
        have h1 : Below w.heap.size w (w.alloc (.cells #[.int .u64 0, .string ⟨#[]⟩] 37)) := (Below.refl _ _).alloc (Nat.le_refl _) _
        exact ((h1.trans ((Same.of _ n1).below _)).setCell (Nat.le_refl _) _).setCell (Nat.le_refl _) _⟩
    · have h2I : ¬ (c.lastN : Int) < (i : Int) := by omega
      have hk : i - c.base - 1 < c.ents.length := by omega
      obtain ⟨⟨t, q⟩, hx⟩ : ∃ x, c.ents[i - c.base - 1]? = some x := ⟨_, List.getElem?_eq_getElem hk⟩
      have e1 : c.at i = some (t, q) := by rw [CT.at, if_neg (by omega), hx]
      rw [e1]
      have H0 := h.later ((Below.refl _ _).alloc (Nat.le_refl _) (.cells #[.int .u64 0, .string ⟨#[]⟩] 37))
      obtain ⟨a, cp, rfl, hcp, _, hsp⟩ := h.2.1.shape
      obtain ⟨a', cp', e0, _, hcells⟩ := H0.2.1.sl
      injection e0 with e2 e3 e4
      subst e2
      obtain ⟨g, o, rfl, hg, hcs⟩ := hcells (fun e => by rw [e] at hk; simp at hk)
      obtain rfl : o = 0 := by have := hsp _ rfl; simpa using this
      obtain ⟨d0, d1⟩ := hcs _ _ hx
      rw [Nat.zero_add] at d0 d1
      have HL' := Lib.hid (HL.out _ H0)
      obtain ⟨c0, c1, c2, c3, c4, c5⟩ := h.cells
      obtain ⟨g0, g1, g2, g3, g4, g5⟩ := H0.cells
      obtain ⟨k, hkk⟩ : ∃ k, k = i - c.base - 1 := ⟨_, rfl⟩
      have hi1 : IntKind.u64.wrap (IntKind.u64.wrap ((i : Int) - (c.base : Int)) - 1) = (k : Int) := by
        have e : ∀ x : Int, IntKind.u64.wrap x = x % 18446744073709551616 := fun x => by simp [IntKind.wrap, IntKind.signed, IntKind.bits]
        rw [e, e]; unfold m64 at hc; omega
      have hi2 : (i : Int) - (c.base : Int) - 1 = (k : Int) := by omega
      have hkI : (k : Int) < (c.ents.length : Int) := by omega
      have hk0 : (0 : Int) ≤ (k : Int) := by omega
      rw [← hkk] at d0 d1
      clear c0 c1 c3 c4 g0 g1 g3 g4 h hl hlast e1 h1 h2 H0 HL hcells hcs hx hkk e3 e4 hc hk
      go_enter Try.func32, Try.ntmps32
      go_wp2_with fail
      refine HL'.out.mono ?_
      rintro e w1 ⟨rfl, n1, rfl⟩
      go_wp2_with fail
      clear hsp
      go_region
      all_goals
        go_wp2_with fail
        exact bodyPost_ret (v := .tuple #[entV (some (t, q)), .bool (some (t, q) : Option Ent).isSome]) (by simp [results, Try.results32, go_sem, entV]) rfl ⟨rfl, by
          have h1 : Below w.heap.size w (w.alloc (.cells #[.int .u64 0, .string ⟨#[]⟩] 37)) := (Below.refl _ _).alloc (Nat.le_refl _) _
          exact ((h1.trans ((Same.of _ (n1 + 1)).below _)).setCell (Nat.le_refl _) _).setCell (Nat.le_refl _) _⟩

/-- The term at an index. -/
def CT.termAt (c : CT) (i : Nat) : Option Nat := if i = c.base then some c.bterm else (c.at i).map (·.1)
def numV : Option Nat → Value
  | some n => .int .u64 (n : Int)
  | none => .int .u64 0
set_option maxHeartbeats 1000000 in
set_option maxRecDepth 100000 in
theorem termAt_prog {ty : TypeId} {X : List Value} (b : Nat) (v : Value) (c : CT) (i : Nat) (w : World) (h : CtAt w b ty X v c) (hl : c.ents.length ≤ 1000000) (hc : c.base + c.ents.length < m64) :
    Calls Try.prog 44 #[.pointer (some ⟨b, 0, none⟩), .int .u64 (i : Int)] w fun e w' => e = .returned (.tuple #[numV (c.termAt i), .bool (c.termAt i).isSome]) ∧ Below w.heap.size w w' := by
  have H := Lib.hid (at_prog b v c i w h hl hc)
  obtain ⟨c0, c1, c2, c3, c4, c5⟩ := h.cells
  clear c0 c1 c4 c5 h hl hc
  by_cases h1 : i = c.base
  · have h1I : ((i : Int) == (c.base : Int)) = true := by simp [h1]
    have e1 : c.termAt i = some c.bterm := by simp [CT.termAt, h1]
    rw [e1]
    clear e1 h1
    go_enter Try.func44, Try.ntmps44
    go_wp2_with fail
    go_ret2
    exact ⟨rfl, Below.refl _ _⟩
  · have h1I : ((i : Int) == (c.base : Int)) = false := by simp; omega
    have e1 : c.termAt i = (c.at i).map (·.1) := by simp [CT.termAt, h1]
    rw [e1]
    obtain ⟨x, hx⟩ : ∃ x, c.at i = x := ⟨_, rfl⟩
    rw [hx] at H ⊢
    clear e1 h1 hx
    cases x with
    | none =>
      unfold entV at H
      go_enter Try.func44, Try.ntmps44
      go_wp2_with fail
      refine H.out.mono ?_
      rintro e w1 ⟨rfl, hb1⟩
      have HB := Lib.hid (hb1.trans ((Below.refl w1.heap.size w1).alloc (Nat.le_refl _) (.cells #[.int .u64 0, .string ⟨#[]⟩] 37) |>.mono hb1.size))
      clear hb1
      go_wp2_with fail
      go_ret2
      exact ⟨rfl, HB.out⟩
    | some y =>
      unfold entV at H
      go_enter Try.func44, Try.ntmps44
      go_wp2_with fail
      refine H.out.mono ?_
      rintro e w1 ⟨rfl, hb1⟩
      have HB := Lib.hid (hb1.trans ((Below.refl w1.heap.size w1).alloc (Nat.le_refl _) (.cells #[.int .u64 (y.1 : Int), .string y.2] 37) |>.mono hb1.size))
      clear hb1
      go_wp2_with fail
      go_ret2
      exact ⟨rfl, HB.out⟩
end Go.Proofs.Ytfocljmjejniiaa
