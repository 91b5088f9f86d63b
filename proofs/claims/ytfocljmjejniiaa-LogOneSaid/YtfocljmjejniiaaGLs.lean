/- log: a log with its disk as one thing, and calls that keep it good. -/
import Derived.Test.YtfocljmjejniiaaGHold
namespace Go.Proofs.Ytfocljmjejniiaa
open Go.RowKit

/-- Where a log lies: its block, its disk's, its entries' slice, its disk's bytes. -/
structure Lp where
  lb : Nat
  db : Nat
  v : Value
  dv : Value
def Lp.fp (p : Lp) (j : Nat) : Prop := j = p.lb ∨ j = p.db ∨ p.v.ownBlock = some j ∨ p.dv.ownBlock = some j
structure LS (w : World) (p : Lp) (c : CT) (T : ByteArray) (room : Nat) : Prop where
  log : LgAt w p.lb p.db false room p.v c
  disk : Dk w p.db p.dv T T.size false false 0
structure LX (p : Lp) (w w' : World) (p' : Lp) : Prop where
  os : w'.os = w.os
  tape : w'.tape = w.tape
  output : w'.output = w.output
  size : w.heap.size ≤ w'.heap.size
  block : ∀ j, j < w.heap.size → ¬ p.fp j → w'.heap[j]? = w.heap[j]?
  fp : ∀ j, p'.fp j → p.fp j ∨ w.heap.size ≤ j
def Dis (p q : Lp) : Prop := ∀ j, p.fp j → ¬ q.fp j
theorem Dis.symm {p q : Lp} (h : Dis p q) : Dis q p := fun j hq hp => h j hp hq
theorem LX.of {p : Lp} {w w' : World} {v' dv' : Value} (h : LCh p.lb p.db p.v p.dv w w' v' dv') : LX p w w' ⟨p.lb, p.db, v', dv'⟩ :=
  ⟨h.os, h.tape, h.output, h.size, fun j hj hn => h.block j hj (fun e => hn (.inl e)) (fun e => hn (.inr (.inl e))) (fun e => hn (.inr (.inr (.inl e)))) (fun e => hn (.inr (.inr (.inr e)))), fun j hj => by
    rcases hj with e | e | e | e
    · exact .inl (.inl e)
    · exact .inl (.inr (.inl e))
    · rcases h.vloc j e with e2 | e2
      · exact .inl (.inr (.inr (.inl e2)))
      · exact .inr e2
    · rcases h.dloc j e with e2 | e2
      · exact .inl (.inr (.inr (.inr e2)))
      · exact .inr e2⟩
theorem LX.ofBelow (p : Lp) {w w' : World} (h : Below w.heap.size w w') : LX p w w' p := ⟨h.os, h.tape, h.output, h.size, fun j hj _ => h.block j hj, fun _ h => .inl h⟩
theorem LX.trans {p q r : Lp} {w1 w2 w3 : World} (h : LX p w1 w2 q) (k : LX q w2 w3 r) : LX p w1 w3 r :=
  ⟨k.os.trans h.os, k.tape.trans h.tape, k.output.trans h.output, Nat.le_trans h.size k.size,
   fun j hj hn => (k.block j (Nat.lt_of_lt_of_le hj h.size) (fun e => by
     rcases h.fp j e with e2 | e2
     · exact hn e2
     · omega)).trans (h.block j hj hn),
   fun j hj => by
     rcases k.fp j hj with e | e
     · exact h.fp j e
     · exact .inr (Nat.le_trans h.size e)⟩
theorem LX.below {p q : Lp} {w w' : World} {B : Nat} (h : LX p w w' q) (hp : ∀ j, p.fp j → B ≤ j) (hB : B ≤ w.heap.size) : Below B w w' :=
  ⟨h.os, h.tape, h.output, h.size, fun j hj => h.block j (by omega) (fun e => by have := hp j e; omega)⟩
theorem LX.low {p q : Lp} {w w' : World} {B : Nat} (h : LX p w w' q) (hp : ∀ j, p.fp j → B ≤ j) (hB : B ≤ w.heap.size) : ∀ j, q.fp j → B ≤ j := fun j hj => by
  rcases h.fp j hj with e | e
  · exact hp j e
  · omega
section
variable {w w' : World} {p q r : Lp} {c c2 : CT} {T T2 : ByteArray} {room room2 : Nat}
theorem LS.lt (h : LS w p c T room) : ∀ j, p.fp j → j < w.heap.size := by
  intro j hj
  rcases hj with rfl | rfl | e | e
  · exact CtAt.lt h.log
  · exact h.disk.lt
  · exact h.log.2.1.lt j e
  · exact h.disk.2.1.lt j e
theorem LS.two (h : LS w p c T room) : Two p.lb p.db p.v p.dv := two_of h.log h.disk
theorem LS.later (h : LS w p c T room) (hb : Below w.heap.size w w') : LS w' p c T room := ⟨h.log.later hb, h.disk.later hb⟩
theorem LS.other (h : LS w q c T room) (hd : Dis p q) (hx : LX p w w' r) : LS w' q c T room := by
  have hk : ∀ j, q.fp j → w'.heap[j]? = w.heap[j]? := fun j hj => hx.block j (h.lt j hj) (fun e => hd j e hj)
  exact ⟨CtAt.mv h.log (hk _ (.inl rfl)) (fun j hj => hk j (.inr (.inr (.inl hj)))), h.disk.keep (hk _ (.inr (.inl rfl))) (fun j hj => hk j (.inr (.inr (.inr hj))))⟩
theorem Dis.step (hd : Dis p q) (hx : LX p w w' r) (hq : ∀ j, q.fp j → j < w.heap.size) : Dis r q := fun j hr hj => by
  rcases hx.fp j hr with e | e
  · exact hd j e hj
  · have := hq j hj; omega
end

/-- Entries of few bytes. -/
structure SmE (E : List Ent) : Prop where
  len : E.length ≤ 10
  ok : EntsOk E
  cmd : ∀ x ∈ E, x.2.size ≤ 100
theorem SmE.bytes : ∀ {E : List Ent}, (∀ x ∈ E, x.2.size ≤ 100) → (entsL E).length ≤ 116 * E.length
  | [], _ => by simp [entsL]
  | x :: E, h => by
    have h1 := h x (List.mem_cons_self ..)
    have h2 := SmE.bytes (E := E) (fun y hy => h y (List.mem_cons_of_mem _ hy))
    rw [entsL_cons]
    simp only [List.length_append, numL_len, textL, data_len, List.length_cons]
    omega
theorem SmE.bd {E : List Ent} (h : SmE E) : (entsL E).length ≤ 1160 := by have := SmE.bytes h.cmd; have := h.len; omega
theorem SmE.nil : SmE [] := ⟨by simp, fun _ h => (by cases h), fun _ h => (by cases h)⟩
theorem SmE.take {E : List Ent} (h : SmE E) (k : Nat) : SmE (E.take k) :=
  ⟨by rw [List.length_take]; have := h.len; omega, fun x hx => h.ok x (List.mem_of_mem_take hx), fun x hx => h.cmd x (List.mem_of_mem_take hx)⟩
/-- A content without base, with few entries. -/
def cE (t : Nat) (x : Int) (E : List Ent) : CT := ⟨t, x, 0, 0, ⟨#[]⟩, E⟩
theorem cE_ok {t : Nat} {x : Int} {E : List Ent} (h : SmE E) (ht : t < m64) (hx : -1 ≤ x) (hx2 : x < 9223372036854775808) : (cE t x E).Ok :=
  ⟨ht, hx, hx2, by have := h.len; simp only [cE]; unfold m64; omega, by simp [cE, m64], by simp only [cE]; decide, h.ok⟩
theorem cE_whole (t : Nat) (x : Int) {E : List Ent} (h : SmE E) : (wholeB (cE t x E)).size ≤ 1225 := by
  have h1 := h.bd
  have h0 : (⟨#[]⟩ : ByteArray).size = 0 := rfl
  rw [wholeB, recB_size, ofL_size, bodyL_len]
  simp only [cE, h0]; omega
theorem add_size (behind : Nat) (E : List Ent) : (addB behind E).size = 8 + (entsL E).length := by rw [addB, ofL_size, List.length_append, numL_len]

/-- What stands on the disk tells the content, and there isn't much of it. -/
structure Good (c : CT) (T : ByteArray) (room : Nat) : Prop where
  read : readC T = some c
  left : Left T c ∨ room = 0
  size : T.size + room ≤ 5000
theorem good_next {c c' : CT} {T : ByteArray} {room : Nat} {k : UInt8} {body : ByteArray} (h : Good c T room) (hc : c.Ok) (hw : (wholeB c).size ≤ 1225) (hb : body.size ≤ 1200) (hk : k = 249 ∨ k = 250) (hr : redoC c k body = some c') :
    Good c' (nextT c T room (recB k body)) (nextR c room (recB k body)) := by
  have hsz := recB_size k body
  have hbl : (bodyL c).length < m64 := by
    have : (wholeB c).size = (bodyL c).length + 25 := by rw [wholeB, recB_size, ofL_size]
    unfold m64; omega
  unfold nextT nextR
  by_cases h1 : room < (recB k body).size
  · rw [if_pos h1, if_pos h1]
    have hl := (Left.whole hc hbl).add hk (by unfold m64; omega) hr
    exact ⟨hl.read, .inl hl, by rw [ByteArray.size_append]; omega⟩
  · rw [if_neg h1, if_neg h1]
    have hl : Left (T ++ recB k body) c' := by
      rcases h.left with h2 | h2
      · exact h2.add hk (by unfold m64; omega) hr
      · omega
    exact ⟨hl.read, .inl hl, by have := h.size; rw [ByteArray.size_append]; omega⟩
theorem good_new : Good fresh ⟨#[]⟩ 0 := ⟨readC_nil, .inr rfl, by decide⟩
theorem Good.open {c : CT} {T : ByteArray} {room : Nat} (h : Good c T room) : Good c T 0 := ⟨h.read, .inr rfl, by have := h.size; omega⟩

section
variable {w : World} {p : Lp} {c : CT} {T : ByteArray} {room : Nat}
/-- Add, where all is small. -/
theorem add_ls (t : Nat) (x : Int) (E0 E : List Ent) (behind : Nat) (sv : Value) (h : LS w p (cE t x E0) T room) (hg : Good (cE t x E0) T room) (h0 : SmE E0) (hE : SmE E) (ht : t < m64) (hx : -1 ≤ x) (hx2 : x < 9223372036854775808) (hb : behind ≤ E0.length)
    (hsv : ESl w sv E) (hap : E ≠ [] → Apart p.lb p.v sv) :
    Calls Try.prog 8 #[.pointer (some ⟨p.lb, 0, none⟩), .int .u64 (behind : Int), sv] w fun e w' => e = .returned (.int .i64 0) ∧ ∃ p' T' room', p'.lb = p.lb ∧ p'.db = p.db ∧ LS w' p' (cE t x (E0.take behind ++ E)) T' room' ∧
      Good (cE t x (E0.take behind ++ E)) T' room' ∧ LX p w w' p' := by
  have hc := cE_ok h0 ht hx hx2
  have hw := cE_whole t x h0
  have hbl : behind < m64 := by have := h0.len; unfold m64; omega
  have hk : (cE t x E0).takes behind E.length = true := by
    have h1 := h0.len
    have h2 := hE.len
    have hl : (cE t x E0).lastN = E0.length := by rw [lastN_of hc.base]; simp [cE]
    simp only [CT.takes, hl, Bool.and_eq_true, decide_eq_true_eq]
    simp only [cE]
    omega
  have hsz := add_size behind E
  have hbd := hE.bd
  have hr := redo_add (cE t x E0) behind E hbl hE.ok hk
  have hgn := good_next hg hc hw (body := addB behind E) (by omega) (.inr rfl) hr
  refine (ladd_prog h.log h.disk behind sv E hsv hap hE.ok hk hbl hc (by omega) (by have := hg.size; omega) (by have := h0.len; simp only [cE]; omega)).mono ?_
  rintro e w' ⟨he, v', dv', hl, hd, hx⟩
  exact ⟨he, ⟨p.lb, p.db, v', dv'⟩, _, _, rfl, rfl, ⟨hl, hd⟩, hgn, LX.of hx⟩
theorem term_ls (t : Nat) (x : Int) (E0 : List Ent) (t2 : Nat) (x2 : Int) (h : LS w p (cE t x E0) T room) (hg : Good (cE t x E0) T room) (h0 : SmE E0) (ht : t < m64) (hx : -1 ≤ x) (hxx : x < 9223372036854775808) (ht2 : t2 < m64) (htt : t ≤ t2) (hx2 : -1 ≤ x2) (hx3 : x2 < 9223372036854775808) :
    Calls Try.prog 13 #[.pointer (some ⟨p.lb, 0, none⟩), .int .u64 (t2 : Int), .int .i64 x2] w fun e w' => e = .returned (.int .i64 0) ∧ ∃ p' T' room', p'.lb = p.lb ∧ p'.db = p.db ∧ LS w' p' (cE t2 x2 E0) T' room' ∧
      Good (cE t2 x2 E0) T' room' ∧ LX p w w' p' := by
  have hc := cE_ok h0 ht hx hxx
  have hw := cE_whole t x h0
  have hk : (cE t x E0).votes t2 x2 = true := by
    simp only [CT.votes, Bool.and_eq_true, decide_eq_true_eq]
    exact ⟨htt, hx2⟩
  have hsz : (voteB t2 x2).size = 16 := by rw [voteB, ofL_size, List.length_append, numL_len, numL_len]
  have hr := redo_vote (cE t x E0) t2 x2 ht2 hx3 hk
  have hgn := good_next hg hc hw (body := voteB t2 x2) (by omega) (.inl rfl) hr
  refine (lterm_prog h.log h.disk t2 x2 hk ht2 hx3 hc (by omega) (by have := hg.size; omega) (by have := h0.len; simp only [cE]; omega)).mono ?_
  rintro e w' ⟨he, v', dv', hl, hd, hx⟩
  exact ⟨he, ⟨p.lb, p.db, v', dv'⟩, _, _, rfl, rfl, ⟨hl, hd⟩, hgn, LX.of hx⟩
/-- Crash with nothing waiting, and Open: a log of its own over the same disk. -/
theorem crash0 {db : Nat} {dv : Value} (h : Dk w db dv T T.size false false 0) (hT : T.size ≤ 5000) :
    Calls Try.prog 11 #[.pointer (some ⟨db, 0, none⟩), .int .i64 0] w fun e w' => e = .returned (.tuple #[]) ∧ ∃ dv', Dk w' db dv' T T.size false false 0 ∧ Ch db dv w w' dv' := by
  have K := crash_prog h (Nat.le_refl _) (by omega) 0
  have e0 : T.size + min (0 : Int).toNat (T.size - T.size) = T.size := by simp
  have e1 : T.extract 0 T.size = T := by simp
  rw [e0, e1] at K
  exact K
end
end Go.Proofs.Ytfocljmjejniiaa
