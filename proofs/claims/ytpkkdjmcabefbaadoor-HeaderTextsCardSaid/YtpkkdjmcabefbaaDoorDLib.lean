/- Small laws on byte slices that a call owns, on append and on conversions: stated for every program. Arrays in variables: loaded, stored and handed back whole; worlds that part in one block alone. -/
import Derived.WalkKit
import Derived.WalkSpells
import Derived.WalkLawsBesides
import Derived.BigQuiet
import Derived.BigRegion
import Derived.Deep.QuietTactic
import Derived.Deep.RegionLaw
import Derived.Deep.RegionHeld3
import Derived.Deep.AppendLies
import Derived.Laws.CopyOwn
import Derived.Laws.IdiomStrings
import Derived.Lib.Hide
import Derived.Deep.OwnRows
import Derived.Deep.MidRow
import Derived.StillTailTactics
import Derived.Lib.AppendStr
import Derived.Laws.IdiomCopy
import Derived.ChangeKeysEq
namespace Go.Proofs.YtpkkdjmcabefbaaDoor
open Go.RowKit

/-- What a slice type's tables say, for elements of one cell. -/
structure Sl (P : Program) (t e : TypeId) (z : Value) (bytes : Nat) : Prop where
  und : P.underlying t = some (.slice e)
  info : (P.info? e).map (fun i => (i.zero, i.size, i.bytes)) = some (some z, 1, bytes)
  zc : z.cells.size = 1

def byteV (b : UInt8) : Value := .int .u8 (b.toNat : Int)

/-- The slice value v owns the elements xs. -/
def Owns (w : World) (B : Nat) (e : TypeId) (v : Value) (xs : List Value) : Prop := w.ownsRow B e 1 v xs.length xs

theorem Owns.nil (w : World) (B : Nat) (e : TypeId) : Owns w B e (.slice none 0 0) [] := World.ownsRow_nil _ _ _ _
theorem Owns.alloc {w : World} {B : Nat} {e : TypeId} {v : Value} {xs : List Value} (h : Owns w B e v xs) (o : Obj) : Owns (w.alloc o) B e v xs := World.ownsRow.alloc h o
theorem Owns.drew {w : World} {B : Nat} {e : TypeId} {v : Value} {xs : List Value} (h : Owns w B e v xs) : Owns w.drew B e v xs := h
theorem Owns.drewN {w : World} {B : Nat} {e : TypeId} {v : Value} {xs : List Value} (h : Owns w B e v xs) (n : Nat) : Owns (w.drewN n) B e v xs := h

theorem Owns.later {w w' : World} {B : Nat} {e : TypeId} {v : Value} {xs : List Value} (h : Owns w B e v xs) (hb : Below w.heap.size w w') : Owns w' B e v xs := by
  refine ⟨h.1, ?_⟩
  rcases h.2 with h0 | ⟨g, cap, cur, hv, hB, hg, h1, h2, h3, h4⟩
  · exact .inl h0
  · refine .inr ⟨g, cap, cur, hv, hB, ?_, h1, h2, h3, h4⟩
    rw [hb.block g ?_]; · exact hg
    rcases Nat.lt_or_ge g w.heap.size with hlt | hge
    · exact hlt
    · rw [Array.getElem?_eq_none hge] at hg; cases hg

theorem Owns.shape {w : World} {B : Nat} {e : TypeId} {v : Value} {xs : List Value} (h : Owns w B e v xs) : ∃ a cap, v = .slice a xs.length cap := by
  rcases h.2 with ⟨hv, h0⟩ | ⟨g, cap, cur, hv, _⟩
  · exact ⟨none, 0, by rw [h0]; exact hv⟩
  · exact ⟨_, cap, hv⟩

theorem Owns.cell {w : World} {B : Nat} {e : TypeId} {a : Addr} {n cap : Nat} {xs : List Value} (h : Owns w B e (.slice (some a) n cap) xs) (j : Nat) (hj : j < xs.length) :
    w.cell? (a.add j) = some xs[j] := by
  rcases h.2 with ⟨hv, _⟩ | ⟨g, cap', cur, hv, _, hg, _⟩
  · cases hv
  · cases hv
    exact World.ownsRow.cells h rfl j _ (by simp [hj])

theorem Below.ofGrown {w w' : World} {B : Nat} {e : TypeId} {v : Value} {n : Nat} {xs : List Value} (h : w.ownsRow B e 1 v n xs) (hg : w.grownBy w' v.ownBlock) (hB : B ≤ w.heap.size) : Below B w w' :=
  (Below.refl B w).grown hg hB fun k hk => (World.ownsRow.lt h k hk).1

def strLen : Value → Nat
  | .string q => q.size
  | _ => 0

/-- The world w' is w but for draws. -/
def Same (w w' : World) : Prop := ∃ n, w' = w.drewN n
theorem Same.refl (w : World) : Same w w := ⟨0, rfl⟩
theorem Same.of (w : World) (n : Nat) : Same w (w.drewN n) := ⟨n, rfl⟩
theorem Same.drew {a w : World} (h : Same a w) : Same a w.drew := by obtain ⟨n, rfl⟩ := h; exact ⟨n + 1, rfl⟩
theorem Same.trans {a b c : World} (h : Same a b) (k : Same b c) : Same a c := by
  obtain ⟨n, rfl⟩ := h; obtain ⟨m, rfl⟩ := k; exact ⟨n + m, by rw [World.drewN_drewN]⟩
theorem Same.below {a w : World} (h : Same a w) (B : Nat) : Below B a w := by
  obtain ⟨n, rfl⟩ := h; exact ⟨rfl, rfl, rfl, Nat.le_refl _, fun _ _ => rfl⟩
theorem Same.size {a w : World} (h : Same a w) : w.heap.size = a.heap.size := by obtain ⟨n, rfl⟩ := h; rfl
theorem Owns.same {w w' : World} {B : Nat} {e : TypeId} {v : Value} {xs : List Value} (h : Owns w B e v xs) (hs : Same w w') : Owns w' B e v xs := h.later (hs.below _)

/-- Contracts at a call in a region that only reads. -/
theorem quietS {P : Program} {f : FuncId} {args : Array Value} {w : World} {n : Nat} {v : Value} (h : Calls P f args (w.drewN n) fun e w' => e = .returned v ∧ Same (w.drewN n) w') :
    Calls P f args (w.drewN n) fun e w'' => e = .returned v ∧ ∃ m, w'' = w.drewN m :=
  Calls.quiet_of (h.mono fun _ _ h => h)
theorem quietE {P : Program} {f : FuncId} {args : Array Value} {w : World} {n : Nat} {v : Value} (h : Calls P f args (w.drewN n) fun e w' => e = .returned v ∧ w.drewN n = w') :
    Calls P f args (w.drewN n) fun e w'' => e = .returned v ∧ ∃ m, w'' = w.drewN m :=
  Calls.quiet_of_same (h.mono fun _ _ h => ⟨h.1, h.2.symm⟩)

theorem quietS2 {P : Program} {f : FuncId} {args : Array Value} {w : World} {a n : Nat} {v : Value} (h : Calls P f args (w.drewN (a + n)) fun e w' => e = .returned v ∧ Same (w.drewN (a + n)) w') :
    Calls P f args (w.drewN (a + n)) fun e w'' => e = .returned v ∧ ∃ m, w'' = w.drewN (a + m) :=
  h.mono fun _ _ ⟨he, m, hm⟩ => ⟨he, n + m, by rw [hm, World.drewN_drewN, Nat.add_assoc]⟩
theorem quietE2 {P : Program} {f : FuncId} {args : Array Value} {w : World} {a n : Nat} {v : Value} (h : Calls P f args (w.drewN (a + n)) fun e w' => e = .returned v ∧ w.drewN (a + n) = w') :
    Calls P f args (w.drewN (a + n)) fun e w'' => e = .returned v ∧ ∃ m, w'' = w.drewN (a + m) :=
  h.mono fun _ _ ⟨he, hm⟩ => ⟨he, n, hm.symm⟩

section
variable {P : Program} {w : World} {t e : TypeId} {z : Value} {bytes : Nat}

theorem heap_at_alloc (w : World) (o : Obj) : (w.alloc o).heap[w.heap.size]? = some o := heap_alloc_new w o

/-- append at a step of a region that draws: what is appended lies in a block that is known whole. -/
theorem step_app {ops : Array Oper} {o : Oper} {a : Act} {K : Act → World → Prop} {Q : Exit → Act → World → Prop} {E : Prop} (S : Sl P t e z bytes) (hgd : o.guard = none) (s x : Operand)
    (ho : o.op = .call { callee := .builtin .append, args := #[s, x], argTypes := #[t, t] })
    (B : Nat) (v : Value) (xs : List Value) (hs : a.eval s = v) (hown : Owns w B e v xs)
    (g0 : Nat) (news : List Value) (hx : a.eval x = .slice (some ⟨g0, 0, none⟩) news.length news.length) (hblk : w.heap[g0]? = some (.cells news.toArray e (0, 0))) (h1 : ∀ u ∈ news, u.oneCell' = true)
    (hm : 0 < news.length) (h63 : xs.length + news.length ≤ maxLen) (hbytes : (xs.length + news.length) * bytes ≤ 140737488355328) (hbase : B ≤ w.heap.size)
    (h : ∀ v' w', Owns w' B e v' (xs ++ news) → Below B w w' → K (a.put o.dst v') w') :
    if Region.wanted o (yielded ops a.tmps) = true then Oper.wp P o a w K Q else E := by
  obtain ⟨i, hi, hz, hsz, hby⟩ := info_parts S.info
  refine step_append_lies w hgd s x t ho B e i z 1 bytes S.und hi hz hsz hby S.zc (by omega) v xs.length xs hs hown ⟨g0, 0, none⟩ news.length news.length news hx (by omega)
    (by simpa using World.news_of_block hblk) h1 hm h63 hbytes hbase _ rfl ?_
  intro g cap w' h2 h3 _ _
  refine h _ w' ?_ (Below.ofGrown hown h3 hbase)
  unfold Owns; rw [List.length_append]; exact h2

/-- append at a plain region's list: what is appended lies in a block that is known whole. -/
theorem list_app {ops : Array Oper} {rest : List Oper} {o : Oper} {a : Act} {Q : Exit → Act → World → Prop} (S : Sl P t e z bytes) (hgd : o.guard = none) (s x : Operand)
    (ho : o.op = .call { callee := .builtin .append, args := #[s, x], argTypes := #[t, t] })
    (B : Nat) (v : Value) (xs : List Value) (hs : a.eval s = v) (hown : Owns w B e v xs)
    (g0 : Nat) (news : List Value) (hx : a.eval x = .slice (some ⟨g0, 0, none⟩) news.length news.length) (hblk : w.heap[g0]? = some (.cells news.toArray e (0, 0))) (h1 : ∀ u ∈ news, u.oneCell' = true)
    (hm : 0 < news.length) (h63 : xs.length + news.length ≤ maxLen) (hbytes : (xs.length + news.length) * bytes ≤ 140737488355328) (hbase : B ≤ w.heap.size)
    (h : ∀ v' w', Owns w' B e v' (xs ++ news) → Below B w w' → wpList P ops Q rest (a.put o.dst v') w') :
    wpList P ops Q (o :: rest) a w := by
  obtain ⟨i, hi, hz, hsz, hby⟩ := info_parts S.info
  refine wpList_append_lies w hgd s x t ho B e i z 1 bytes S.und hi hz hsz hby S.zc (by omega) v xs.length xs hs hown ⟨g0, 0, none⟩ news.length news.length news hx (by omega)
    (by simpa using World.news_of_block hblk) h1 hm h63 hbytes hbase _ rfl ?_
  intro g cap w' h2 h3 _ _
  refine h _ w' ?_ (Below.ofGrown hown h3 hbase)
  unfold Owns; rw [List.length_append]; exact h2

/-- make([]T, 0, n). -/
theorem list_make0 {ops : Array Oper} {rest : List Oper} {o : Oper} {a : Act} {Q : Exit → Act → World → Prop} (S : Sl P t e z bytes) (hgd : o.guard = none) (l c : Operand)
    (ho : o.op = .makeSlice t l c) (n : Nat) (hl : a.eval l = .int .i64 0) (C : Int) (hc : a.eval c = .int .i64 C) (hC : C = (n : Int)) (b2 : bytes * n ≤ 281474976710656) (b3 : n ≤ maxLen)
    (h : ∀ w', Owns w' w.heap.size e (.slice (some ⟨w.heap.size, 0, none⟩) 0 n) [] → Below w.heap.size w w' → wpList P ops Q rest (a.put o.dst (.slice (some ⟨w.heap.size, 0, none⟩) 0 n)) w') :
    wpList P ops Q (o :: rest) a w := by
  obtain ⟨i, hi, hz, hsz, hby⟩ := info_parts S.info
  refine wpList_make_own w hgd l c t ho w.heap.size e i z 1 S.und hi hz hsz .i64 .i64 C n hl hc hC (by rw [hby]; exact b2) b3 (Nat.le_refl _) ?_
  intro w' h1 h2
  exact h w' h1 ((Below.refl _ w).grown h2 (Nat.le_refl _) (by intro k hk; cases hk))

/-- string(b), b owned bytes. -/
theorem run_string_owned {src dst : TypeId} (hs : P.underlying src = some (.slice e)) (he : P.underlying e = some (.int .u8)) (hd : P.underlying dst = some .string)
    {B : Nat} {v : Value} {l : List UInt8} (h : Owns w B e v (l.map byteV)) : (convert src dst v).run P w = .ok (.string ⟨l.toArray⟩) w := by
  obtain ⟨a, cap, rfl⟩ := h.shape
  cases a with
  | none =>
    rcases h.2 with ⟨hv, h0⟩ | ⟨g, cap', cur, hv, _⟩
    · have hl : l = [] := by cases l with
        | nil => rfl
        | cons _ _ => simp at h0
      subst hl
      rw [run_convert_bytes_string w src dst e none _ _ hs he hd]
      rfl
    · cases hv
  | some ad =>
    have hc := run_convert_bytes_back (P := P) w src dst e ad cap l hs he hd (fun j hj => by
      have := h.cell j (by simpa using hj)
      rw [this]; simp [byteV])
    simpa using hc

/-- string of a block that was laid just now. -/
theorem run_string_block {src dst : TypeId} (hs : P.underlying src = some (.slice e)) (he : P.underlying e = some (.int .u8)) (hd : P.underlying dst = some .string)
    (g cap : Nat) (l : List UInt8) (hb : w.heap[g]? = some (.cells (l.map byteV).toArray e (0, 0))) : (convert src dst (.slice (some ⟨g, 0, none⟩) l.length cap)).run P w = .ok (.string ⟨l.toArray⟩) w := by
  refine run_convert_bytes_back (P := P) w src dst e ⟨g, 0, none⟩ cap l hs he hd (fun j hj => ?_)
  exact World.news_of_block hb j _ (by simp [hj, byteV])

/-- string of a whole block of bytes, whatever its type's number. -/
theorem run_string_row {src dst : TypeId} (hs : P.underlying src = some (.slice e)) (he : P.underlying e = some (.int .u8)) (hd : P.underlying dst = some .string)
    (g cap : Nat) (l : List UInt8) {tb : TypeId} (hb : w.heap[g]? = some (.cells (l.map byteV).toArray tb (0, 0))) : (convert src dst (.slice (some ⟨g, 0, none⟩) l.length cap)).run P w = .ok (.string ⟨l.toArray⟩) w := by
  refine run_convert_bytes_back (P := P) w src dst e ⟨g, 0, none⟩ cap l hs he hd (fun j hj => ?_)
  exact World.news_of_block hb j _ (by simp [hj, byteV])

theorem rowIs_later {w w' : World} {b : Nat} {t : TypeId} {n : Nat} {f : Nat → Value} (h : w.rowIs b t n f) (hb : Below w.heap.size w w') : w'.rowIs b t n f := h.of_block (hb.block b h.lt)
theorem rowIs_below {w w' : World} {B b : Nat} {t : TypeId} {n : Nat} {f : Nat → Value} (h : w.rowIs b t n f) (hb : Below B w w') (hlt : b < B) : w'.rowIs b t n f := h.of_block (hb.block b hlt)
theorem rowIs_same {w w' : World} {b : Nat} {t : TypeId} {n : Nat} {f : Nat → Value} (h : w.rowIs b t n f) (hs : Same w w') : w'.rowIs b t n f := rowIs_later h (hs.below _)

/-- make([]T, n), n > 0. -/
theorem list_makeN {ops : Array Oper} {rest : List Oper} {o : Oper} {a : Act} {Q : Exit → Act → World → Prop} (S : Sl P t e z bytes) (hgd : o.guard = none) (l c : Operand)
    (ho : o.op = .makeSlice t l c) (n : Nat) (L C : Int) (hl : a.eval l = .int .i64 L) (hc : a.eval c = .int .i64 C) (hL : L = (n : Int)) (hC : C = (n : Int)) (b2 : bytes * n ≤ 281474976710656) (b3 : n ≤ maxLen)
    (h1 : z.cells = #[z]) (h : ∀ w', w'.rowIs w.heap.size e n (fun _ => z) → Below w.heap.size w w' → wpList P ops Q rest (a.put o.dst (.slice (some ⟨w.heap.size, 0, none⟩) n n)) w') :
    wpList P ops Q (o :: rest) a w := by
  obtain ⟨i, hi, hz, hsz, hby⟩ := info_parts S.info
  refine wpList_make_full w hgd l c t ho w.heap.size e i z 1 S.und hi hz hsz .i64 .i64 L C n hl hc hL hC (by rw [hby]; exact b2) b3 (Nat.le_refl _) ?_
  intro w' h2 h3
  refine h w' ?_ ((Below.refl _ w).grown h3 (Nat.le_refl _) (by intro k hk; cases hk))
  rcases h2.2 with ⟨hv, _⟩ | ⟨g, cap, cur, hv, hB, hg, h4, h5, h6, h7⟩
  · cases hv
  · cases hv
    refine ⟨cur, hg, by simpa using h6, fun j hj => ?_⟩
    have h8 : cur.toList = (madeCells z.cells (n * 1)).toList := by
      rw [← h7, List.take_of_length_le (by simp [h6])]
    have h9 : cur = madeCells z.cells (n * 1) := Array.toList_inj.1 h8
    rw [h9, h1]
    simp [madeCells, hj, Nat.mod_one]

/-- copy(y, x), y a row of the call's own, x as long. -/
theorem list_copy_row {ops : Array Oper} {rest : List Oper} {o : Oper} {a : Act} {Q : Exit → Act → World → Prop} (S : Sl P t e z bytes) (hgd : o.guard = none) (d s : Operand)
    (ho : o.op = .call { callee := .builtin .copy, args := #[d, s], argTypes := #[t, t] }) (g n : Nat) (hd : a.eval d = .slice (some ⟨g, 0, none⟩) n n) (f : Nat → Value) (hrow : w.rowIs g e n f)
    (gs sc : Nat) (hs : a.eval s = .slice (some ⟨gs, 0, none⟩) n sc) (X : Nat → Value) (hsrc : ∀ j, j < n → w.cell? ⟨gs, j, none⟩ = some (X j)) (h1 : ∀ j, (X j).oneCell' = true)
    (h : ∀ w', w'.rowIs g e n X → Below g w w' → wpList P ops Q rest (a.put o.dst (goInt n)) w') : wpList P ops Q (o :: rest) a w := by
  obtain ⟨i, hi, hz, hsz, hby⟩ := info_parts S.info
  obtain ⟨c, hg, hn, hc⟩ := hrow
  refine wpList_copy_splice hgd d s t t ho e S.und (by rw [hi]; simp [hsz]) _ _ n n n sc hd hs g 0 c.toList e (by simpa using hg) ((List.range n).map X) (by simp) ?_ (by simp [hn]) ?_ g w (Below.refl _ _) (Nat.le_refl _) ?_
  · intro _
    refine ⟨rfl, _, rfl, fun j v hv => ?_⟩
    have hj : j < n := by
      have := (List.getElem?_eq_some_iff.1 hv).1
      simpa using this
    simp [hj] at hv
    subst hv
    have := hsrc j hj
    unfold Addr.add
    split
    · rename_i h0; subst h0; exact this
    · simpa using this
  · intro v hv; simp at hv; obtain ⟨j, _, rfl⟩ := hv; exact h1 j
  · intro w' hw hb
    have H := h w' ⟨_, hw.out, by simp [splice, hn], fun j hj => by simp [splice]; rw [List.getElem?_append_left (by simpa using hj)]; simp [hj]⟩ hb
    simpa using H
end

theorem row_put {w : World} {g e n : Nat} {f f' : Nat → Value} (h : w.rowIs g e n f) (i : Nat) (v : Value) (hf : ∀ j, j < n → f' j = if j = i then v else f j) : (w.setCell ⟨g, i, none⟩ v).rowIs g e n f' :=
  (h.set i v).congr fun j hj => (hf j hj).symm
theorem cell_set_ne (w : World) (g i j : Nat) (v u : Value) (h : w.cell? ⟨g, j, none⟩ = some u) (hne : j ≠ i) : (w.setCell ⟨g, i, none⟩ v).cell? ⟨g, j, none⟩ = some u := by
  rw [← h]
  simp only [World.cell?, World.setCell, Array.getElem?_modify]
  cases hb : w.heap[g]? with
  | none => simp
  | some o => cases o <;> simp [Ne.symm hne]
end Go.Proofs.YtpkkdjmcabefbaaDoor
namespace Go.Proofs.YtpkkdjmcabefbaaDoor
open Go.RowKit

def arrL (n : Nat) (f : Nat → Value) : List Value := (List.range n).map f
theorem arrL_length (n : Nat) (f : Nat → Value) : (arrL n f).length = n := by simp [arrL]
theorem arrL_get (n : Nat) (f : Nat → Value) (j : Nat) (h : j < n) : (arrL n f)[j]? = some (f j) := by simp [arrL, h]

theorem rowIs_block {w : World} {g n : Nat} {t : TypeId} {f : Nat → Value} (h : w.rowIs g t n f) : w.heap[g]? = some (.cells (arrL n f).toArray t (0, 0)) := by
  obtain ⟨c, hg, hn, hc⟩ := h
  rw [hg]
  have : c = (arrL n f).toArray := by
    apply Array.ext (by simp [arrL, hn])
    intro i h1 h2
    have h3 := hc i (by omega)
    rw [Array.getElem?_eq_getElem h1] at h3
    simp [arrL]; exact Option.some.inj h3
  rw [this]
theorem rowIs_of_block {w : World} {g n : Nat} {t : TypeId} {f : Nat → Value} (h : w.heap[g]? = some (.cells (arrL n f).toArray t (0, 0))) : w.rowIs g t n f :=
  ⟨_, h, by simp [arrL], fun i hi => by simp [arrL, hi]⟩

/-- w' is w but for block g and for new blocks. -/
structure Only (g : Nat) (w w' : World) : Prop where
  os : w'.os = w.os
  tape : w'.tape = w.tape
  output : w'.output = w.output
  size : w.heap.size ≤ w'.heap.size
  block : ∀ k, k < w.heap.size → k ≠ g → w'.heap[k]? = w.heap[k]?
theorem Only.refl (g : Nat) (w : World) : Only g w w := ⟨rfl, rfl, rfl, Nat.le_refl _, fun _ _ _ => rfl⟩
theorem Only.trans {g : Nat} {a b c : World} (h : Only g a b) (k : Only g b c) : Only g a c :=
  ⟨k.os.trans h.os, k.tape.trans h.tape, k.output.trans h.output, Nat.le_trans h.size k.size, fun i hi hg => (k.block i (Nat.lt_of_lt_of_le hi h.size) hg).trans (h.block i hi hg)⟩
theorem Only.ofBelow {g : Nat} {w w' : World} (h : Below w.heap.size w w') : Only g w w' := ⟨h.os, h.tape, h.output, h.size, fun k hk _ => h.block k hk⟩
theorem Only.ofSame {g : Nat} {w w' : World} (h : Same w w') : Only g w w' := .ofBelow (h.below _)
theorem Only.drew {g : Nat} {a w : World} (h : Only g a w) : Only g a w.drew := ⟨h.os, h.tape, h.output, h.size, h.block⟩
theorem Only.alloc {g : Nat} {a w : World} (h : Only g a w) (o : Obj) : Only g a (w.alloc o) := h.trans (.ofBelow ((Below.refl _ _).alloc (Nat.le_refl _) o))
theorem Only.setCell {g : Nat} {a w : World} (h : Only g a w) (i : Nat) (v : Value) : Only g a (w.setCell ⟨g, i, none⟩ v) :=
  h.trans ⟨rfl, rfl, rfl, by simp [World.setCell], fun _ _ hg => Below.heap_setCell _ _ _ _ hg⟩
theorem Only.below {g B : Nat} {w w' : World} (h : Only g w w') (hB : B ≤ g) (hw : B ≤ w.heap.size) : Below B w w' := ⟨h.os, h.tape, h.output, h.size, fun k hk => h.block k (by omega) (by omega)⟩
theorem Only.row {g b n : Nat} {t : TypeId} {f : Nat → Value} {w w' : World} (h : Only g w w') (hr : w.rowIs b t n f) (hb : b ≠ g) : w'.rowIs b t n f := hr.of_block (h.block b hr.lt hb)
theorem Only.cell {g b j : Nat} {v : Value} {w w' : World} (h : Only g w w') (hc : w.cell? ⟨b, j, none⟩ = some v) (hb : b ≠ g) : w'.cell? ⟨b, j, none⟩ = some v := by
  have hlt := World.block_lt_of_cell? w _ hc
  rw [← hc]; exact World.cell?_of_block (w := w) (h.block b hlt hb)

theorem setCells_heap : ∀ (vs : List Value) (w : World) (g o : Nat) (c : Array Value) (t : TypeId), w.heap[g]? = some (.cells c t (0, 0)) → o + vs.length ≤ c.size →
    (w.setCells g o vs).heap[g]? = some (.cells (c.toList.take o ++ vs ++ c.toList.drop (o + vs.length)).toArray t (0, 0)) ∧ Only g w (w.setCells g o vs)
  | [], w, g, o, c, t, h, hl => ⟨by simpa [World.setCells] using h, Only.refl _ _⟩
  | v :: r, w, g, o, c, t, h, hl => by
    have hl' : o + 1 + r.length ≤ c.size := by simp at hl; omega
    have h1 := heap_setCell_same w g o c t v h
    obtain ⟨h2, h3⟩ := setCells_heap r (w.setCell ⟨g, o, none⟩ v) g (o + 1) (c.setIfInBounds o v) t h1 (by simpa using hl')
    refine ⟨?_, ((Only.refl g w).setCell o v).trans h3⟩
    show ((w.setCell ⟨g, o, none⟩ v).setCells g (o + 1) r).heap[g]? = _
    rw [h2]
    congr 3
    have ho : o < c.toList.length := by simp; omega
    have e1 : (c.setIfInBounds o v).toList = c.toList.set o v := by simp
    rw [e1]
    have e2 : (c.toList.set o v).take (o + 1) = c.toList.take o ++ [v] := by
      rw [List.take_succ_eq_append_getElem (by simpa using ho), List.take_set_of_le (Nat.le_refl _)]
      simp
    have e3 : (c.toList.set o v).drop (o + 1 + r.length) = c.toList.drop (o + (v :: r).length) := by
      rw [List.drop_set_of_lt (by omega)]; simp; congr 1; omega
    rw [e2, e3]; simp

section
variable {P : Program} {w : World}

/-- A load of a whole array out of a variable. -/
theorem list_load_arr {ops : Array Oper} {rest : List Oper} {o : Oper} {a : Act} {Q : Exit → Act → World → Prop} {ty e : TypeId} {n : Nat} (hu : P.underlying ty = some (.array n e)) (hi : (P.info? ty).map (·.size) = some n)
    (hgd : o.guard = none) (x : Operand) (ho : o.op = .load ty x) (g : Nat) (t : TypeId) (f : Nat → Value) (hx : a.eval x = .pointer (some ⟨g, 0, none⟩)) (hr : w.rowIs g t n f)
    (h : wpList P ops Q rest (a.put o.dst (.agg (arrL n f).toArray)) w) : wpList P ops Q (o :: rest) a w :=
  wpList_load_row hgd ty x ho g hx t _ (0, 0) _ (rowIs_block hr) hu rfl (by rw [hi]; simp [arrL]) h

/-- A store of a whole array into a variable. -/
theorem list_store_arr {ops : Array Oper} {rest : List Oper} {o : Oper} {a : Act} {Q : Exit → Act → World → Prop} {ty : TypeId} {n : Nat} (hi : (P.info? ty).map (·.size) = some n)
    (hgd : o.guard = none) (x y : Operand) (ho : o.op = .store ty x y) (g : Nat) (t : TypeId) (f0 f : Nat → Value) (hx : a.eval x = .pointer (some ⟨g, 0, none⟩)) (hy : a.eval y = .agg (arrL n f).toArray)
    (hr : w.rowIs g t n f0) (h1 : ∀ j, (f j).oneCell' = true)
    (h : ∀ w', w'.rowIs g t n f → Only g w w' → wpList P ops Q rest (a.put o.dst undef) w') : wpList P ops Q (o :: rest) a w := by
  have hb := rowIs_block hr
  refine wpList_store_mid hgd ty x y ho g 0 _ hx hy ?_ (by rw [hi]; simp [arrL]) (all_oneCell_toArray (by
    intro v hv; simp [arrL] at hv; obtain ⟨j, _, rfl⟩ := hv; exact h1 j)) ?_
  · intro j hj
    have hj' : j < n := by simpa [arrL] using hj
    rw [Nat.zero_add]
    exact ⟨by rw [hr.cell hj']; rfl, hr.frozen j⟩
  · obtain ⟨h2, h3⟩ := setCells_heap (arrL n f) w g 0 _ t hb (by simp [arrL])
    refine h _ (rowIs_of_block ?_) (by simpa using h3)
    have : (w.setCells g 0 (arrL n f).toArray.toList) = w.setCells g 0 (arrL n f) := by simp
    rw [this, h2]
    simp [arrL]

/-- The result lies in a variable of an array's type. -/
theorem ret_arr {fn : Func} {R : Ending → World → Prop} {a : Act} {p : Tmp} {ty e : TypeId} {n g : Nat} {t : TypeId} {f : Nat → Value} (h : fn.results = #[.cell p ty])
    (hu : P.underlying ty = some (.array n e)) (hi : (P.info? ty).map (·.size) = some n) (hp : a.tmps.getD p undef = .pointer (some ⟨g, 0, none⟩)) (hr : w.rowIs g t n f) (hd : a.defers = [])
    (hR : R (.returned (.agg (arrL n f).toArray)) w) : bodyPost P fn R .ret a w :=
  bodyPost_ret (results_cell_row h a.tmps w g t _ (0, 0) _ hp (rowIs_block hr) hu rfl (by rw [hi]; simp [arrL])) hd hR
end
theorem rowIs_rep {w : World} {c : Array Value} {t : TypeId} {n : Nat} {v : Value} (h : c = Array.replicate n v) : (w.alloc (.cells c t)).rowIs w.heap.size t n (fun _ => v) :=
  ⟨c, heap_at_alloc w _, by simp [h], fun i hi => by simp [h, hi]⟩

section
variable {P : Program} {w : World}

/-- append(b, s...), s a string. -/
theorem list_app_str {ops : Array Oper} {rest : List Oper} {o : Oper} {a : Act} {Q : Exit → Act → World → Prop} {t e u : TypeId} (S : Sl P t e (.int .u8 0) 1) (hu : P.underlying u = some .string) (hgd : o.guard = none) (sl x : Operand)
    (ho : o.op = .call { callee := .builtin .append, args := #[sl, x], argTypes := #[t, u] }) (B : Nat) (v : Value) (xs : List UInt8) (hs : a.eval sl = v) (hown : Owns w B e v (xs.map byteV)) (s : ByteArray) (hx : a.eval x = .string s)
    (h63 : xs.length + s.size ≤ maxLen) (hbytes : xs.length + s.size ≤ 140737488355328) (hbase : B ≤ w.heap.size)
    (h : ∀ v' w', Owns w' B e v' ((xs ++ s.data.toList).map byteV) → Below B w w' → wpList P ops Q rest (a.put o.dst v') w') : wpList P ops Q (o :: rest) a w := by
  obtain ⟨i, hi, hz, hsz, hby⟩ := info_parts S.info
  refine Lib.wpList_append_own_string w hgd sl x t u ho B e i S.und hu hi hz hsz hby v (xs.map byteV).length (xs.map byteV) hs hown s hx (by simpa using h63) (by simpa using hbytes) hbase ?_
  intro v' w' h1 h2 _
  refine h v' w' ?_ (Below.ofGrown hown h2 hbase)
  unfold Owns
  have e1 : (xs ++ s.data.toList).map byteV = xs.map byteV ++ Lib.strCells s := by rw [List.map_append]; rfl
  have e2 : ((xs ++ s.data.toList).map byteV).length = (xs.map byteV).length + s.size := by simp
  rw [e2, e1]; exact h1

theorem run_index_arr {ty e : TypeId} {n : Nat} (hu : P.underlying ty = some (.array n e)) (he : P.plainKey e = true) (hc : P.cellsOf e = 1) (i : TypeInfo) (hi : P.info? e = some i) (f : Nat → Value) (k : Nat) (hk : k < n) :
    (Instr.index ty (.agg (arrL n f).toArray) (.int .i64 k)).run P w = .ok (f k) w := by
  have hp := run_part_plain (P := P) (w := w) he (xs := (arrL n f).toArray) (off := k) (v := f k) (by simp [arrL, hk])
  simp [Instr.index, asIntOf, run_underlying hu, run_sizeOf w hi, hc, hp, hk]

theorem run_copy_str (dT sT ty elem : TypeId) (g dLen dCap m : Nat) (s : ByteArray) (hm : m = Nat.min s.size dLen) (hu : P.underlying dT = some (.slice elem)) (hs : (P.info? elem).map (·.size) = some 1)
    (hc : ∀ j, j < m → (w.cell? ⟨g, j, none⟩).isSome = true) (hf : ∀ j, j < m → w.frozen? ⟨g, j, none⟩ = false) :
    (Builtin.copy_ #[dT, sT] ty #[.slice (some ⟨g, 0, none⟩) dLen dCap, .string s]).run P w = .ok (goInt m) (w.setCells g 0 ((s.data.toList.take m).map byteV)) := by
  have hl : ((s.data.toList.take m).map byteV).length = m := by
    simp [hm, Nat.min_le_left]
  have hst := run_storeCells_cells (P := P) g 0 ((s.data.toList.take m).map byteV) 0 w (by rw [hl]; simpa using hc) (by rw [hl]; simpa using hf) (by intro v hv; obtain ⟨b, _, rfl⟩ := List.mem_map.1 hv; rfl)
  have he0 : (s.extract 0 m).data.toList = s.data.toList.take m := by simp
  have he : ((s.extract 0 m).data.map fun b => Value.int .u8 b.toNat).toList = (s.data.toList.take m).map byteV := by rw [Array.toList_map, he0]; rfl
  cases hq : P.info? elem with
  | none => simp [hq] at hs
  | some i =>
    have h1 : i.size = 1 := by simpa [hq] using hs
    rw [Nat.zero_add] at hst
    simp only [Builtin.copy_, List.getElem?_toArray, List.getElem?_cons_zero, List.getElem?_cons_succ, Sem.run_bind, Sem.run_pure, Result.andThen_ok, run_underlying hu, Builtin.lenOf, ← hm, sizeOf, typeInfo, Builtin.firstCells, he]
    rw [List.map_take] at hst ⊢
    simp [hq, hst]

/-- copy(b, s), b a row of bytes, s a string. -/
theorem list_copy_str {ops : Array Oper} {rest : List Oper} {o : Oper} {a : Act} {Q : Exit → Act → World → Prop} {dT sT e : TypeId} (hu : P.underlying dT = some (.slice e)) (hs : (P.info? e).map (·.size) = some 1) (hgd : o.guard = none) (d s : Operand)
    (ho : o.op = .call { callee := .builtin .copy, args := #[d, s], argTypes := #[dT, sT] }) (g n : Nat) (hd : a.eval d = .slice (some ⟨g, 0, none⟩) n n) (key : ByteArray) (hx : a.eval s = .string key)
    (t : TypeId) (f0 : Nat → Value) (hr : w.rowIs g t n f0)
    (h : ∀ w', w'.rowIs g t n (fun j => if j < key.size then byteV (key.data.getD j 0) else f0 j) → Only g w w' → wpList P ops Q rest (a.put o.dst (goInt (Nat.min key.size n))) w') : wpList P ops Q (o :: rest) a w := by
  have hmn : Nat.min key.size n ≤ n := Nat.min_le_right _ _
  have hmk : Nat.min key.size n ≤ key.size := Nat.min_le_left _ _
  have hrun := run_copy_str (P := P) (w := w) (ty := o.type) dT sT e g n n (Nat.min key.size n) key rfl hu hs
    (fun j hj => by rw [hr.cell (by omega)]; rfl) (fun j hj => hr.frozen j)
  refine wpList_plain hgd fun K hK => ?_
  unfold Oper.wp
  simp [execOp, ho, resolve, invoke, builtin, hd, hx, hrun, Result.andThen]
  refine hK _ _ ?_
  have hl : ((key.data.toList.take (Nat.min key.size n)).map byteV).length = Nat.min key.size n := by simp
  obtain ⟨h2, h3⟩ := setCells_heap ((key.data.toList.take (Nat.min key.size n)).map byteV) w g 0 _ t (rowIs_block hr) (by rw [hl]; simp [arrL]; exact hmn)
  rw [List.map_take] at h2 h3
  have H := h _ ⟨_, h2, by simp [arrL]; omega, fun i hi => ?_⟩ h3
  · simpa using H
  · simp only [List.getElem?_toArray, List.take_zero, List.nil_append, Nat.zero_add]
    rw [← List.map_take, hl]
    by_cases hk : i < key.size
    · rw [if_pos hk, List.getElem?_append_left (by rw [hl]; exact Nat.lt_min.2 ⟨hk, hi⟩)]
      have : i < Nat.min key.size n := Nat.lt_min.2 ⟨hk, hi⟩
      simp [this, Array.getD, hk]
    · have hm : Nat.min key.size n = key.size := Nat.min_eq_left (by omega)
      rw [if_neg hk, List.getElem?_append_right (by rw [hl, hm]; omega), hl, hm, List.getElem?_drop]
      have : key.size + (i - key.size) = i := by omega
      rw [this]
      simp [arrL, hi]
end

end Go.Proofs.YtpkkdjmcabefbaaDoor
