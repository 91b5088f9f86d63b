/- disk: Crash. -/
import Derived.WalkKit
import Derived.WalkSpells
import Derived.WalkLawsBesides
import Derived.BigQuiet
import Derived.BigRegion
import Derived.Deep.QuietTactic
import Derived.Deep.RegionLaw
import Derived.Deep.RegionHeld3
import Derived.Deep.AppendLies
import Derived.Laws.CopyOwn
import Derived.Laws.IdiomStrings
import Derived.Lib.Hide
import Derived.Deep.OwnRows
import Derived.Deep.MidRow
import Derived.StillTailTactics
import Derived.Lib.AppendStr
import Derived.Laws.IdiomCopy
import Derived.ChangeKeysEq
import Derived.Lib.FrozenHead
import Derived.IntWalk
import Derived.Test.YtflkdgghpmhbgaaGreatChecked
import Derived.Laws.Rows
import Derived.Laws.LoneSync
import Derived.Deep.DeepCutAuto
import Derived.Deep.CutBlock
import Derived.Deep.RegionWith
namespace Go.Proofs.YtflkdgghpmhbgaaGreat
open Go.RowKit

/-- What a slice type's tables say, for elements of one cell. -/
structure Sl (P : Program) (t e : TypeId) (z : Value) (bytes : Nat) : Prop where
  und : P.underlying t = some (.slice e)
  info : (P.info? e).map (fun i => (i.zero, i.size, i.bytes)) = some (some z, 1, bytes)
  zc : z.cells.size = 1

def byteV (b : UInt8) : Value := .int .u8 (b.toNat : Int)

/-- The slice value v owns the elements xs. -/
def Owns (w : World) (B : Nat) (e : TypeId) (v : Value) (xs : List Value) : Prop := w.ownsRow B e 1 v xs.length xs

theorem Owns.nil (w : World) (B : Nat) (e : TypeId) : Owns w B e (.slice none 0 0) [] := World.ownsRow_nil _ _ _ _
theorem Owns.alloc {w : World} {B : Nat} {e : TypeId} {v : Value} {xs : List Value} (h : Owns w B e v xs) (o : Obj) : Owns (w.alloc o) B e v xs := World.ownsRow.alloc h o
theorem Owns.drew {w : World} {B : Nat} {e : TypeId} {v : Value} {xs : List Value} (h : Owns w B e v xs) : Owns w.drew B e v xs := h
theorem Owns.drewN {w : World} {B : Nat} {e : TypeId} {v : Value} {xs : List Value} (h : Owns w B e v xs) (n : Nat) : Owns (w.drewN n) B e v xs := h

theorem Owns.later {w w' : World} {B : Nat} {e : TypeId} {v : Value} {xs : List Value} (h : Owns w B e v xs) (hb : Below w.heap.size w w') : Owns w' B e v xs := by
  refine ⟨h.1, ?_⟩
  rcases h.2 with h0 | ⟨g, cap, cur, hv, hB, hg, h1, h2, h3, h4⟩
  · exact .inl h0
  · refine .inr ⟨g, cap, cur, hv, hB, ?_, h1, h2, h3, h4⟩
    rw [hb.block g ?_]; · exact hg
    rcases Nat.lt_or_ge g w.heap.size with hlt | hge
    · exact hlt
    · rw [Array.getElem?_eq_none hge] at hg; cases hg

theorem Owns.shape {w : World} {B : Nat} {e : TypeId} {v : Value} {xs : List Value} (h : Owns w B e v xs) : ∃ a cap, v = .slice a xs.length cap := by
  rcases h.2 with ⟨hv, h0⟩ | ⟨g, cap, cur, hv, _⟩
  · exact ⟨none, 0, by rw [h0]; exact hv⟩
  · exact ⟨_, cap, hv⟩

theorem Owns.cell {w : World} {B : Nat} {e : TypeId} {a : Addr} {n cap : Nat} {xs : List Value} (h : Owns w B e (.slice (some a) n cap) xs) (j : Nat) (hj : j < xs.length) :
    w.cell? (a.add j) = some xs[j] := by
  rcases h.2 with ⟨hv, _⟩ | ⟨g, cap', cur, hv, _, hg, _⟩
  · cases hv
  · cases hv
    exact World.ownsRow.cells h rfl j _ (by simp [hj])

theorem Below.ofGrown {w w' : World} {B : Nat} {e : TypeId} {v : Value} {n : Nat} {xs : List Value} (h : w.ownsRow B e 1 v n xs) (hg : w.grownBy w' v.ownBlock) (hB : B ≤ w.heap.size) : Below B w w' :=
  (Below.refl B w).grown hg hB fun k hk => (World.ownsRow.lt h k hk).1

def strLen : Value → Nat
  | .string q => q.size
  | _ => 0

/-- The world w' is w but for draws. -/
def Same (w w' : World) : Prop := ∃ n, w' = w.drewN n
theorem Same.refl (w : World) : Same w w := ⟨0, rfl⟩
theorem Same.of (w : World) (n : Nat) : Same w (w.drewN n) := ⟨n, rfl⟩
theorem Same.drew {a w : World} (h : Same a w) : Same a w.drew := by obtain ⟨n, rfl⟩ := h; exact ⟨n + 1, rfl⟩
theorem Same.trans {a b c : World} (h : Same a b) (k : Same b c) : Same a c := by
  obtain ⟨n, rfl⟩ := h; obtain ⟨m, rfl⟩ := k; exact ⟨n + m, by rw [World.drewN_drewN]⟩
theorem Same.below {a w : World} (h : Same a w) (B : Nat) : Below B a w := by
  obtain ⟨n, rfl⟩ := h; exact ⟨rfl, rfl, rfl, Nat.le_refl _, fun _ _ => rfl⟩
theorem Same.size {a w : World} (h : Same a w) : w.heap.size = a.heap.size := by obtain ⟨n, rfl⟩ := h; rfl
theorem Owns.same {w w' : World} {B : Nat} {e : TypeId} {v : Value} {xs : List Value} (h : Owns w B e v xs) (hs : Same w w') : Owns w' B e v xs := h.later (hs.below _)

/-- Contracts at a call in a region that only reads. -/
theorem quietS {P : Program} {f : FuncId} {args : Array Value} {w : World} {n : Nat} {v : Value} (h : Calls P f args (w.drewN n) fun e w' => e = .returned v ∧ Same (w.drewN n) w') :
    Calls P f args (w.drewN n) fun e w'' => e = .returned v ∧ ∃ m, w'' = w.drewN m :=
  Calls.quiet_of (h.mono fun _ _ h => h)
theorem quietE {P : Program} {f : FuncId} {args : Array Value} {w : World} {n : Nat} {v : Value} (h : Calls P f args (w.drewN n) fun e w' => e = .returned v ∧ w.drewN n = w') :
    Calls P f args (w.drewN n) fun e w'' => e = .returned v ∧ ∃ m, w'' = w.drewN m :=
  Calls.quiet_of_same (h.mono fun _ _ h => ⟨h.1, h.2.symm⟩)

theorem quietS2 {P : Program} {f : FuncId} {args : Array Value} {w : World} {a n : Nat} {v : Value} (h : Calls P f args (w.drewN (a + n)) fun e w' => e = .returned v ∧ Same (w.drewN (a + n)) w') :
    Calls P f args (w.drewN (a + n)) fun e w'' => e = .returned v ∧ ∃ m, w'' = w.drewN (a + m) :=
  h.mono fun _ _ ⟨he, m, hm⟩ => ⟨he, n + m, by rw [hm, World.drewN_drewN, Nat.add_assoc]⟩
theorem quietE2 {P : Program} {f : FuncId} {args : Array Value} {w : World} {a n : Nat} {v : Value} (h : Calls P f args (w.drewN (a + n)) fun e w' => e = .returned v ∧ w.drewN (a + n) = w') :
    Calls P f args (w.drewN (a + n)) fun e w'' => e = .returned v ∧ ∃ m, w'' = w.drewN (a + m) :=
  h.mono fun _ _ ⟨he, hm⟩ => ⟨he, n, hm.symm⟩

section
variable {P : Program} {w : World} {t e : TypeId} {z : Value} {bytes : Nat}

theorem heap_at_alloc (w : World) (o : Obj) : (w.alloc o).heap[w.heap.size]? = some o := heap_alloc_new w o

/-- append at a step of a region that draws: what is appended lies in a block that is known whole. -/
theorem step_app {ops : Array Oper} {o : Oper} {a : Act} {K : Act → World → Prop} {Q : Exit → Act → World → Prop} {E : Prop} (S : Sl P t e z bytes) (hgd : o.guard = none) (s x : Operand)
    (ho : o.op = .call { callee := .builtin .append, args := #[s, x], argTypes := #[t, t] })
    (B : Nat) (v : Value) (xs : List Value) (hs : a.eval s = v) (hown : Owns w B e v xs)
    (g0 : Nat) (news : List Value) (hx : a.eval x = .slice (some ⟨g0, 0, none⟩) news.length news.length) (hblk : w.heap[g0]? = some (.cells news.toArray e (0, 0))) (h1 : ∀ u ∈ news, u.oneCell' = true)
    (hm : 0 < news.length) (h63 : xs.length + news.length ≤ maxLen) (hbytes : (xs.length + news.length) * bytes ≤ 140737488355328) (hbase : B ≤ w.heap.size)
    (h : ∀ v' w', Owns w' B e v' (xs ++ news) → Below B w w' → K (a.put o.dst v') w') :
    if Region.wanted o (yielded ops a.tmps) = true then Oper.wp P o a w K Q else E := by
  obtain ⟨i, hi, hz, hsz, hby⟩ := info_parts S.info
  refine step_append_lies w hgd s x t ho B e i z 1 bytes S.und hi hz hsz hby S.zc (by omega) v xs.length xs hs hown ⟨g0, 0, none⟩ news.length news.length news hx (by omega)
    (by simpa using World.news_of_block hblk) h1 hm h63 hbytes hbase _ rfl ?_
  intro g cap w' h2 h3 _ _
  refine h _ w' ?_ (Below.ofGrown hown h3 hbase)
  unfold Owns; rw [List.length_append]; exact h2

/-- append at a plain region's list: what is appended lies in a block that is known whole. -/
theorem list_app {ops : Array Oper} {rest : List Oper} {o : Oper} {a : Act} {Q : Exit → Act → World → Prop} (S : Sl P t e z bytes) (hgd : o.guard = none) (s x : Operand)
    (ho : o.op = .call { callee := .builtin .append, args := #[s, x], argTypes := #[t, t] })
    (B : Nat) (v : Value) (xs : List Value) (hs : a.eval s = v) (hown : Owns w B e v xs)
    (g0 : Nat) (news : List Value) (hx : a.eval x = .slice (some ⟨g0, 0, none⟩) news.length news.length) (hblk : w.heap[g0]? = some (.cells news.toArray e (0, 0))) (h1 : ∀ u ∈ news, u.oneCell' = true)
    (hm : 0 < news.length) (h63 : xs.length + news.length ≤ maxLen) (hbytes : (xs.length + news.length) * bytes ≤ 140737488355328) (hbase : B ≤ w.heap.size)
    (h : ∀ v' w', Owns w' B e v' (xs ++ news) → Below B w w' → wpList P ops Q rest (a.put o.dst v') w') :
    wpList P ops Q (o :: rest) a w := by
  obtain ⟨i, hi, hz, hsz, hby⟩ := info_parts S.info
  refine wpList_append_lies w hgd s x t ho B e i z 1 bytes S.und hi hz hsz hby S.zc (by omega) v xs.length xs hs hown ⟨g0, 0, none⟩ news.length news.length news hx (by omega)
    (by simpa using World.news_of_block hblk) h1 hm h63 hbytes hbase _ rfl ?_
  intro g cap w' h2 h3 _ _
  refine h _ w' ?_ (Below.ofGrown hown h3 hbase)
  unfold Owns; rw [List.length_append]; exact h2

/-- make([]T, 0, n). -/
theorem list_make0 {ops : Array Oper} {rest : List Oper} {o : Oper} {a : Act} {Q : Exit → Act → World → Prop} (S : Sl P t e z bytes) (hgd : o.guard = none) (l c : Operand)
    (ho : o.op = .makeSlice t l c) (n : Nat) (hl : a.eval l = .int .i64 0) (C : Int) (hc : a.eval c = .int .i64 C) (hC : C = (n : Int)) (b2 : bytes * n ≤ 281474976710656) (b3 : n ≤ maxLen)
    (h : ∀ w', Owns w' w.heap.size e (.slice (some ⟨w.heap.size, 0, none⟩) 0 n) [] → Below w.heap.size w w' → wpList P ops Q rest (a.put o.dst (.slice (some ⟨w.heap.size, 0, none⟩) 0 n)) w') :
    wpList P ops Q (o :: rest) a w := by
  obtain ⟨i, hi, hz, hsz, hby⟩ := info_parts S.info
  refine wpList_make_own w hgd l c t ho w.heap.size e i z 1 S.und hi hz hsz .i64 .i64 C n hl hc hC (by rw [hby]; exact b2) b3 (Nat.le_refl _) ?_
  intro w' h1 h2
  exact h w' h1 ((Below.refl _ w).grown h2 (Nat.le_refl _) (by intro k hk; cases hk))

/-- string(b), b owned bytes. -/
theorem run_string_owned {src dst : TypeId} (hs : P.underlying src = some (.slice e)) (he : P.underlying e = some (.int .u8)) (hd : P.underlying dst = some .string)
    {B : Nat} {v : Value} {l : List UInt8} (h : Owns w B e v (l.map byteV)) : (convert src dst v).run P w = .ok (.string ⟨l.toArray⟩) w := by
  obtain ⟨a, cap, rfl⟩ := h.shape
  cases a with
  | none =>
    rcases h.2 with ⟨hv, h0⟩ | ⟨g, cap', cur, hv, _⟩
    · have hl : l = [] := by cases l with
        | nil => rfl
        | cons _ _ => simp at h0
      subst hl
      rw [run_convert_bytes_string w src dst e none _ _ hs he hd]
      rfl
    · cases hv
  | some ad =>
    have hc := run_convert_bytes_back (P := P) w src dst e ad cap l hs he hd (fun j hj => by
      have := h.cell j (by simpa using hj)
      rw [this]; simp [byteV])
    simpa using hc

/-- string of a block that was laid just now. -/
theorem run_string_block {src dst : TypeId} (hs : P.underlying src = some (.slice e)) (he : P.underlying e = some (.int .u8)) (hd : P.underlying dst = some .string)
    (g cap : Nat) (l : List UInt8) (hb : w.heap[g]? = some (.cells (l.map byteV).toArray e (0, 0))) : (convert src dst (.slice (some ⟨g, 0, none⟩) l.length cap)).run P w = .ok (.string ⟨l.toArray⟩) w := by
  refine run_convert_bytes_back (P := P) w src dst e ⟨g, 0, none⟩ cap l hs he hd (fun j hj => ?_)
  exact World.news_of_block hb j _ (by simp [hj, byteV])

/-- string of a whole block of bytes, whatever its type's number. -/
theorem run_string_row {src dst : TypeId} (hs : P.underlying src = some (.slice e)) (he : P.underlying e = some (.int .u8)) (hd : P.underlying dst = some .string)
    (g cap : Nat) (l : List UInt8) {tb : TypeId} (hb : w.heap[g]? = some (.cells (l.map byteV).toArray tb (0, 0))) : (convert src dst (.slice (some ⟨g, 0, none⟩) l.length cap)).run P w = .ok (.string ⟨l.toArray⟩) w := by
  refine run_convert_bytes_back (P := P) w src dst e ⟨g, 0, none⟩ cap l hs he hd (fun j hj => ?_)
  exact World.news_of_block hb j _ (by simp [hj, byteV])

theorem rowIs_later {w w' : World} {b : Nat} {t : TypeId} {n : Nat} {f : Nat → Value} (h : w.rowIs b t n f) (hb : Below w.heap.size w w') : w'.rowIs b t n f := h.of_block (hb.block b h.lt)
theorem rowIs_below {w w' : World} {B b : Nat} {t : TypeId} {n : Nat} {f : Nat → Value} (h : w.rowIs b t n f) (hb : Below B w w') (hlt : b < B) : w'.rowIs b t n f := h.of_block (hb.block b hlt)
theorem rowIs_same {w w' : World} {b : Nat} {t : TypeId} {n : Nat} {f : Nat → Value} (h : w.rowIs b t n f) (hs : Same w w') : w'.rowIs b t n f := rowIs_later h (hs.below _)

/-- make([]T, n), n > 0. -/
theorem list_makeN {ops : Array Oper} {rest : List Oper} {o : Oper} {a : Act} {Q : Exit → Act → World → Prop} (S : Sl P t e z bytes) (hgd : o.guard = none) (l c : Operand)
    (ho : o.op = .makeSlice t l c) (n : Nat) (L C : Int) (hl : a.eval l = .int .i64 L) (hc : a.eval c = .int .i64 C) (hL : L = (n : Int)) (hC : C = (n : Int)) (b2 : bytes * n ≤ 281474976710656) (b3 : n ≤ maxLen)
    (h1 : z.cells = #[z]) (h : ∀ w', w'.rowIs w.heap.size e n (fun _ => z) → Below w.heap.size w w' → wpList P ops Q rest (a.put o.dst (.slice (some ⟨w.heap.size, 0, none⟩) n n)) w') :
    wpList P ops Q (o :: rest) a w := by
  obtain ⟨i, hi, hz, hsz, hby⟩ := info_parts S.info
  refine wpList_make_full w hgd l c t ho w.heap.size e i z 1 S.und hi hz hsz .i64 .i64 L C n hl hc hL hC (by rw [hby]; exact b2) b3 (Nat.le_refl _) ?_
  intro w' h2 h3
  refine h w' ?_ ((Below.refl _ w).grown h3 (Nat.le_refl _) (by intro k hk; cases hk))
  rcases h2.2 with ⟨hv, _⟩ | ⟨g, cap, cur, hv, hB, hg, h4, h5, h6, h7⟩
  · cases hv
  · cases hv
    refine ⟨cur, hg, by simpa using h6, fun j hj => ?_⟩
    have h8 : cur.toList = (madeCells z.cells (n * 1)).toList := by
      rw [← h7, List.take_of_length_le (by simp [h6])]
    have h9 : cur = madeCells z.cells (n * 1) := Array.toList_inj.1 h8
    rw [h9, h1]
    simp [madeCells, hj, Nat.mod_one]

/-- copy(y, x), y a row of the call's own, x as long. -/
theorem list_copy_row {ops : Array Oper} {rest : List Oper} {o : Oper} {a : Act} {Q : Exit → Act → World → Prop} (S : Sl P t e z bytes) (hgd : o.guard = none) (d s : Operand)
    (ho : o.op = .call { callee := .builtin .copy, args := #[d, s], argTypes := #[t, t] }) (g n : Nat) (hd : a.eval d = .slice (some ⟨g, 0, none⟩) n n) (f : Nat → Value) (hrow : w.rowIs g e n f)
    (gs sc : Nat) (hs : a.eval s = .slice (some ⟨gs, 0, none⟩) n sc) (X : Nat → Value) (hsrc : ∀ j, j < n → w.cell? ⟨gs, j, none⟩ = some (X j)) (h1 : ∀ j, (X j).oneCell' = true)
    (h : ∀ w', w'.rowIs g e n X → Below g w w' → wpList P ops Q rest (a.put o.dst (goInt n)) w') : wpList P ops Q (o :: rest) a w := by
  obtain ⟨i, hi, hz, hsz, hby⟩ := info_parts S.info
  obtain ⟨c, hg, hn, hc⟩ := hrow
  refine wpList_copy_splice hgd d s t t ho e S.und (by rw [hi]; simp [hsz]) _ _ n n n sc hd hs g 0 c.toList e (by simpa using hg) ((List.range n).map X) (by simp) ?_ (by simp [hn]) ?_ g w (Below.refl _ _) (Nat.le_refl _) ?_
  · intro _
    refine ⟨rfl, _, rfl, fun j v hv => ?_⟩
    have hj : j < n := by
      have := (List.getElem?_eq_some_iff.1 hv).1
      simpa using this
    simp [hj] at hv
    subst hv
    have := hsrc j hj
    unfold Addr.add
    split
    · rename_i h0; subst h0; exact this
    · simpa using this
  · intro v hv; simp at hv; obtain ⟨j, _, rfl⟩ := hv; exact h1 j
  · intro w' hw hb
    have H := h w' ⟨_, hw.out, by simp [splice, hn], fun j hj => by simp [splice]; rw [List.getElem?_append_left (by simpa using hj)]; simp [hj]⟩ hb
    simpa using H
end

theorem row_put {w : World} {g e n : Nat} {f f' : Nat → Value} (h : w.rowIs g e n f) (i : Nat) (v : Value) (hf : ∀ j, j < n → f' j = if j = i then v else f j) : (w.setCell ⟨g, i, none⟩ v).rowIs g e n f' :=
  (h.set i v).congr fun j hj => (hf j hj).symm
theorem cell_set_ne (w : World) (g i j : Nat) (v u : Value) (h : w.cell? ⟨g, j, none⟩ = some u) (hne : j ≠ i) : (w.setCell ⟨g, i, none⟩ v).cell? ⟨g, j, none⟩ = some u := by
  rw [← h]
  simp only [World.cell?, World.setCell, Array.getElem?_modify]
  cases hb : w.heap[g]? with
  | none => simp
  | some o => cases o <;> simp [Ne.symm hne]
end Go.Proofs.YtflkdgghpmhbgaaGreat
namespace Go.Proofs.YtflkdgghpmhbgaaGreat
open Go.RowKit

def arrL (n : Nat) (f : Nat → Value) : List Value := (List.range n).map f
theorem arrL_length (n : Nat) (f : Nat → Value) : (arrL n f).length = n := by simp [arrL]
theorem arrL_get (n : Nat) (f : Nat → Value) (j : Nat) (h : j < n) : (arrL n f)[j]? = some (f j) := by simp [arrL, h]

theorem rowIs_block {w : World} {g n : Nat} {t : TypeId} {f : Nat → Value} (h : w.rowIs g t n f) : w.heap[g]? = some (.cells (arrL n f).toArray t (0, 0)) := by
  obtain ⟨c, hg, hn, hc⟩ := h
  rw [hg]
  have : c = (arrL n f).toArray := by
    apply Array.ext (by simp [arrL, hn])
    intro i h1 h2
    have h3 := hc i (by omega)
    rw [Array.getElem?_eq_getElem h1] at h3
    simp [arrL]; exact Option.some.inj h3
  rw [this]
theorem rowIs_of_block {w : World} {g n : Nat} {t : TypeId} {f : Nat → Value} (h : w.heap[g]? = some (.cells (arrL n f).toArray t (0, 0))) : w.rowIs g t n f :=
  ⟨_, h, by simp [arrL], fun i hi => by simp [arrL, hi]⟩

/-- w' is w but for block g and for new blocks. -/
structure Only (g : Nat) (w w' : World) : Prop where
  os : w'.os = w.os
  tape : w'.tape = w.tape
  output : w'.output = w.output
  size : w.heap.size ≤ w'.heap.size
  block : ∀ k, k < w.heap.size → k ≠ g → w'.heap[k]? = w.heap[k]?
theorem Only.refl (g : Nat) (w : World) : Only g w w := ⟨rfl, rfl, rfl, Nat.le_refl _, fun _ _ _ => rfl⟩
theorem Only.trans {g : Nat} {a b c : World} (h : Only g a b) (k : Only g b c) : Only g a c :=
  ⟨k.os.trans h.os, k.tape.trans h.tape, k.output.trans h.output, Nat.le_trans h.size k.size, fun i hi hg => (k.block i (Nat.lt_of_lt_of_le hi h.size) hg).trans (h.block i hi hg)⟩
theorem Only.ofBelow {g : Nat} {w w' : World} (h : Below w.heap.size w w') : Only g w w' := ⟨h.os, h.tape, h.output, h.size, fun k hk _ => h.block k hk⟩
theorem Only.ofSame {g : Nat} {w w' : World} (h : Same w w') : Only g w w' := .ofBelow (h.below _)
theorem Only.drew {g : Nat} {a w : World} (h : Only g a w) : Only g a w.drew := ⟨h.os, h.tape, h.output, h.size, h.block⟩
theorem Only.alloc {g : Nat} {a w : World} (h : Only g a w) (o : Obj) : Only g a (w.alloc o) := h.trans (.ofBelow ((Below.refl _ _).alloc (Nat.le_refl _) o))
theorem Only.setCell {g : Nat} {a w : World} (h : Only g a w) (i : Nat) (v : Value) : Only g a (w.setCell ⟨g, i, none⟩ v) :=
  h.trans ⟨rfl, rfl, rfl, by simp [World.setCell], fun _ _ hg => Below.heap_setCell _ _ _ _ hg⟩
theorem Only.below {g B : Nat} {w w' : World} (h : Only g w w') (hB : B ≤ g) (hw : B ≤ w.heap.size) : Below B w w' := ⟨h.os, h.tape, h.output, h.size, fun k hk => h.block k (by omega) (by omega)⟩
theorem Only.row {g b n : Nat} {t : TypeId} {f : Nat → Value} {w w' : World} (h : Only g w w') (hr : w.rowIs b t n f) (hb : b ≠ g) : w'.rowIs b t n f := hr.of_block (h.block b hr.lt hb)
theorem Only.cell {g b j : Nat} {v : Value} {w w' : World} (h : Only g w w') (hc : w.cell? ⟨b, j, none⟩ = some v) (hb : b ≠ g) : w'.cell? ⟨b, j, none⟩ = some v := by
  have hlt := World.block_lt_of_cell? w _ hc
  rw [← hc]; exact World.cell?_of_block (w := w) (h.block b hlt hb)

theorem setCells_heap : ∀ (vs : List Value) (w : World) (g o : Nat) (c : Array Value) (t : TypeId), w.heap[g]? = some (.cells c t (0, 0)) → o + vs.length ≤ c.size →
    (w.setCells g o vs).heap[g]? = some (.cells (c.toList.take o ++ vs ++ c.toList.drop (o + vs.length)).toArray t (0, 0)) ∧ Only g w (w.setCells g o vs)
  | [], w, g, o, c, t, h, hl => ⟨by simpa [World.setCells] using h, Only.refl _ _⟩
  | v :: r, w, g, o, c, t, h, hl => by
    have hl' : o + 1 + r.length ≤ c.size := by simp at hl; omega
    have h1 := heap_setCell_same w g o c t v h
    obtain ⟨h2, h3⟩ := setCells_heap r (w.setCell ⟨g, o, none⟩ v) g (o + 1) (c.setIfInBounds o v) t h1 (by simpa using hl')
    refine ⟨?_, ((Only.refl g w).setCell o v).trans h3⟩
    show ((w.setCell ⟨g, o, none⟩ v).setCells g (o + 1) r).heap[g]? = _
    rw [h2]
    congr 3
    have ho : o < c.toList.length := by simp; omega
    have e1 : (c.setIfInBounds o v).toList = c.toList.set o v := by simp
    rw [e1]
    have e2 : (c.toList.set o v).take (o + 1) = c.toList.take o ++ [v] := by
      rw [List.take_succ_eq_append_getElem (by simpa using ho), List.take_set_of_le (Nat.le_refl _)]
      simp
    have e3 : (c.toList.set o v).drop (o + 1 + r.length) = c.toList.drop (o + (v :: r).length) := by
      rw [List.drop_set_of_lt (by omega)]; simp; congr 1; omega
    rw [e2, e3]; simp

section
variable {P : Program} {w : World}

/-- A load of a whole array out of a variable. -/
theorem list_load_arr {ops : Array Oper} {rest : List Oper} {o : Oper} {a : Act} {Q : Exit → Act → World → Prop} {ty e : TypeId} {n : Nat} (hu : P.underlying ty = some (.array n e)) (hi : (P.info? ty).map (·.size) = some n)
    (hgd : o.guard = none) (x : Operand) (ho : o.op = .load ty x) (g : Nat) (t : TypeId) (f : Nat → Value) (hx : a.eval x = .pointer (some ⟨g, 0, none⟩)) (hr : w.rowIs g t n f)
    (h : wpList P ops Q rest (a.put o.dst (.agg (arrL n f).toArray)) w) : wpList P ops Q (o :: rest) a w :=
  wpList_load_row hgd ty x ho g hx t _ (0, 0) _ (rowIs_block hr) hu rfl (by rw [hi]; simp [arrL]) h

/-- A store of a whole array into a variable. -/
theorem list_store_arr {ops : Array Oper} {rest : List Oper} {o : Oper} {a : Act} {Q : Exit → Act → World → Prop} {ty : TypeId} {n : Nat} (hi : (P.info? ty).map (·.size) = some n)
    (hgd : o.guard = none) (x y : Operand) (ho : o.op = .store ty x y) (g : Nat) (t : TypeId) (f0 f : Nat → Value) (hx : a.eval x = .pointer (some ⟨g, 0, none⟩)) (hy : a.eval y = .agg (arrL n f).toArray)
    (hr : w.rowIs g t n f0) (h1 : ∀ j, (f j).oneCell' = true)
    (h : ∀ w', w'.rowIs g t n f → Only g w w' → wpList P ops Q rest (a.put o.dst undef) w') : wpList P ops Q (o :: rest) a w := by
  have hb := rowIs_block hr
  refine wpList_store_mid hgd ty x y ho g 0 _ hx hy ?_ (by rw [hi]; simp [arrL]) (all_oneCell_toArray (by
    intro v hv; simp [arrL] at hv; obtain ⟨j, _, rfl⟩ := hv; exact h1 j)) ?_
  · intro j hj
    have hj' : j < n := by simpa [arrL] using hj
    rw [Nat.zero_add]
    exact ⟨by rw [hr.cell hj']; rfl, hr.frozen j⟩
  · obtain ⟨h2, h3⟩ := setCells_heap (arrL n f) w g 0 _ t hb (by simp [arrL])
    refine h _ (rowIs_of_block ?_) (by simpa using h3)
    have : (w.setCells g 0 (arrL n f).toArray.toList) = w.setCells g 0 (arrL n f) := by simp
    rw [this, h2]
    simp [arrL]

/-- The result lies in a variable of an array's type. -/
theorem ret_arr {fn : Func} {R : Ending → World → Prop} {a : Act} {p : Tmp} {ty e : TypeId} {n g : Nat} {t : TypeId} {f : Nat → Value} (h : fn.results = #[.cell p ty])
    (hu : P.underlying ty = some (.array n e)) (hi : (P.info? ty).map (·.size) = some n) (hp : a.tmps.getD p undef = .pointer (some ⟨g, 0, none⟩)) (hr : w.rowIs g t n f) (hd : a.defers = [])
    (hR : R (.returned (.agg (arrL n f).toArray)) w) : bodyPost P fn R .ret a w :=
  bodyPost_ret (results_cell_row h a.tmps w g t _ (0, 0) _ hp (rowIs_block hr) hu rfl (by rw [hi]; simp [arrL])) hd hR
end
theorem rowIs_rep {w : World} {c : Array Value} {t : TypeId} {n : Nat} {v : Value} (h : c = Array.replicate n v) : (w.alloc (.cells c t)).rowIs w.heap.size t n (fun _ => v) :=
  ⟨c, heap_at_alloc w _, by simp [h], fun i hi => by simp [h, hi]⟩

section
variable {P : Program} {w : World}

/-- append(b, s...), s a string. -/
theorem list_app_str {ops : Array Oper} {rest : List Oper} {o : Oper} {a : Act} {Q : Exit → Act → World → Prop} {t e u : TypeId} (S : Sl P t e (.int .u8 0) 1) (hu : P.underlying u = some .string) (hgd : o.guard = none) (sl x : Operand)
    (ho : o.op = .call { callee := .builtin .append, args := #[sl, x], argTypes := #[t, u] }) (B : Nat) (v : Value) (xs : List UInt8) (hs : a.eval sl = v) (hown : Owns w B e v (xs.map byteV)) (s : ByteArray) (hx : a.eval x = .string s)
    (h63 : xs.length + s.size ≤ maxLen) (hbytes : xs.length + s.size ≤ 140737488355328) (hbase : B ≤ w.heap.size)
    (h : ∀ v' w', Owns w' B e v' ((xs ++ s.data.toList).map byteV) → Below B w w' → wpList P ops Q rest (a.put o.dst v') w') : wpList P ops Q (o :: rest) a w := by
  obtain ⟨i, hi, hz, hsz, hby⟩ := info_parts S.info
  refine Lib.wpList_append_own_string w hgd sl x t u ho B e i S.und hu hi hz hsz hby v (xs.map byteV).length (xs.map byteV) hs hown s hx (by simpa using h63) (by simpa using hbytes) hbase ?_
  intro v' w' h1 h2 _
  refine h v' w' ?_ (Below.ofGrown hown h2 hbase)
  unfold Owns
  have e1 : (xs ++ s.data.toList).map byteV = xs.map byteV ++ Lib.strCells s := by rw [List.map_append]; rfl
  have e2 : ((xs ++ s.data.toList).map byteV).length = (xs.map byteV).length + s.size := by simp
  rw [e2, e1]; exact h1

theorem run_index_arr {ty e : TypeId} {n : Nat} (hu : P.underlying ty = some (.array n e)) (he : P.plainKey e = true) (hc : P.cellsOf e = 1) (i : TypeInfo) (hi : P.info? e = some i) (f : Nat → Value) (k : Nat) (hk : k < n) :
    (Instr.index ty (.agg (arrL n f).toArray) (.int .i64 k)).run P w = .ok (f k) w := by
  have hp := run_part_plain (P := P) (w := w) he (xs := (arrL n f).toArray) (off := k) (v := f k) (by simp [arrL, hk])
  simp [Instr.index, asIntOf, run_underlying hu, run_sizeOf w hi, hc, hp, hk]

theorem run_copy_str (dT sT ty elem : TypeId) (g dLen dCap m : Nat) (s : ByteArray) (hm : m = Nat.min s.size dLen) (hu : P.underlying dT = some (.slice elem)) (hs : (P.info? elem).map (·.size) = some 1)
    (hc : ∀ j, j < m → (w.cell? ⟨g, j, none⟩).isSome = true) (hf : ∀ j, j < m → w.frozen? ⟨g, j, none⟩ = false) :
    (Builtin.copy_ #[dT, sT] ty #[.slice (some ⟨g, 0, none⟩) dLen dCap, .string s]).run P w = .ok (goInt m) (w.setCells g 0 ((s.data.toList.take m).map byteV)) := by
  have hl : ((s.data.toList.take m).map byteV).length = m := by
    simp [hm, Nat.min_le_left]
  have hst := run_storeCells_cells (P := P) g 0 ((s.data.toList.take m).map byteV) 0 w (by rw [hl]; simpa using hc) (by rw [hl]; simpa using hf) (by intro v hv; obtain ⟨b, _, rfl⟩ := List.mem_map.1 hv; rfl)
  have he0 : (s.extract 0 m).data.toList = s.data.toList.take m := by simp
  have he : ((s.extract 0 m).data.map fun b => Value.int .u8 b.toNat).toList = (s.data.toList.take m).map byteV := by rw [Array.toList_map, he0]; rfl
  cases hq : P.info? elem with
  | none => simp [hq] at hs
  | some i =>
    have h1 : i.size = 1 := by simpa [hq] using hs
    rw [Nat.zero_add] at hst
    simp only [Builtin.copy_, List.getElem?_toArray, List.getElem?_cons_zero, List.getElem?_cons_succ, Sem.run_bind, Sem.run_pure, Result.andThen_ok, run_underlying hu, Builtin.lenOf, ← hm, sizeOf, typeInfo, Builtin.firstCells, he]
    rw [List.map_take] at hst ⊢
    simp [hq, hst]

/-- copy(b, s), b a row of bytes, s a string. -/
theorem list_copy_str {ops : Array Oper} {rest : List Oper} {o : Oper} {a : Act} {Q : Exit → Act → World → Prop} {dT sT e : TypeId} (hu : P.underlying dT = some (.slice e)) (hs : (P.info? e).map (·.size) = some 1) (hgd : o.guard = none) (d s : Operand)
    (ho : o.op = .call { callee := .builtin .copy, args := #[d, s], argTypes := #[dT, sT] }) (g n : Nat) (hd : a.eval d = .slice (some ⟨g, 0, none⟩) n n) (key : ByteArray) (hx : a.eval s = .string key)
    (t : TypeId) (f0 : Nat → Value) (hr : w.rowIs g t n f0)
    (h : ∀ w', w'.rowIs g t n (fun j => if j < key.size then byteV (key.data.getD j 0) else f0 j) → Only g w w' → wpList P ops Q rest (a.put o.dst (goInt (Nat.min key.size n))) w') : wpList P ops Q (o :: rest) a w := by
  have hmn : Nat.min key.size n ≤ n := Nat.min_le_right _ _
  have hmk : Nat.min key.size n ≤ key.size := Nat.min_le_left _ _
  have hrun := run_copy_str (P := P) (w := w) (ty := o.type) dT sT e g n n (Nat.min key.size n) key rfl hu hs
    (fun j hj => by rw [hr.cell (by omega)]; rfl) (fun j hj => hr.frozen j)
  refine wpList_plain hgd fun K hK => ?_
  unfold Oper.wp
  simp [execOp, ho, resolve, invoke, builtin, hd, hx, hrun, Result.andThen]
  refine hK _ _ ?_
  have hl : ((key.data.toList.take (Nat.min key.size n)).map byteV).length = Nat.min key.size n := by simp
  obtain ⟨h2, h3⟩ := setCells_heap ((key.data.toList.take (Nat.min key.size n)).map byteV) w g 0 _ t (rowIs_block hr) (by rw [hl]; simp [arrL]; exact hmn)
  rw [List.map_take] at h2 h3
  have H := h _ ⟨_, h2, by simp [arrL]; omega, fun i hi => ?_⟩ h3
  · simpa using H
  · simp only [List.getElem?_toArray, List.take_zero, List.nil_append, Nat.zero_add]
    rw [← List.map_take, hl]
    by_cases hk : i < key.size
    · rw [if_pos hk, List.getElem?_append_left (by rw [hl]; exact Nat.lt_min.2 ⟨hk, hi⟩)]
      have : i < Nat.min key.size n := Nat.lt_min.2 ⟨hk, hi⟩
      simp [this, Array.getD, hk]
    · have hm : Nat.min key.size n = key.size := Nat.min_eq_left (by omega)
      rw [if_neg hk, List.getElem?_append_right (by rw [hl, hm]; omega), hl, hm, List.getElem?_drop]
      have : key.size + (i - key.size) = i := by omega
      rw [this]
      simp [arrL, hi]
end

end Go.Proofs.YtflkdgghpmhbgaaGreat
namespace Go.Proofs.YtflkdgghpmhbgaaGreat
open Go.RowKit

/-- The slice value v holds the bytes T, in a block of its own, or is nil. -/
def BRow (w : World) (e : TypeId) (v : Value) (T : ByteArray) : Prop :=
  (v = .slice none 0 0 ∧ T = ⟨#[]⟩) ∨
  ∃ g cap cur fz, v = .slice (some ⟨g, 0, none⟩) T.size cap ∧ w.heap[g]? = some (.cells cur e fz) ∧ (fz.2 = 0 ∨ cur.size ≤ fz.1) ∧ T.size ≤ cap ∧ cap ≤ maxLen ∧ cur.size = cap ∧ cur.toList.take T.size = Lib.strCells T

theorem BRow.shape {w : World} {e : TypeId} {v : Value} {T : ByteArray} (h : BRow w e v T) : ∃ a cap, v = .slice a T.size cap ∧ (T.size ≤ cap ∧ cap ≤ maxLen) ∧ ∀ x, a = some x → x = ⟨x.block, 0, none⟩ := by
  rcases h with ⟨rfl, rfl⟩ | ⟨g, cap, cur, fz, rfl, _, _, h1, h2, _⟩
  · exact ⟨none, 0, rfl, by decide, fun _ h => by cases h⟩
  · exact ⟨_, cap, rfl, ⟨h1, h2⟩, fun x h => by injection h with h; rw [← h]⟩
theorem BRow.lt {w : World} {e : TypeId} {v : Value} {T : ByteArray} (h : BRow w e v T) : ∀ k, v.ownBlock = some k → k < w.heap.size := by
  intro k hk
  rcases h with ⟨rfl, rfl⟩ | ⟨g, cap, cur, fz, rfl, hg, _⟩
  · simp [Value.ownBlock] at hk
  · simp [Value.ownBlock] at hk
    subst hk
    exact (Array.getElem?_eq_some_iff.1 hg).1
theorem BRow.keep {w w' : World} {e : TypeId} {v : Value} {T : ByteArray} (h : BRow w e v T) (hb : ∀ k, v.ownBlock = some k → w'.heap[k]? = w.heap[k]?) : BRow w' e v T := by
  rcases h with h | ⟨g, cap, cur, fz, rfl, hg, h1⟩
  · exact .inl h
  · exact .inr ⟨g, cap, cur, fz, rfl, by rw [hb g (by simp [Value.ownBlock])]; exact hg, h1⟩
theorem strCells_append (s t : ByteArray) : Lib.strCells (s ++ t) = Lib.strCells s ++ Lib.strCells t := by
  simp [Lib.strCells, ByteArray.data_append]
theorem strCells_take (s : ByteArray) (k : Nat) : (Lib.strCells s).take k = Lib.strCells (s.extract 0 k) := by
  simp [Lib.strCells, ByteArray.data_extract]
theorem extract_size (s : ByteArray) (k : Nat) (h : k ≤ s.size) : (s.extract 0 k).size = k := by
  rw [ByteArray.size_extract]; omega
/-- v[:k]. -/
theorem BRow.cut {w : World} {e : TypeId} {a : Option Addr} {cap : Nat} {T : ByteArray} (h : BRow w e (.slice a T.size cap) T) (k : Nat) (hk : k ≤ T.size) : BRow w e (.slice a k cap) (T.extract 0 k) := by
  rcases h with ⟨h1, h2⟩ | ⟨g, cap', cur, fz, h0, hg, hf, h1, h2, h3, h4⟩
  · injection h1 with h3 h4 h5
    subst h2
    subst h5
    have : k = 0 := by have : (ByteArray.mk #[]).size = 0 := rfl; omega
    subst this
    exact .inl ⟨by rw [h3], rfl⟩
  · injection h0 with e1 _ e3
    subst e3
    refine .inr ⟨g, cap, cur, fz, by rw [e1, extract_size _ _ hk], hg, hf, by rw [extract_size _ _ hk]; omega, h2, h3, ?_⟩
    rw [extract_size _ _ hk, ← strCells_take, ← h4, List.take_take]
    congr 1; omega

section
variable {P : Program} {w : World}

theorem store_free (g o : Nat) (t : TypeId) (fz : Nat × Nat) : ∀ (vs : List Value) (i : Nat) (cur : Array Value) (w : World), w.heap[g]? = some (.cells cur t fz) → (fz.2 = 0 ∨ cur.size ≤ fz.1) → o + i + vs.length ≤ cur.size → (∀ v ∈ vs, v.oneCell' = true) →
    (storeCells ⟨g, o, none⟩ vs i).run P w = .ok () (w.setRow g (cur.toList.take (o + i) ++ vs ++ cur.toList.drop (o + i + vs.length)).toArray)
  | [], i, cur, w, hg, _, _, _ => by
    have e := setRow_self w g cur t fz hg
    simp only [storeCells, List.append_nil, List.length_nil, Nat.add_zero, List.take_append_drop, Array.toArray_toList, e]
    rfl
  | v :: vs, i, cur, w, hg, hf, hl, h1 => by
    have hi : o + i < cur.size := by rw [List.length_cons] at hl; omega
    have hc : w.cell? ⟨g, o + i, none⟩ = some cur[o + i] := by simp [World.cell?, hg, hi]
    have hz : w.frozen? ⟨g, o + i, none⟩ = false := by
      obtain ⟨lo, up⟩ := fz
      simp only [World.frozen?, hg, Bool.and_eq_false_iff, decide_eq_false_iff_not]
      simp only at hf
      omega
    have hs : (store ((⟨g, o, none⟩ : Addr).add i) v).run P w = .ok () (w.setRow g (cur.setIfInBounds (o + i) v)) := by
      rw [Addr.add_mid, run_store P w _ v _ (h1 v (List.mem_cons_self ..)), hc]
      simp [hz, setCell_eq_setRow w g (o + i) cur t fz v hg]
    have ih := store_free g o t fz vs (i + 1) (cur.setIfInBounds (o + i) v) (w.setRow g (cur.setIfInBounds (o + i) v)) (setRow_heap w g cur _ t _ hg) (by simpa using hf) (by rw [List.length_cons] at hl; simp; omega) (fun x hx => h1 x (List.mem_cons_of_mem _ hx))
    simp only [storeCells, Sem.run_bind, hs, Result.andThen_ok, ih, setRow_setRow]
    congr 3
    have e := list_seg_step cur.toList (o + i) v vs (by rw [List.length_cons] at hl; simp; omega)
    simpa [Array.toList_setIfInBounds, Nat.add_assoc] using e

theorem app_room (t u ty e : TypeId) (i : TypeInfo) (ht : P.underlying t = some (.slice e)) (hu : P.underlying u = some .string) (hi : P.info? e = some i) (hs1 : i.size = 1)
    (g n cap : Nat) (cur : Array Value) (fz : Nat × Nat) (hg : w.heap[g]? = some (.cells cur e fz)) (hf : fz.2 = 0 ∨ cur.size ≤ fz.1) (s : ByteArray) (hroom : n + s.size ≤ cap) (hfit : n + s.size ≤ cur.size) :
    (Builtin.append_ #[t, u] ty #[.slice (some ⟨g, 0, none⟩) n cap, .string s]).run P w = .ok (.slice (some ⟨g, 0, none⟩) (n + s.size) cap) (w.setRow g (cur.toList.take n ++ Lib.strCells s ++ cur.toList.drop (n + s.size)).toArray) := by
  have h1 := Lib.run_firstCells_string (P := P) w 1 s
  have h2 := store_free (P := P) g n e fz (Lib.strCells s) 0 cur w hg hf (by simpa [Lib.strCells_length] using hfit) (Lib.strCells_oneCell s)
  simp only [Nat.add_zero, Lib.strCells_length] at h2
  simp [Builtin.append_, run_underlying ht, run_underlying hu, sizeOf, typeInfo, hi, hs1, Builtin.lenOf, hroom, h1, Addr.add_lit, h2]

/-- append(b, s...): what comes of it, whether there is room or not. -/
theorem app_str (t u ty e : TypeId) (z : Value) (S : Sl P t e z 1) (hz : z = .int .u8 0) (hu : P.underlying u = some .string) (v : Value) (T : ByteArray) (h : BRow w e v T) (s : ByteArray) (hlim : T.size + s.size ≤ 1000000000) :
    ∃ v' w', (Builtin.append_ #[t, u] ty #[v, .string s]).run P w = .ok v' w' ∧ BRow w' e v' (T ++ s) ∧ w.grownBy w' v.ownBlock ∧ ∀ k, v'.ownBlock = some k → v.ownBlock = some k ∨ w.heap.size ≤ k := by
  subst hz
  obtain ⟨i, hi, hzero, hsz, hby⟩ := info_parts S.info
  rcases h with ⟨rfl, rfl⟩ | ⟨g, cap, cur, fz, rfl, hg, hf, h1, h2, h3, h4⟩
  · obtain ⟨v', w', hr, ho, hgr, _⟩ := Lib.run_append_own_string (P := P) w w.heap.size t u ty e i S.und hu hi hzero hsz hby (.slice none 0 0) 0 [] (World.ownsRow_nil _ _ _ _) s (by unfold maxLen; omega) (by omega) (Nat.le_refl _)
    refine ⟨v', w', hr, ?_, hgr, fun k hk => .inr (World.ownsRow.lt ho k hk).1⟩
    have e0 : (⟨#[]⟩ : ByteArray) ++ s = s := by ext1; simp [ByteArray.data_append]
    rw [e0]
    simp only [Nat.zero_add, List.nil_append] at ho
    rcases ho.2 with ⟨rfl, h0⟩ | ⟨g, cap, cur, rfl, _, hg, q1, q2, q3, q4⟩
    · exact .inl ⟨rfl, ByteArray.ext (Array.eq_empty_of_size_eq_zero h0)⟩
    · exact .inr ⟨g, cap, cur, (0, 0), rfl, hg, .inl rfl, q1, q2, by simpa using q3, by simpa using q4⟩
  · by_cases hroom : T.size + s.size ≤ cap
    · have hr := app_room (P := P) t u ty e i S.und hu hi hsz g T.size cap cur fz hg hf s hroom (by omega)
      refine ⟨_, _, hr, .inr ⟨g, cap, _, fz, by rw [ByteArray.size_append], setRow_heap w g cur _ e _ hg, ?_, by rw [ByteArray.size_append]; exact hroom, h2, ?_, ?_⟩, ⟨rfl, rfl, rfl, by simp, fun k _ hk => setRow_other w g k _ (fun e => hk (by simp [Value.ownBlock, e]))⟩, fun k hk => .inl hk⟩
      · rcases hf with hf | hf
        · exact .inl hf
        · refine .inr ?_
          simp only [List.size_toArray, List.length_append, List.length_take, List.length_drop, Array.length_toList, Lib.strCells_length]
          omega
      · simp only [List.size_toArray, List.length_append, List.length_take, List.length_drop, Array.length_toList, Lib.strCells_length]
        omega
      · rw [h4, ByteArray.size_append, strCells_append]
        have hl : (Lib.strCells T ++ Lib.strCells s).length = T.size + s.size := by rw [List.length_append, Lib.strCells_length, Lib.strCells_length]
        rw [← hl]
        exact List.take_left
    · have hold : ∀ j x, (Lib.strCells T)[j]? = some x → w.cell? ((⟨g, 0, none⟩ : Addr).add j) = some x := fun j x hx => by
        rw [Addr.add_mid, Nat.zero_add, cell_of_row w g j cur e fz hg]
        rw [← h4, List.getElem?_take] at hx
        split at hx
        · simpa using hx
        · cases hx
      have hr := Lib.run_append_grow_string (P := P) w t u ty e i (.int .u8 0) S.und hu hi hzero ⟨g, 0, none⟩ T.size cap (Lib.strCells T) (by rw [hsz, Lib.strCells_length]; simp) hold s (by omega) (by omega) (by rw [hby]; exact growslice_fits (by omega) (by omega))
      have hge := grownCap_ge w (T.size + s.size) cap e
      have hle : grownCap w (T.size + s.size) cap e ≤ maxLen := grownCap_le_maxLen w (T.size + s.size) cap e (by unfold maxLen; omega)
      refine ⟨_, _, hr, .inr ⟨w.heap.size, _, _, (0, 0), by rw [ByteArray.size_append], heap_alloc_new w.drew _, .inl rfl, by rw [ByteArray.size_append]; exact hge, hle, ?_, ?_⟩, ⟨rfl, rfl, rfl, by simp, fun k hk _ => heap_alloc_old w.drew _ hk⟩, fun k hk => .inr ?_⟩
      · have hz1 : (Value.int IntKind.u8 0).cells.size = 1 := rfl
        simp only [Array.size_append, List.size_toArray, size_zeroCells, hz1, Lib.strCells_length]
        omega
      · simp only [Array.toList_append, List.append_assoc]
        have hl : (Lib.strCells T ++ Lib.strCells s).length = T.size + s.size := by rw [List.length_append, Lib.strCells_length, Lib.strCells_length]
        rw [← List.append_assoc, ByteArray.size_append, strCells_append, ← hl]
        exact List.take_left
      · have : w.heap.size = k := by simpa [Value.ownBlock] using hk
        omega
theorem list_appS {ops : Array Oper} {rest : List Oper} {o : Oper} {a : Act} {Q : Exit → Act → World → Prop} (hgd : o.guard = none) (sl x : Operand) (t u : TypeId)
    (ho : o.op = .call { callee := .builtin .append, args := #[sl, x], argTypes := #[t, u] })
    (v v' : Value) (s : ByteArray) (W : World) (hs : a.eval sl = v) (hx : a.eval x = .string s) (hr : (Builtin.append_ #[t, u] o.type #[v, .string s]).run P w = .ok v' W)
    (h : wpList P ops Q rest (a.put o.dst v') W) : wpList P ops Q (o :: rest) a w := by
  refine wpList_plain hgd fun K hK => ?_
  unfold Oper.wp execOp
  simp only [ho, resolve, invoke, builtin, Sem.run_bind, Sem.run_pure, Result.andThen_ok, List.map_toArray, List.map_cons, List.map_nil, hs, hx, hr]
  exact hK _ _ h

/-- string(b). -/
theorem str_of {src dst e : TypeId} (hs : P.underlying src = some (.slice e)) (he : P.underlying e = some (.int .u8)) (hd : P.underlying dst = some .string) {v : Value} {T : ByteArray} (h : BRow w e v T) :
    (convert src dst v).run P w = .ok (.string T) w := by
  rcases h with ⟨rfl, rfl⟩ | ⟨g, cap, cur, fz, rfl, hg, hf, h1, h2, h3, h4⟩
  · rw [run_convert_bytes_string w src dst e none _ _ hs he hd]
    rfl
  · have hc := run_convert_bytes_back (P := P) w src dst e ⟨g, 0, none⟩ cap T.data.toList hs he hd (fun j hj => by
      rw [Addr.add_mid, Nat.zero_add, cell_of_row w g j cur e fz hg]
      have hj2 : j < T.size := by simpa using hj
      have := congrArg (·[j]?) h4
      simp only [List.getElem?_take, if_pos hj2] at this
      rw [Array.getElem?_toList] at this
      rw [this]
      have hj3 : j < T.data.size := hj2
      simp only [Lib.strCells, List.getElem?_map, Array.getElem?_toList]
      rw [Array.getElem?_eq_getElem hj3]
      simp)
    simpa using hc

/-- []byte(s). -/
theorem bytes_of {src dst e : TypeId} (hs : P.underlying src = some .string) (hd : P.underlying dst = some (.slice e)) (he : P.underlying e = some (.int .u8)) (s : ByteArray) (hlim : s.size ≤ 1000000000) :
    ∃ cap W, (convert src dst (.string s)).run P w = .ok (.slice (some ⟨w.heap.size, 0, none⟩) s.size cap) W ∧ BRow W e (.slice (some ⟨w.heap.size, 0, none⟩) s.size cap) s ∧ Below w.heap.size w W := by
  have hr := run_bytes_of_string (P := P) w src dst e s hs hd he
  obtain ⟨cap, hcap⟩ : ∃ cap, cap = grownCap w s.size 0 e := ⟨_, rfl⟩
  have hge := grownCap_ge w s.size 0 e
  have hle : grownCap w s.size 0 e ≤ maxLen := grownCap_le_maxLen w s.size 0 e (by unfold maxLen; omega)
  rw [← hcap] at hr hge hle
  have hsz : (bytesRow s cap).size = cap := by
    unfold bytesRow
    simp only [Array.size_append, Array.size_map, Array.size_replicate]
    have : s.data.size = s.size := rfl
    omega
  refine ⟨cap, _, hr, .inr ⟨w.heap.size, cap, bytesRow s cap, _, rfl, heap_alloc_new w.drew _, .inr (Nat.le_refl _), hge, hle, hsz, ?_⟩, (Below.refl _ w).drew.alloc (Nat.le_refl _) _⟩
  unfold bytesRow
  rw [Array.toList_append, Array.toList_map]
  have : s.size = (List.map (fun b => Value.int IntKind.u8 (b.toNat : Int)) s.data.toList).length := by simp
  rw [this, List.take_left]
  rfl
end
end Go.Proofs.YtflkdgghpmhbgaaGreat
namespace Go.Proofs.YtflkdgghpmhbgaaGreat
open Go.RowKit

/-- Block b is a disk: its bytes T (as the slice v), n of them sure; down; limited, with k steps left. -/
def Dk (w : World) (b : Nat) (v : Value) (T : ByteArray) (n : Nat) (dn lim : Bool) (k : Nat) : Prop :=
  w.heap[b]? = some (.cells #[v, .int .i64 n, .bool dn, .bool lim, .int .i64 k] 124 (0, 0)) ∧ BRow w 5 v T ∧ v.ownBlock ≠ some b
/-- From w to w' the disk b alone has turned, with the block of its bytes; these lie now in v', where they lay, or in a new block. -/
structure Ch (b : Nat) (v : Value) (w w' : World) (v' : Value) : Prop where
  os : w'.os = w.os
  tape : w'.tape = w.tape
  output : w'.output = w.output
  size : w.heap.size ≤ w'.heap.size
  block : ∀ j, j < w.heap.size → j ≠ b → v.ownBlock ≠ some j → w'.heap[j]? = w.heap[j]?
  loc : ∀ j, v'.ownBlock = some j → v.ownBlock = some j ∨ w.heap.size ≤ j
theorem Ch.refl (b : Nat) (v : Value) (w : World) : Ch b v w w v := ⟨rfl, rfl, rfl, Nat.le_refl _, fun _ _ _ _ => rfl, fun _ h => .inl h⟩
theorem Ch.ofBelow {b : Nat} {w w' : World} (v : Value) (h : Below w.heap.size w w') : Ch b v w w' v := ⟨h.os, h.tape, h.output, h.size, fun j hj _ _ => h.block j hj, fun _ h => .inl h⟩
theorem Ch.trans {b : Nat} {v1 v2 v3 : Value} {w1 w2 w3 : World} (h : Ch b v1 w1 w2 v2) (k : Ch b v2 w2 w3 v3) : Ch b v1 w1 w3 v3 :=
  ⟨k.os.trans h.os, k.tape.trans h.tape, k.output.trans h.output, Nat.le_trans h.size k.size,
   fun j hj h1 h2 => (k.block j (Nat.lt_of_lt_of_le hj h.size) h1 (fun e => by
     rcases h.loc j e with e2 | e2
     · exact h2 e2
     · omega)).trans (h.block j hj h1 h2),
   fun j hj => by
     rcases k.loc j hj with e | e
     · exact h.loc j e
     · exact .inr (Nat.le_trans h.size e)⟩
theorem Ch.set (b o : Nat) (v : Value) (w : World) (x : Value) : Ch b v w (w.setCell ⟨b, o, none⟩ x) v :=
  ⟨rfl, rfl, rfl, by simp, fun j _ hn _ => heap_setCell_other w ⟨b, o, none⟩ j x hn, fun _ h => .inl h⟩
theorem Ch.below {b B : Nat} {v v' : Value} {w w' : World} (h : Ch b v w w' v') (hB : B ≤ b) (hv : ∀ j, v.ownBlock = some j → B ≤ j) (hw : B ≤ w.heap.size) : Below B w w' :=
  ⟨h.os, h.tape, h.output, h.size, fun j hj => h.block j (by omega) (by omega) (fun e => by have := hv j e; omega)⟩
theorem Ch.low {b B : Nat} {v v' : Value} {w w' : World} (h : Ch b v w w' v') (hv : ∀ j, v.ownBlock = some j → B ≤ j) (hw : B ≤ w.heap.size) : ∀ j, v'.ownBlock = some j → B ≤ j := fun j hj => by
  rcases h.loc j hj with e | e
  · exact hv j e
  · omega

section
variable {w w' : World} {b n k : Nat} {v : Value} {T : ByteArray} {dn lim : Bool}
theorem Dk.lt (h : Dk w b v T n dn lim k) : b < w.heap.size := (Array.getElem?_eq_some_iff.1 h.1).1
theorem Dk.cells (h : Dk w b v T n dn lim k) : w.cell? ⟨b, 0, none⟩ = some v ∧ w.cell? ⟨b, 1, none⟩ = some (.int .i64 n) ∧ w.cell? ⟨b, 2, none⟩ = some (.bool dn) ∧ w.cell? ⟨b, 3, none⟩ = some (.bool lim) ∧ w.cell? ⟨b, 4, none⟩ = some (.int .i64 k) := by
  have h1 := h.1
  simp [World.cell?, h1]
theorem Dk.free (h : Dk w b v T n dn lim k) : w.frozen? ⟨b, 0, none⟩ = false ∧ w.frozen? ⟨b, 1, none⟩ = false ∧ w.frozen? ⟨b, 2, none⟩ = false ∧ w.frozen? ⟨b, 3, none⟩ = false ∧ w.frozen? ⟨b, 4, none⟩ = false := by
  have h1 := h.1
  simp [World.frozen?, h1]
theorem Dk.drewN (h : Dk w b v T n dn lim k) (m : Nat) : Dk (w.drewN m) b v T n dn lim k := ⟨h.1, h.2.1.keep fun _ _ => rfl, h.2.2⟩
theorem Dk.keep (h : Dk w b v T n dn lim k) (hb : w'.heap[b]? = w.heap[b]?) (hv : ∀ j, v.ownBlock = some j → w'.heap[j]? = w.heap[j]?) : Dk w' b v T n dn lim k :=
  ⟨by rw [hb]; exact h.1, h.2.1.keep hv, h.2.2⟩
theorem Dk.later (h : Dk w b v T n dn lim k) (hb : Below w.heap.size w w') : Dk w' b v T n dn lim k :=
  h.keep (hb.block b h.lt) (fun j hj => hb.block j (h.2.1.lt j hj))
theorem Dk.set1 (h : Dk w b v T n dn lim k) (x : Nat) : Dk (w.setCell ⟨b, 1, none⟩ (.int .i64 x)) b v T x dn lim k :=
  ⟨heap_setCell_same w b 1 _ _ _ h.1, h.2.1.keep fun j hj => heap_setCell_other w ⟨b, 1, none⟩ j _ (fun e => h.2.2 (by rw [hj, e])), h.2.2⟩
theorem Dk.set2 (h : Dk w b v T n dn lim k) (x : Bool) : Dk (w.setCell ⟨b, 2, none⟩ (.bool x)) b v T n x lim k :=
  ⟨heap_setCell_same w b 2 _ _ _ h.1, h.2.1.keep fun j hj => heap_setCell_other w ⟨b, 2, none⟩ j _ (fun e => h.2.2 (by rw [hj, e])), h.2.2⟩
theorem Dk.set3 (h : Dk w b v T n dn lim k) (x : Bool) : Dk (w.setCell ⟨b, 3, none⟩ (.bool x)) b v T n dn x k :=
  ⟨heap_setCell_same w b 3 _ _ _ h.1, h.2.1.keep fun j hj => heap_setCell_other w ⟨b, 3, none⟩ j _ (fun e => h.2.2 (by rw [hj, e])), h.2.2⟩
theorem Dk.set4 (h : Dk w b v T n dn lim k) (x : Nat) : Dk (w.setCell ⟨b, 4, none⟩ (.int .i64 x)) b v T n dn lim x :=
  ⟨heap_setCell_same w b 4 _ _ _ h.1, h.2.1.keep fun j hj => heap_setCell_other w ⟨b, 4, none⟩ j _ (fun e => h.2.2 (by rw [hj, e])), h.2.2⟩
theorem Dk.set0 (h : Dk w b v T n dn lim k) {v' : Value} {T' : ByteArray} (hr : BRow w 5 v' T') (hne : v'.ownBlock ≠ some b) : Dk (w.setCell ⟨b, 0, none⟩ v') b v' T' n dn lim k :=
  ⟨heap_setCell_same w b 0 _ _ _ h.1, hr.keep fun j hj => heap_setCell_other w ⟨b, 0, none⟩ j _ (fun e => hne (by rw [hj, e])), hne⟩
end

theorem new_prog (w : World) : Calls Tryz.prog 14 #[] w fun e w' => e = .returned (.pointer (some ⟨w.heap.size, 0, none⟩)) ∧ Dk w' w.heap.size (.slice none 0 0) ⟨#[]⟩ 0 false false 0 ∧ Below w.heap.size w w' := by
  go_enter Tryz.func14, Tryz.ntmps14
  go_wp2_with fail
  go_ret
  exact ⟨rfl, ⟨heap_alloc_new _ _, .inl ⟨rfl, rfl⟩, fun h => by cases h⟩, (Below.refl _ _).alloc (Nat.le_refl _) _⟩

section
variable {w : World} {b n k : Nat} {v : Value} {T : ByteArray} {dn lim : Bool}
theorem down_prog (h : Dk w b v T n dn lim k) : Calls Tryz.prog 93 #[.pointer (some ⟨b, 0, none⟩)] w fun e w' => e = .returned (.bool dn) ∧ w' = w := by
  obtain ⟨c0, c1, c2, c3, c4⟩ := h.cells
  go_enter Tryz.func93, Tryz.ntmps93
  go_wp2_with fail
  go_ret
  exact ⟨rfl, rfl⟩
theorem waits_prog (h : Dk w b v T n dn lim k) (hn : n ≤ T.size) (hT : T.size ≤ 1000000000) : Calls Tryz.prog 58 #[.pointer (some ⟨b, 0, none⟩)] w fun e w' => e = .returned (.int .i64 ((T.size : Int) - (n : Int))) ∧ Same w w' := by
  obtain ⟨c0, c1, c2, c3, c4⟩ := h.cells
  obtain ⟨a, cap, rfl, hcap, _⟩ := h.2.1.shape
  have hnI : (n : Int) ≤ (T.size : Int) := by omega
  have hTI : (T.size : Int) ≤ 1000000000 := by omega
  have hn0 : (0 : Int) ≤ (n : Int) := by omega
  clear h hn hT
  go_enter Tryz.func58, Tryz.ntmps58
  go_wp2_with fail
  go_quiet (fail)
  go_wp2_with fail
  go_ret
  exact ⟨rfl, _, rfl⟩
theorem read_prog (h : Dk w b v T n dn lim k) : Calls Tryz.prog 56 #[.pointer (some ⟨b, 0, none⟩)] w fun e w' => e = .returned (.tuple #[.string (if dn then ⟨#[]⟩ else T), .int .i64 (if dn then 3 else 0)]) ∧ w' = w := by
  obtain ⟨c0, c1, c2, c3, c4⟩ := h.cells
  have H := Lib.hid (down_prog h)
  have hst := str_of (P := Tryz.prog) Tryz.underlying122 Tryz.underlying5 Tryz.underlying9 h.2.1
  obtain ⟨a, cap, rfl, hcap, _⟩ := h.2.1.shape
  cases dn
  · simp only [Bool.false_eq_true, if_false]
    go_enter Tryz.func56, Tryz.ntmps56
    go_wp2_with fail
    refine H.out.mono ?_
    rintro e w1 ⟨rfl, rfl⟩
    go_wp2_with fail
    go_ret2
    exact ⟨rfl, rfl⟩
  · simp only [if_true]
    go_enter Tryz.func56, Tryz.ntmps56
    go_wp2_with fail
    refine H.out.mono ?_
    rintro e w1 ⟨rfl, rfl⟩
    go_wp2_with fail
    go_ret2
    exact ⟨rfl, rfl⟩
end
end Go.Proofs.YtflkdgghpmhbgaaGreat
namespace Go.Proofs.YtflkdgghpmhbgaaGreat
open Go.RowKit

/-- Whether a step is done, and what is down and left behind it. -/
def stOk (dn lim : Bool) (k : Nat) : Bool := !dn && (!lim || decide (0 < k))
def stDn (dn lim : Bool) (k : Nat) : Bool := dn || (lim && decide (k = 0))
def stK (dn lim : Bool) (k : Nat) : Nat := if !dn && lim then k - 1 else k

section
variable {w : World} {b n k : Nat} {v : Value} {T : ByteArray} {dn lim : Bool}
theorem step_prog (h : Dk w b v T n dn lim k) (hk : k ≤ 9223372036854775807) : Calls Tryz.prog 97 #[.pointer (some ⟨b, 0, none⟩)] w fun e w' =>
    e = .returned (.bool (stOk dn lim k)) ∧ Dk w' b v T n (stDn dn lim k) lim (stK dn lim k) ∧ Ch b v w w' v := by
  obtain ⟨c0, c1, c2, c3, c4⟩ := h.cells
  obtain ⟨z0, z1, z2, z3, z4⟩ := h.free
  have H := Lib.hid (down_prog h)
  cases dn
  · cases lim
    · go_enter Tryz.func97, Tryz.ntmps97
      go_wp2_with fail
      refine H.out.mono ?_
      rintro e w1 ⟨rfl, rfl⟩
      go_wp2_with fail
      go_ret
      exact ⟨rfl, h, Ch.refl _ _ _⟩
    · by_cases h0 : k = 0
      · subst h0
        go_enter Tryz.func97, Tryz.ntmps97
        go_wp2_with fail
        refine H.out.mono ?_
        rintro e w1 ⟨rfl, rfl⟩
        go_wp2_with fail
        go_ret
        exact ⟨rfl, h.set2 true, Ch.set _ _ _ _ _⟩
      · have hk0 : ((k : Int) == 0) = false := by simp only [beq_eq_false_iff_ne]; omega
        have hkI : (k : Int) ≤ 9223372036854775807 := by omega
        have hk1 : (1 : Int) ≤ (k : Int) := by omega
        have HK := Lib.hid h0
        have e1 : (k : Int) - 1 = ((k - 1 : Nat) : Int) := by omega
        have eok : stOk false true k = true := by simp [stOk]; omega
        have edn : stDn false true k = false := by simp [stDn]; omega
        have ek : stK false true k = k - 1 := by simp [stK]
        have HD := Lib.hid (h.set4 (k - 1))
        rw [eok, edn, ek]
        have E1 := Lib.hid e1
        clear h0 hk eok edn ek e1
        go_enter Tryz.func97, Tryz.ntmps97
        go_wp2_with fail
        refine H.out.mono ?_
        rintro e w1 ⟨rfl, rfl⟩
        go_wp2_with fail
        go_ret
        rw [E1.out]
        exact ⟨rfl, HD.out, Ch.set _ _ _ _ _⟩
  · go_enter Tryz.func97, Tryz.ntmps97
    go_wp2_with fail
    refine H.out.mono ?_
    rintro e w1 ⟨rfl, rfl⟩
    go_wp2_with fail
    go_ret
    have e1 : stK true lim k = k := by simp [stK]
    rw [e1]
    exact ⟨rfl, h, Ch.refl _ _ _⟩

theorem fuel_prog (h : Dk w b v T n dn lim k) (x : Int) : Calls Tryz.prog 25 #[.pointer (some ⟨b, 0, none⟩), .int .i64 x] w fun e w' =>
    e = .returned (.tuple #[]) ∧ Dk w' b v T n dn (decide (0 ≤ x)) x.toNat ∧ Ch b v w w' v := by
  obtain ⟨c0, c1, c2, c3, c4⟩ := h.cells
  obtain ⟨z0, z1, z2, z3, z4⟩ := h.free
  by_cases hx : 0 ≤ x
  · have hd : decide (0 ≤ x) = true := decide_eq_true hx
    have hm : max x 0 = x := by omega
    have hN : ((x.toNat : Nat) : Int) = x := by omega
    have HD := (h.set3 true).set4 x.toNat
    rw [hN] at HD
    have HD := Lib.hid HD
    rw [hd]
    go_enter Tryz.func25, Tryz.ntmps25
    go_wp2_with fail
    go_end0
    exact ⟨rfl, HD.out, (Ch.set _ _ _ _ _).trans (Ch.set _ _ _ _ _)⟩
  · have hd : decide (0 ≤ x) = false := decide_eq_false hx
    have hm : max x 0 = 0 := by omega
    have hN : x.toNat = 0 := by omega
    have HD := (h.set3 false).set4 0
    rw [hN]
    have HD := Lib.hid HD
    rw [hd]
    go_enter Tryz.func25, Tryz.ntmps25
    go_wp2_with fail
    go_end0
    exact ⟨rfl, HD.out, (Ch.set _ _ _ _ _).trans (Ch.set _ _ _ _ _)⟩

/-- Whether a call was done, as an error's number. -/
def errOf (ok : Bool) : Int := if ok then 0 else 3

set_option maxRecDepth 30000 in
theorem append_prog (h : Dk w b v T n dn lim k) (hk : k ≤ 9223372036854775807) (s : ByteArray) (hlim : T.size + s.size ≤ 1000000000) :
    Calls Tryz.prog 192 #[.pointer (some ⟨b, 0, none⟩), .string s] w fun e w' => e = .returned (.int .i64 (errOf (stOk dn lim k))) ∧
      ∃ v', Dk w' b v' (if stOk dn lim k then T ++ s else T) n (stDn dn lim k) lim (stK dn lim k) ∧ Ch b v w w' v' := by
  have H := Lib.hid (step_prog h hk)
  obtain ⟨dn', hdn⟩ : ∃ dn', dn' = stDn dn lim k := ⟨_, rfl⟩
  obtain ⟨k', hk'⟩ : ∃ k', k' = stK dn lim k := ⟨_, rfl⟩
  rw [← hdn, ← hk'] at H ⊢
  cases hok : stOk dn lim k
  · rw [hok] at H
    clear hdn hk' hok
    go_enter Tryz.func192, Tryz.ntmps192
    go_wp2_with fail
    refine H.out.mono ?_
    rintro e w1 ⟨rfl, hd, hc⟩
    go_wp2_with fail
    go_ret
    exact ⟨rfl, v, hd, hc⟩
  · rw [hok] at H
    clear hdn hk' hok
    go_enter Tryz.func192, Tryz.ntmps192
    go_wp2_with fail
    refine H.out.mono ?_
    rintro e w1 ⟨rfl, hd, hc⟩
    obtain ⟨c0, c1, c2, c3, c4⟩ := hd.cells
    obtain ⟨z0, z1, z2, z3, z4⟩ := hd.free
    obtain ⟨a, cap, rfl, hcap, _⟩ := hd.2.1.shape
    obtain ⟨v', W, hrun, hrow, hgr, hloc⟩ := app_str (P := Tryz.prog) (w := w1) 122 9 122 5 (.int .u8 0) ⟨Tryz.underlying122, by kernel_rfl, rfl⟩ rfl Tryz.underlying9 _ T hd.2.1 s hlim
    have hlt := hd.lt
    have hblk : W.heap[b]? = w1.heap[b]? := hgr.block b hlt (fun e => hd.2.2 e.symm)
    have d0 : W.cell? ⟨b, 0, none⟩ = some (.slice a T.size cap) := by rw [World.cell?_of_block (w := w1) (a := ⟨b, 0, none⟩) hblk]; exact c0
    have y0 : W.frozen? ⟨b, 0, none⟩ = false := by rw [← z0]; simp only [World.frozen?, hblk]
    obtain ⟨av, capv, hv', hcapv, _⟩ := hrow.shape
    obtain ⟨m, hm⟩ : ∃ m, m = (T ++ s).size := ⟨_, rfl⟩
    rw [← hm] at hv' hcapv
    subst hv'
    have hne : (Value.slice av m capv).ownBlock ≠ some b := fun e => by
      rcases hloc b e with h1 | h1
      · exact hd.2.2 h1
      · omega
    have hdW : Dk (W.setCell ⟨b, 0, none⟩ (.slice av m capv)) b (.slice av m capv) (T ++ s) n dn' lim k' :=
      ⟨heap_setCell_same W b 0 _ _ _ (by rw [hblk]; exact hd.1), hrow.keep fun j hj => heap_setCell_other W ⟨b, 0, none⟩ j _ (fun e => hne (by rw [hj, e])), hne⟩
    have HD := Lib.hid hdW
    have hcW : Ch b (.slice a T.size cap) w1 (W.setCell ⟨b, 0, none⟩ (.slice av m capv)) (.slice av m capv) :=
      ⟨hgr.os, hgr.tape, hgr.output, by simpa using hgr.size, fun j hj h1 h2 => (heap_setCell_other W ⟨b, 0, none⟩ j _ h1).trans (hgr.block j hj (fun e => h2 e.symm)), fun j hj => hloc j hj⟩
    have HC := Lib.hid (hc.trans hcW)
    clear hdW hcW hd hc hlt hblk hgr hrow hne hloc hm
    go_wp2_with (first | (at_builtin; refine list_appS rfl _ _ _ _ rfl _ _ s W rfl rfl hrun ?_))
    go_wp2_with fail
    go_ret
    exact ⟨rfl, _, HD.out, HC.out⟩

set_option maxRecDepth 30000 in
theorem sync_prog (h : Dk w b v T n dn lim k) (hk : k ≤ 9223372036854775807) :
    Calls Tryz.prog 59 #[.pointer (some ⟨b, 0, none⟩)] w fun e w' => e = .returned (.int .i64 (errOf (stOk dn lim k))) ∧
      Dk w' b v T (if stOk dn lim k then T.size else n) (stDn dn lim k) lim (stK dn lim k) ∧ Ch b v w w' v := by
  have H := Lib.hid (step_prog h hk)
  obtain ⟨dn', hdn⟩ : ∃ dn', dn' = stDn dn lim k := ⟨_, rfl⟩
  obtain ⟨k', hk'⟩ : ∃ k', k' = stK dn lim k := ⟨_, rfl⟩
  rw [← hdn, ← hk'] at H ⊢
  obtain ⟨a, cap, rfl, hcap, _⟩ := h.2.1.shape
  cases hok : stOk dn lim k
  · rw [hok] at H
    clear hdn hk' hok
    go_enter Tryz.func59, Tryz.ntmps59
    go_wp2_with fail
    refine H.out.mono ?_
    rintro e w1 ⟨rfl, hd, hc⟩
    go_wp2_with fail
    go_ret
    exact ⟨rfl, hd, hc⟩
  · rw [hok] at H
    clear hdn hk' hok
    go_enter Tryz.func59, Tryz.ntmps59
    go_wp2_with fail
    refine H.out.mono ?_
    rintro e w1 ⟨rfl, hd, hc⟩
    obtain ⟨c0, c1, c2, c3, c4⟩ := hd.cells
    obtain ⟨z0, z1, z2, z3, z4⟩ := hd.free
    go_wp2_with fail
    go_ret
    exact ⟨rfl, hd.set1 T.size, hc.trans (Ch.set _ _ _ _ _)⟩

set_option maxRecDepth 30000 in
theorem swap_prog (h : Dk w b v T n dn lim k) (hk : k ≤ 9223372036854775807) (s : ByteArray) (hlim : s.size ≤ 1000000000) :
    Calls Tryz.prog 190 #[.pointer (some ⟨b, 0, none⟩), .string s] w fun e w' => e = .returned (.int .i64 (errOf (stOk dn lim k))) ∧
      ∃ v', Dk w' b v' (if stOk dn lim k then s else T) (if stOk dn lim k then s.size else n) (stDn dn lim k) lim (stK dn lim k) ∧ Ch b v w w' v' := by
  have H := Lib.hid (step_prog h hk)
  obtain ⟨dn', hdn⟩ : ∃ dn', dn' = stDn dn lim k := ⟨_, rfl⟩
  obtain ⟨k', hk'⟩ : ∃ k', k' = stK dn lim k := ⟨_, rfl⟩
  rw [← hdn, ← hk'] at H ⊢
  cases hok : stOk dn lim k
  · rw [hok] at H
    clear hdn hk' hok
    go_enter Tryz.func190, Tryz.ntmps190
    go_wp2_with fail
    refine H.out.mono ?_
    rintro e w1 ⟨rfl, hd, hc⟩
    go_wp2_with fail
    go_ret
    exact ⟨rfl, v, hd, hc⟩
  · rw [hok] at H
    clear hdn hk' hok
    go_enter Tryz.func190, Tryz.ntmps190
    go_wp2_with fail
    refine H.out.mono ?_
    rintro e w1 ⟨rfl, hd, hc⟩
    obtain ⟨c0, c1, c2, c3, c4⟩ := hd.cells
    obtain ⟨z0, z1, z2, z3, z4⟩ := hd.free
    obtain ⟨cap, W, hrun, hrow, hbw⟩ := bytes_of (P := Tryz.prog) (w := w1) Tryz.underlying9 Tryz.underlying122 Tryz.underlying5 s hlim
    have hlt := hd.lt
    have hdW := hd.later hbw
    obtain ⟨d0, d1, d2, d3, d4⟩ := hdW.cells
    obtain ⟨y0, y1, y2, y3, y4⟩ := hdW.free
    have hsI : (s.size : Int) ≤ 1000000000 := by omega
    have hne : (Value.slice (some ⟨w1.heap.size, 0, none⟩) s.size cap).ownBlock ≠ some b := by simp [Value.ownBlock]; omega
    have HR := Lib.hid ((hdW.set0 hrow hne).set1 s.size)
    have HC : Hid (Ch b v w W v) := Lib.hid (hc.trans (Ch.ofBelow v hbw))
    have HS := Lib.hid hc.size
    clear hdW hd hc hlt hne
    go_wp2_with fail
    go_ret
    refine ⟨rfl, _, HR.out, ?_⟩
    have h1 := (HC.out.trans (Ch.set b 0 v W (.slice (some ⟨w1.heap.size, 0, none⟩) s.size cap))).trans (Ch.set b 1 v _ (.int .i64 (s.size : Int)))
    exact ⟨h1.os, h1.tape, h1.output, h1.size, h1.block, fun j hj => .inr (by have := HS.out; simp [Value.ownBlock] at hj; omega)⟩

end
end Go.Proofs.YtflkdgghpmhbgaaGreat
namespace Go.Proofs.YtflkdgghpmhbgaaGreat
open Go.RowKit

theorem own_len (a : Option Addr) (n c : Nat) : (Value.slice a n c).ownBlock = a.map (·.block) := by cases a <;> rfl

section
variable {w : World} {b n k : Nat} {v : Value} {T : ByteArray} {dn lim : Bool}
set_option maxRecDepth 30000 in
set_option maxHeartbeats 4000000 in
theorem crash_prog (h : Dk w b v T n dn lim k) (hn : n ≤ T.size) (hT : T.size ≤ 1000000000) (x : Int) :
    Calls Tryz.prog 18 #[.pointer (some ⟨b, 0, none⟩), .int .i64 x] w fun e w' => e = .returned (.tuple #[]) ∧
      ∃ v', Dk w' b v' (T.extract 0 (n + min x.toNat (T.size - n))) (n + min x.toNat (T.size - n)) false false 0 ∧ Ch b v w w' v' := by
  obtain ⟨c0, c1, c2, c3, c4⟩ := h.cells
  obtain ⟨z0, z1, z2, z3, z4⟩ := h.free
  obtain ⟨a, cap, rfl, hcap, hspot⟩ := h.2.1.shape
  obtain ⟨m, hm⟩ : ∃ m, m = min x.toNat (T.size - n) := ⟨_, rfl⟩
  rw [← hm]
  have hnm : n + m ≤ T.size := by omega
  have HWT := Lib.hid (fun W (hW : Dk W b (.slice a T.size cap) T n dn lim k) => waits_prog hW hn hT)
  have HD := Lib.hid h
  obtain ⟨X, hX⟩ : ∃ X, (if x < 0 then 0 else x) = X := ⟨_, rfl⟩
  have hM : (if (T.size : Int) - (n : Int) < X then (T.size : Int) - (n : Int) else X) = (m : Int) := by split <;> split at hX <;> omega
  have hwr : IntKind.i64.wrap ((n : Int) + (m : Int)) = (n : Int) + (m : Int) := IntWalk.i64_in _ (by omega)
  have HNM := Lib.hid hnm
  have HSP := Lib.hid hspot
  have HCP := Lib.hid hcap
  have HT := Lib.hid hT
  clear c0 c2 c3 c4 z0 z2 z3 z4 hcap hspot hm hnm h hn hT
  go_enter Tryz.func18, Tryz.ntmps18
  go_upto_region 1 with fail
  go_cut [5] (fun s5 wx => s5 = .bool false ∧ ∃ q, wx = (w.drewN q).setCell ⟨b, 1, none⟩ (.int .i64 ((n : Int) + (m : Int))))
  case first =>
    go_region_with ((go_at_call 58; (with_reducible refine (HWT.out _ (HD.out.later ((Below.refl _ _).drew))).mono ?_); rintro e w1 ⟨rfl, q, rfl⟩))
    all_goals
      go_wp2_with fail
      go_meet
      exact ⟨rfl, 1 + q, rfl⟩
  case rest =>
    obtain ⟨rfl, q, rfl⟩ := hcut
    have hd1 : Dk ((w.drewN q).setCell ⟨b, 1, none⟩ (.int .i64 ((n : Int) + (m : Int)))) b (.slice a T.size cap) T (n + m) dn lim k := (HD.out.drewN q).set1 (n + m)
    have hc1 : Ch b (.slice a T.size cap) w ((w.drewN q).setCell ⟨b, 1, none⟩ (.int .i64 ((n : Int) + (m : Int)))) (.slice a T.size cap) := (Ch.ofBelow _ ((Same.of w q).below _)).trans (Ch.set _ _ _ _ _)
    obtain ⟨w1, hw1⟩ : ∃ w1, w1 = (w.drewN q).setCell ⟨b, 1, none⟩ (.int .i64 ((n : Int) + (m : Int))) := ⟨_, rfl⟩
    rw [← hw1] at hd1 hc1 ⊢
    clear hw1 c1 z1 HD HWT hX hM
    obtain ⟨c0, c1, c2, c3, c4⟩ := hd1.cells
    obtain ⟨z0, z1, z2, z3, z4⟩ := hd1.free
    have hcut := hd1.2.1.cut (n + m) HNM.out
    have hi1 : (0 : Int) ≤ (n : Int) + (m : Int) := by omega
    have hi2 : (n : Int) + (m : Int) ≤ (cap : Int) := by have := HNM.out; have := HCP.out.1; omega
    have hne : (Value.slice a (n + m) cap).ownBlock ≠ some b := fun e => hd1.2.2 (by rw [own_len] at e ⊢; exact e)
    have HD2 := Lib.hid (((hd1.drewN 1).set0 (hcut.keep fun _ _ => rfl) hne).set2 false)
    have HC2 : Hid (Ch b (.slice a T.size cap) w ((w1.drew.setCell ⟨b, 0, none⟩ (.slice a (n + m) cap)).setCell ⟨b, 2, none⟩ (.bool false)) (.slice a (n + m) cap)) := Lib.hid (by
      have := ((hc1.trans (Ch.ofBelow (w' := w1.drew) _ ((Below.refl _ w1).drew))).trans (Ch.set b 0 (.slice a T.size cap) _ (.slice a (n + m) cap))).trans (Ch.set b 2 _ _ (.bool false))
      exact ⟨this.os, this.tape, this.output, this.size, this.block, fun j hj => this.loc j (by rw [own_len] at hj ⊢; exact hj)⟩)
    have e2 : ((n : Int) + (m : Int)).toNat = n + m := by omega
    clear hd1 hc1 hcut hne
    go_wp2_with fail
    go_still_tail 12, (by kernel_rfl)
    try simp only [e2]
    change wpList _ _ _ _ _ w1.drew
    go_wp2_with fail
    refine (fuel_prog HD2.out (-1)).mono ?_
    rintro e w2 ⟨rfl, hd2, hc2⟩
    go_wp2_with fail
    go_end0
    exact ⟨rfl, _, hd2, HC2.out.trans hc2⟩
end
end Go.Proofs.YtflkdgghpmhbgaaGreat
