/- Small laws on byte slices that a call owns, on append and on conversions: stated for every program. -/
import Derived.WalkKit
import Derived.WalkSpells
import Derived.WalkLawsBesides
import Derived.BigQuiet
import Derived.BigRegion
import Derived.Deep.QuietTactic
import Derived.Deep.RegionLaw
import Derived.Deep.RegionHeld3
import Derived.Deep.AppendLies
import Derived.Laws.CopyOwn
import Derived.Laws.IdiomStrings
import Derived.Lib.Hide
import Derived.Deep.OwnRows
namespace Go.Proofs.Ytgdlnjhbencjkaa
open Go.RowKit

/-- What a slice type's tables say, for elements of one cell. -/
structure Sl (P : Program) (t e : TypeId) (z : Value) (bytes : Nat) : Prop where
  und : P.underlying t = some (.slice e)
  info : (P.info? e).map (fun i => (i.zero, i.size, i.bytes)) = some (some z, 1, bytes)
  zc : z.cells.size = 1

def byteV (b : UInt8) : Value := .int .u8 (b.toNat : Int)

/-- The slice value v owns the elements xs. -/
def Owns (w : World) (B : Nat) (e : TypeId) (v : Value) (xs : List Value) : Prop := w.ownsRow B e 1 v xs.length xs

theorem Owns.nil (w : World) (B : Nat) (e : TypeId) : Owns w B e (.slice none 0 0) [] := World.ownsRow_nil _ _ _ _
theorem Owns.alloc {w : World} {B : Nat} {e : TypeId} {v : Value} {xs : List Value} (h : Owns w B e v xs) (o : Obj) : Owns (w.alloc o) B e v xs := World.ownsRow.alloc h o
theorem Owns.drew {w : World} {B : Nat} {e : TypeId} {v : Value} {xs : List Value} (h : Owns w B e v xs) : Owns w.drew B e v xs := h
theorem Owns.drewN {w : World} {B : Nat} {e : TypeId} {v : Value} {xs : List Value} (h : Owns w B e v xs) (n : Nat) : Owns (w.drewN n) B e v xs := h

theorem Owns.later {w w' : World} {B : Nat} {e : TypeId} {v : Value} {xs : List Value} (h : Owns w B e v xs) (hb : Below w.heap.size w w') : Owns w' B e v xs := by
  refine ⟨h.1, ?_⟩
  rcases h.2 with h0 | ⟨g, cap, cur, hv, hB, hg, h1, h2, h3, h4⟩
  · exact .inl h0
  · refine .inr ⟨g, cap, cur, hv, hB, ?_, h1, h2, h3, h4⟩
    rw [hb.block g ?_]; · exact hg
    rcases Nat.lt_or_ge g w.heap.size with hlt | hge
    · exact hlt
    · rw [Array.getElem?_eq_none hge] at hg; cases hg

theorem Owns.shape {w : World} {B : Nat} {e : TypeId} {v : Value} {xs : List Value} (h : Owns w B e v xs) : ∃ a cap, v = .slice a xs.length cap := by
  rcases h.2 with ⟨hv, h0⟩ | ⟨g, cap, cur, hv, _⟩
  · exact ⟨none, 0, by rw [h0]; exact hv⟩
  · exact ⟨_, cap, hv⟩

theorem Owns.cell {w : World} {B : Nat} {e : TypeId} {a : Addr} {n cap : Nat} {xs : List Value} (h : Owns w B e (.slice (some a) n cap) xs) (j : Nat) (hj : j < xs.length) :
    w.cell? (a.add j) = some xs[j] := by
  rcases h.2 with ⟨hv, _⟩ | ⟨g, cap', cur, hv, _, hg, _⟩
  · cases hv
  · cases hv
    exact World.ownsRow.cells h rfl j _ (by simp [hj])

theorem Below.ofGrown {w w' : World} {B : Nat} {e : TypeId} {v : Value} {n : Nat} {xs : List Value} (h : w.ownsRow B e 1 v n xs) (hg : w.grownBy w' v.ownBlock) (hB : B ≤ w.heap.size) : Below B w w' :=
  (Below.refl B w).grown hg hB fun k hk => (World.ownsRow.lt h k hk).1

def strLen : Value → Nat
  | .string q => q.size
  | _ => 0

/-- The world w' is w but for draws. -/
def Same (w w' : World) : Prop := ∃ n, w' = w.drewN n
theorem Same.refl (w : World) : Same w w := ⟨0, rfl⟩
theorem Same.of (w : World) (n : Nat) : Same w (w.drewN n) := ⟨n, rfl⟩
theorem Same.drew {a w : World} (h : Same a w) : Same a w.drew := by obtain ⟨n, rfl⟩ := h; exact ⟨n + 1, rfl⟩
theorem Same.trans {a b c : World} (h : Same a b) (k : Same b c) : Same a c := by
  obtain ⟨n, rfl⟩ := h; obtain ⟨m, rfl⟩ := k; exact ⟨n + m, by rw [World.drewN_drewN]⟩
theorem Same.below {a w : World} (h : Same a w) (B : Nat) : Below B a w := by
  obtain ⟨n, rfl⟩ := h; exact ⟨rfl, rfl, rfl, Nat.le_refl _, fun _ _ => rfl⟩
theorem Same.size {a w : World} (h : Same a w) : w.heap.size = a.heap.size := by obtain ⟨n, rfl⟩ := h; rfl
theorem Owns.same {w w' : World} {B : Nat} {e : TypeId} {v : Value} {xs : List Value} (h : Owns w B e v xs) (hs : Same w w') : Owns w' B e v xs := h.later (hs.below _)

/-- Contracts at a call in a region that only reads. -/
theorem quietS {P : Program} {f : FuncId} {args : Array Value} {w : World} {n : Nat} {v : Value} (h : Calls P f args (w.drewN n) fun e w' => e = .returned v ∧ Same (w.drewN n) w') :
    Calls P f args (w.drewN n) fun e w'' => e = .returned v ∧ ∃ m, w'' = w.drewN m :=
  Calls.quiet_of (h.mono fun _ _ h => h)
theorem quietE {P : Program} {f : FuncId} {args : Array Value} {w : World} {n : Nat} {v : Value} (h : Calls P f args (w.drewN n) fun e w' => e = .returned v ∧ w.drewN n = w') :
    Calls P f args (w.drewN n) fun e w'' => e = .returned v ∧ ∃ m, w'' = w.drewN m :=
  Calls.quiet_of_same (h.mono fun _ _ h => ⟨h.1, h.2.symm⟩)

theorem quietS2 {P : Program} {f : FuncId} {args : Array Value} {w : World} {a n : Nat} {v : Value} (h : Calls P f args (w.drewN (a + n)) fun e w' => e = .returned v ∧ Same (w.drewN (a + n)) w') :
    Calls P f args (w.drewN (a + n)) fun e w'' => e = .returned v ∧ ∃ m, w'' = w.drewN (a + m) :=
  h.mono fun _ _ ⟨he, m, hm⟩ => ⟨he, n + m, by rw [hm, World.drewN_drewN, Nat.add_assoc]⟩
theorem quietE2 {P : Program} {f : FuncId} {args : Array Value} {w : World} {a n : Nat} {v : Value} (h : Calls P f args (w.drewN (a + n)) fun e w' => e = .returned v ∧ w.drewN (a + n) = w') :
    Calls P f args (w.drewN (a + n)) fun e w'' => e = .returned v ∧ ∃ m, w'' = w.drewN (a + m) :=
  h.mono fun _ _ ⟨he, hm⟩ => ⟨he, n, hm.symm⟩

section
variable {P : Program} {w : World} {t e : TypeId} {z : Value} {bytes : Nat}

theorem heap_at_alloc (w : World) (o : Obj) : (w.alloc o).heap[w.heap.size]? = some o := heap_alloc_new w o

/-- append at a step of a region that draws: what is appended lies in a block that is known whole. -/
theorem step_app {ops : Array Oper} {o : Oper} {a : Act} {K : Act → World → Prop} {Q : Exit → Act → World → Prop} {E : Prop} (S : Sl P t e z bytes) (hgd : o.guard = none) (s x : Operand)
    (ho : o.op = .call { callee := .builtin .append, args := #[s, x], argTypes := #[t, t] })
    (B : Nat) (v : Value) (xs : List Value) (hs : a.eval s = v) (hown : Owns w B e v xs)
    (g0 : Nat) (news : List Value) (hx : a.eval x = .slice (some ⟨g0, 0, none⟩) news.length news.length) (hblk : w.heap[g0]? = some (.cells news.toArray e (0, 0))) (h1 : ∀ u ∈ news, u.oneCell' = true)
    (hm : 0 < news.length) (h63 : xs.length + news.length ≤ maxLen) (hbytes : (xs.length + news.length) * bytes ≤ 140737488355328) (hbase : B ≤ w.heap.size)
    (h : ∀ v' w', Owns w' B e v' (xs ++ news) → Below B w w' → K (a.put o.dst v') w') :
    if Region.wanted o (yielded ops a.tmps) = true then Oper.wp P o a w K Q else E := by
  obtain ⟨i, hi, hz, hsz, hby⟩ := info_parts S.info
  refine step_append_lies w hgd s x t ho B e i z 1 bytes S.und hi hz hsz hby S.zc (by omega) v xs.length xs hs hown ⟨g0, 0, none⟩ news.length news.length news hx (by omega)
    (by simpa using World.news_of_block hblk) h1 hm h63 hbytes hbase _ rfl ?_
  intro g cap w' h2 h3 _ _
  refine h _ w' ?_ (Below.ofGrown hown h3 hbase)
  unfold Owns; rw [List.length_append]; exact h2

/-- append at a plain region's list: what is appended lies in a block that is known whole. -/
theorem list_app {ops : Array Oper} {rest : List Oper} {o : Oper} {a : Act} {Q : Exit → Act → World → Prop} (S : Sl P t e z bytes) (hgd : o.guard = none) (s x : Operand)
    (ho : o.op = .call { callee := .builtin .append, args := #[s, x], argTypes := #[t, t] })
    (B : Nat) (v : Value) (xs : List Value) (hs : a.eval s = v) (hown : Owns w B e v xs)
    (g0 : Nat) (news : List Value) (hx : a.eval x = .slice (some ⟨g0, 0, none⟩) news.length news.length) (hblk : w.heap[g0]? = some (.cells news.toArray e (0, 0))) (h1 : ∀ u ∈ news, u.oneCell' = true)
    (hm : 0 < news.length) (h63 : xs.length + news.length ≤ maxLen) (hbytes : (xs.length + news.length) * bytes ≤ 140737488355328) (hbase : B ≤ w.heap.size)
    (h : ∀ v' w', Owns w' B e v' (xs ++ news) → Below B w w' → wpList P ops Q rest (a.put o.dst v') w') :
    wpList P ops Q (o :: rest) a w := by
  obtain ⟨i, hi, hz, hsz, hby⟩ := info_parts S.info
  refine wpList_append_lies w hgd s x t ho B e i z 1 bytes S.und hi hz hsz hby S.zc (by omega) v xs.length xs hs hown ⟨g0, 0, none⟩ news.length news.length news hx (by omega)
    (by simpa using World.news_of_block hblk) h1 hm h63 hbytes hbase _ rfl ?_
  intro g cap w' h2 h3 _ _
  refine h _ w' ?_ (Below.ofGrown hown h3 hbase)
  unfold Owns; rw [List.length_append]; exact h2

/-- make([]T, 0, n). -/
theorem list_make0 {ops : Array Oper} {rest : List Oper} {o : Oper} {a : Act} {Q : Exit → Act → World → Prop} (S : Sl P t e z bytes) (hgd : o.guard = none) (l c : Operand)
    (ho : o.op = .makeSlice t l c) (n : Nat) (hl : a.eval l = .int .i64 0) (C : Int) (hc : a.eval c = .int .i64 C) (hC : C = (n : Int)) (b2 : bytes * n ≤ 281474976710656) (b3 : n ≤ maxLen)
    (h : ∀ w', Owns w' w.heap.size e (.slice (some ⟨w.heap.size, 0, none⟩) 0 n) [] → Below w.heap.size w w' → wpList P ops Q rest (a.put o.dst (.slice (some ⟨w.heap.size, 0, none⟩) 0 n)) w') :
    wpList P ops Q (o :: rest) a w := by
  obtain ⟨i, hi, hz, hsz, hby⟩ := info_parts S.info
  refine wpList_make_own w hgd l c t ho w.heap.size e i z 1 S.und hi hz hsz .i64 .i64 C n hl hc hC (by rw [hby]; exact b2) b3 (Nat.le_refl _) ?_
  intro w' h1 h2
  exact h w' h1 ((Below.refl _ w).grown h2 (Nat.le_refl _) (by intro k hk; cases hk))

/-- string(b), b owned bytes. -/
theorem run_string_owned {src dst : TypeId} (hs : P.underlying src = some (.slice e)) (he : P.underlying e = some (.int .u8)) (hd : P.underlying dst = some .string)
    {B : Nat} {v : Value} {l : List UInt8} (h : Owns w B e v (l.map byteV)) : (convert src dst v).run P w = .ok (.string ⟨l.toArray⟩) w := by
  obtain ⟨a, cap, rfl⟩ := h.shape
  cases a with
  | none =>
    rcases h.2 with ⟨hv, h0⟩ | ⟨g, cap', cur, hv, _⟩
    · have hl : l = [] := by cases l with
        | nil => rfl
        | cons _ _ => simp at h0
      subst hl
      rw [run_convert_bytes_string w src dst e none _ _ hs he hd]
      rfl
    · cases hv
  | some ad =>
    have hc := run_convert_bytes_back (P := P) w src dst e ad cap l hs he hd (fun j hj => by
      have := h.cell j (by simpa using hj)
      rw [this]; simp [byteV])
    simpa using hc

/-- string of a block that was laid just now. -/
theorem run_string_block {src dst : TypeId} (hs : P.underlying src = some (.slice e)) (he : P.underlying e = some (.int .u8)) (hd : P.underlying dst = some .string)
    (g cap : Nat) (l : List UInt8) (hb : w.heap[g]? = some (.cells (l.map byteV).toArray e (0, 0))) : (convert src dst (.slice (some ⟨g, 0, none⟩) l.length cap)).run P w = .ok (.string ⟨l.toArray⟩) w := by
  refine run_convert_bytes_back (P := P) w src dst e ⟨g, 0, none⟩ cap l hs he hd (fun j hj => ?_)
  exact World.news_of_block hb j _ (by simp [hj, byteV])

/-- string of a whole block of bytes, whatever its type's number. -/
theorem run_string_row {src dst : TypeId} (hs : P.underlying src = some (.slice e)) (he : P.underlying e = some (.int .u8)) (hd : P.underlying dst = some .string)
    (g cap : Nat) (l : List UInt8) {tb : TypeId} (hb : w.heap[g]? = some (.cells (l.map byteV).toArray tb (0, 0))) : (convert src dst (.slice (some ⟨g, 0, none⟩) l.length cap)).run P w = .ok (.string ⟨l.toArray⟩) w := by
  refine run_convert_bytes_back (P := P) w src dst e ⟨g, 0, none⟩ cap l hs he hd (fun j hj => ?_)
  exact World.news_of_block hb j _ (by simp [hj, byteV])

theorem rowIs_later {w w' : World} {b : Nat} {t : TypeId} {n : Nat} {f : Nat → Value} (h : w.rowIs b t n f) (hb : Below w.heap.size w w') : w'.rowIs b t n f := h.of_block (hb.block b h.lt)
theorem rowIs_below {w w' : World} {B b : Nat} {t : TypeId} {n : Nat} {f : Nat → Value} (h : w.rowIs b t n f) (hb : Below B w w') (hlt : b < B) : w'.rowIs b t n f := h.of_block (hb.block b hlt)
theorem rowIs_same {w w' : World} {b : Nat} {t : TypeId} {n : Nat} {f : Nat → Value} (h : w.rowIs b t n f) (hs : Same w w') : w'.rowIs b t n f := rowIs_later h (hs.below _)

/-- make([]T, n), n > 0. -/
theorem list_makeN {ops : Array Oper} {rest : List Oper} {o : Oper} {a : Act} {Q : Exit → Act → World → Prop} (S : Sl P t e z bytes) (hgd : o.guard = none) (l c : Operand)
    (ho : o.op = .makeSlice t l c) (n : Nat) (L C : Int) (hl : a.eval l = .int .i64 L) (hc : a.eval c = .int .i64 C) (hL : L = (n : Int)) (hC : C = (n : Int)) (b2 : bytes * n ≤ 281474976710656) (b3 : n ≤ maxLen)
    (h1 : z.cells = #[z]) (h : ∀ w', w'.rowIs w.heap.size e n (fun _ => z) → Below w.heap.size w w' → wpList P ops Q rest (a.put o.dst (.slice (some ⟨w.heap.size, 0, none⟩) n n)) w') :
    wpList P ops Q (o :: rest) a w := by
  obtain ⟨i, hi, hz, hsz, hby⟩ := info_parts S.info
  refine wpList_make_full w hgd l c t ho w.heap.size e i z 1 S.und hi hz hsz .i64 .i64 L C n hl hc hL hC (by rw [hby]; exact b2) b3 (Nat.le_refl _) ?_
  intro w' h2 h3
  refine h w' ?_ ((Below.refl _ w).grown h3 (Nat.le_refl _) (by intro k hk; cases hk))
  rcases h2.2 with ⟨hv, _⟩ | ⟨g, cap, cur, hv, hB, hg, h4, h5, h6, h7⟩
  · cases hv
  · cases hv
    refine ⟨cur, hg, by simpa using h6, fun j hj => ?_⟩
    have h8 : cur.toList = (madeCells z.cells (n * 1)).toList := by
      rw [← h7, List.take_of_length_le (by simp [h6])]
    have h9 : cur = madeCells z.cells (n * 1) := Array.toList_inj.1 h8
    rw [h9, h1]
    simp [madeCells, hj, Nat.mod_one]

/-- copy(y, x), y a row of the call's own, x as long. -/
theorem list_copy_row {ops : Array Oper} {rest : List Oper} {o : Oper} {a : Act} {Q : Exit → Act → World → Prop} (S : Sl P t e z bytes) (hgd : o.guard = none) (d s : Operand)
    (ho : o.op = .call { callee := .builtin .copy, args := #[d, s], argTypes := #[t, t] }) (g n : Nat) (hd : a.eval d = .slice (some ⟨g, 0, none⟩) n n) (f : Nat → Value) (hrow : w.rowIs g e n f)
    (gs sc : Nat) (hs : a.eval s = .slice (some ⟨gs, 0, none⟩) n sc) (X : Nat → Value) (hsrc : ∀ j, j < n → w.cell? ⟨gs, j, none⟩ = some (X j)) (h1 : ∀ j, (X j).oneCell' = true)
    (h : ∀ w', w'.rowIs g e n X → Below g w w' → wpList P ops Q rest (a.put o.dst (goInt n)) w') : wpList P ops Q (o :: rest) a w := by
  obtain ⟨i, hi, hz, hsz, hby⟩ := info_parts S.info
  obtain ⟨c, hg, hn, hc⟩ := hrow
  refine wpList_copy_splice hgd d s t t ho e S.und (by rw [hi]; simp [hsz]) _ _ n n n sc hd hs g 0 c.toList e (by simpa using hg) ((List.range n).map X) (by simp) ?_ (by simp [hn]) ?_ g w (Below.refl _ _) (Nat.le_refl _) ?_
  · intro _
    refine ⟨rfl, _, rfl, fun j v hv => ?_⟩
    have hj : j < n := by
      have := (List.getElem?_eq_some_iff.1 hv).1
      simpa using this
    simp [hj] at hv
    subst hv
    have := hsrc j hj
    unfold Addr.add
    split
    · rename_i h0; subst h0; exact this
    · simpa using this
  · intro v hv; simp at hv; obtain ⟨j, _, rfl⟩ := hv; exact h1 j
  · intro w' hw hb
    have H := h w' ⟨_, hw.out, by simp [splice, hn], fun j hj => by simp [splice]; rw [List.getElem?_append_left (by simpa using hj)]; simp [hj]⟩ hb
    simpa using H
end

theorem row_put {w : World} {g e n : Nat} {f f' : Nat → Value} (h : w.rowIs g e n f) (i : Nat) (v : Value) (hf : ∀ j, j < n → f' j = if j = i then v else f j) : (w.setCell ⟨g, i, none⟩ v).rowIs g e n f' :=
  (h.set i v).congr fun j hj => (hf j hj).symm
theorem cell_set_ne (w : World) (g i j : Nat) (v u : Value) (h : w.cell? ⟨g, j, none⟩ = some u) (hne : j ≠ i) : (w.setCell ⟨g, i, none⟩ v).cell? ⟨g, j, none⟩ = some u := by
  rw [← h]
  simp only [World.cell?, World.setCell, Array.getElem?_modify]
  cases hb : w.heap[g]? with
  | none => simp
  | some o => cases o <;> simp [Ne.symm hne]
end Go.Proofs.Ytgdlnjhbencjkaa
