/- Tree's stack of open nodes: how it lies, and what becomes of it. -/
import Derived.Test.YtaojcbdljgcfgaaCOwn
import Derived.Test.YtaojcbdljgcfgaaCFn
import Derived.Deep.RegionHeld3
namespace Go.Proofs.Ytaojcbdljgcfgaa
open Go.RowKit

def F.wt : F → Nat
  | .nil => 0
  | .cons _ _ s c r => s.size + 1024 + c.wt + r.wt
def F.nok : F → Prop
  | .nil => True
  | .cons _ n _ c r => (0 ≤ n ∧ n < 18446744073709551616) ∧ c.nok ∧ r.nok
theorem wt_len : ∀ f : F, f.len ≤ f.wt
  | .nil => by simp [F.len]
  | .cons _ _ _ _ r => by have := wt_len r; simp [F.len, F.wt]; omega
set_option maxRecDepth 8000 in
theorem wt_len2 : ∀ f : F, f.len * 1024 ≤ f.wt
  | .nil => by simp [F.len]
  | .cons _ _ _ _ r => by have := wt_len2 r; simp only [F.len, F.wt]; omega
theorem ok_wt : ∀ f : F, f.nok → f.wt < 268435456 → f.ok
  | .nil, _, _ => trivial
  | .cons _ n s c r, h, hw => by
    simp only [F.wt] at hw
    exact ⟨h.1, by omega, by have := wt_len c; omega, ok_wt c h.2.1 (by omega), ok_wt r h.2.2 (by omega)⟩
theorem wt_app : ∀ f g : F, (f.app g).wt = f.wt + g.wt
  | .nil, g => by simp [F.app, F.wt]
  | .cons _ _ _ _ r, g => by simp only [F.app, F.wt]; rw [wt_app r g]; omega
theorem nok_app : ∀ f g : F, f.nok → g.nok → (f.app g).nok
  | .nil, _, _, h => h
  | .cons _ _ _ _ r, g, h, h2 => ⟨h.1, h.2.1, nok_app r g h.2.2 h2⟩

/-- An open node's kids: they own a row; what lies below them is of the colour behind the row's. -/
def OpenAt (w : World) (A : Nat) (col : Nat → Nat) (j : Nat) (v : Value) (f : F) : Prop :=
  ∃ cs, w.ownsRow A 27 4 v f.len cs ∧ CellsOf w (fun b => A ≤ b ∧ b < w.heap.size ∧ col b = 2 * j + 3) f cs ∧ ∀ k, v.ownBlock = some k → col k = 2 * j + 2
def stCells : List (Value × F) → List Value
  | [] => []
  | p :: r => .int .i64 2 :: .int .u64 0 :: .string ⟨#[]⟩ :: p.1 :: stCells r
theorem stCells_len : ∀ vs, (stCells vs).length = vs.length * 4
  | [] => rfl
  | p :: r => by simp only [stCells, List.length_cons]; rw [stCells_len r]; omega
theorem stCells_app : ∀ vs us, stCells (vs ++ us) = stCells vs ++ stCells us
  | [], _ => rfl
  | p :: r, us => by simp only [List.cons_append, stCells]; rw [stCells_app r us]
/-- The stack: in the variable g4 lies a slice of the open nodes. -/
def St (w : World) (A g4 : Nat) (vs : List (Value × F)) (ov : Value) (col : Nat → Nat) : Prop :=
  w.heap[g4]? = some (.cells #[ov] 25 (0, 0)) ∧ w.ownsRow A 27 4 ov vs.length (stCells vs) ∧ (∀ k, ov.ownBlock = some k → col k = 1) ∧ (∀ j p, vs[j]? = some p → OpenAt w A col j p.1 p.2) ∧ col g4 = 0 ∧ g4 < w.heap.size

theorem openAt_keep {w w' : World} {A j : Nat} {col col' : Nat → Nat} {v : Value} {f : F} (h : OpenAt w A col j v f) (hs : w.heap.size ≤ w'.heap.size)
    (hb : ∀ b, A ≤ b → b < w.heap.size → (col b = 2 * j + 2 ∨ col b = 2 * j + 3) → w'.heap[b]? = w.heap[b]? ∧ col' b = col b) : OpenAt w' A col' j v f := by
  obtain ⟨cs, h1, h2, h3⟩ := h
  refine ⟨cs, ownN_mv h1 (fun k hk => (hb k (World.ownsRow.lt h1 k hk).1 (World.ownsRow.lt h1 k hk).2 (.inl (h3 k hk))).1), CellsOf.mono (fun b hb2 => ?_) f cs h2, fun k hk => ?_⟩
  · have := hb b hb2.1 hb2.2.1 (.inr hb2.2.2)
    exact ⟨⟨hb2.1, by omega, by rw [this.2]; exact hb2.2.2⟩, this.1⟩
  · have := hb k (World.ownsRow.lt h1 k hk).1 (World.ownsRow.lt h1 k hk).2 (.inl (h3 k hk))
    rw [this.2]; exact h3 k hk

/-- A node in a row that is owned is written over. -/
theorem own_set {w : World} {A : Nat} {e : TypeId} {g n cap : Nat} {xs : List Value} (h : w.ownsRow A e 4 (.slice (some ⟨g, 0, none⟩) n cap) n xs) (i : Nat) (v : Value) :
    (w.setCell ⟨g, i, none⟩ v).ownsRow A e 4 (.slice (some ⟨g, 0, none⟩) n cap) n (xs.set i v) := by
  refine ⟨by rw [List.length_set]; exact h.1, ?_⟩
  rcases h.2 with ⟨h0, _⟩ | ⟨g2, cap2, cur, hv, hB, hg, hn, hm, hs, ht⟩
  · cases h0
  · injection hv with e1 e2 e3
    injection e1 with e1
    injection e1 with e1
    subst e1 e3
    exact .inr ⟨g, cap, cur.setIfInBounds i v, rfl, hB, heap_setCell_same w g i cur _ v hg, hn, hm, by rw [Array.size_setIfInBounds]; exact hs, by rw [Array.toList_setIfInBounds, List.take_set, ht]⟩
theorem own_frozen {w : World} {A : Nat} {e : TypeId} {g n cap size : Nat} {xs : List Value} (h : w.ownsRow A e size (.slice (some ⟨g, 0, none⟩) n cap) n xs) (i : Nat) : w.frozen? ⟨g, i, none⟩ = false := by
  rcases h.2 with ⟨h0, _⟩ | ⟨g2, cap2, cur, hv, hB, hg, _⟩
  · cases h0
  · injection hv with e1 e2 e3
    injection e1 with e1
    injection e1 with e1
    subst e1
    simp [World.frozen?, hg]
theorem own_cell {w : World} {A : Nat} {e : TypeId} {g n cap size : Nat} {xs : List Value} (h : w.ownsRow A e size (.slice (some ⟨g, 0, none⟩) n cap) n xs) (i : Nat) (u : Value) (hu : xs[i]? = some u) : w.cell? ⟨g, i, none⟩ = some u := by
  have := h.cells (g := g) rfl i u hu
  unfold Addr.add at this
  split at this
  · rename_i h0; subst h0; exact this
  · simpa using this

/-- The top of the stack. -/
theorem st_top {w : World} {A g4 : Nat} {ws : List (Value × F)} {v : Value} {f : F} {ov : Value} {col : Nat → Nat} (h : St w A g4 (ws ++ [(v, f)]) ov col) :
    ∃ go cap, ov = .slice (some ⟨go, 0, none⟩) (ws.length + 1) cap ∧ A ≤ go ∧ go < w.heap.size ∧ col go = 1 ∧ w.cell? ⟨g4, 0, none⟩ = some ov ∧
      w.cell? ⟨go, ws.length * 4, none⟩ = some (.int .i64 2) ∧ w.cell? ⟨go, ws.length * 4 + 1, none⟩ = some (.int .u64 0) ∧ w.cell? ⟨go, ws.length * 4 + 2, none⟩ = some (.string ⟨#[]⟩) ∧ w.cell? ⟨go, ws.length * 4 + 3, none⟩ = some v ∧
      (∀ i, w.frozen? ⟨go, i, none⟩ = false) ∧ w.frozen? ⟨g4, 0, none⟩ = false ∧ OpenAt w A col ws.length v f := by
  obtain ⟨h1, h2, h3, h4, _, _⟩ := h
  have hn : (ws ++ [(v, f)]).length = ws.length + 1 := by simp
  rw [hn] at h2
  obtain ⟨go, cap, rfl, hA, hlt⟩ := h2.form (by omega)
  have hc : ∀ i u, [Value.int .i64 2, .int .u64 0, .string ⟨#[]⟩, v][i]? = some u → (stCells (ws ++ [(v, f)]))[ws.length * 4 + i]? = some u := fun i u hu => by
    rw [stCells_app, List.getElem?_append_right (by rw [stCells_len]; omega), stCells_len, show ws.length * 4 + i - ws.length * 4 = i by omega]
    exact hu
  exact ⟨go, cap, rfl, hA, hlt, h3 go rfl, by simp [World.cell?, h1], own_cell h2 _ _ (hc 0 _ rfl), own_cell h2 _ _ (hc 1 _ rfl), own_cell h2 _ _ (hc 2 _ rfl), own_cell h2 _ _ (hc 3 _ rfl), own_frozen h2, by simp [World.frozen?, h1], h4 ws.length (v, f) (by simp)⟩
end Go.Proofs.Ytaojcbdljgcfgaa
