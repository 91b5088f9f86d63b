/- part's copied and Top. -/
import Derived.Test.YtmpjpaomgifpcaaDoorPOpen
namespace Go.Proofs.YtmpjpaomgifpcaaDoor
open Go.RowKit

theorem eight_cells {w : World} {b : Nat} {x0 x1 x2 x3 x4 x5 x6 x7 : Value} {t : TypeId} (h : w.heap[b]? = some (.cells #[x0, x1, x2, x3, x4, x5, x6, x7] t (0, 0))) :
    w.cell? ⟨b, 0, none⟩ = some x0 ∧ w.cell? ⟨b, 1, none⟩ = some x1 ∧ w.cell? ⟨b, 2, none⟩ = some x2 ∧ w.cell? ⟨b, 3, none⟩ = some x3 ∧ w.cell? ⟨b, 4, none⟩ = some x4 ∧ w.cell? ⟨b, 5, none⟩ = some x5 ∧ w.cell? ⟨b, 6, none⟩ = some x6 ∧ w.cell? ⟨b, 7, none⟩ = some x7 := by
  simp [World.cell?, h]
theorem eight_frozen {w : World} {b i : Nat} {c : Array Value} {t : TypeId} (h : w.heap[b]? = some (.cells c t (0, 0))) : w.frozen? ⟨b, i, none⟩ = false := by
  simp [World.frozen?, h]
theorem eight_set {w : World} {b : Nat} {x0 x1 x2 x3 x4 x5 x6 x7 y5 y6 : Value} {t : TypeId} (h : w.heap[b]? = some (.cells #[x0, x1, x2, x3, x4, x5, x6, x7] t (0, 0))) :
    ((w.setCell ⟨b, 5, none⟩ y5).setCell ⟨b, 6, none⟩ y6).heap[b]? = some (.cells #[x0, x1, x2, x3, x4, y5, y6, x7] t (0, 0)) := by
  simp [World.setCell, Array.getElem?_modify, h]
abbrev flatC (lf st : Bool) (k v h : ByteArray) : Obj := .cells #[.bool lf, .bool st, .string k, .string v, .int .i64 0, .pointer none, .pointer none, .string h] 85 (0, 0)

/-- A tree in blocks from B on. -/
def PRepA (w : World) (B : Nat) : PT → Nat → Prop
  | .stub h, b => B ≤ b ∧ StubAt w b h
  | .leaf k v, b => B ≤ b ∧ NodeAt w b true k v 0 (.pointer none) (.pointer none) (leafH k v)
  | .fork p k z o, b => B ≤ b ∧ ∃ bz bo, NodeAt w b false k ⟨#[]⟩ p (pp bz) (pp bo) (forkH p k z.hash o.hash) ∧ PRepA w B z bz ∧ PRepA w B o bo
theorem PRepA.rep {w : World} {B : Nat} : ∀ {t : PT} {b : Nat}, PRepA w B t b → PRep w t b
  | .stub _, _, h => h.2
  | .leaf _ _, _, h => h.2
  | .fork _ _ _ _, _, ⟨_, bz, bo, h, hz, ho⟩ => ⟨bz, bo, h, PRepA.rep hz, PRepA.rep ho⟩
theorem PRepA.keep {w w' : World} {B B' : Nat} (hB : B' ≤ B) (hk : ∀ i, B ≤ i → i < w.heap.size → w'.heap[i]? = w.heap[i]?) : ∀ {t : PT} {b : Nat}, PRepA w B t b → PRepA w' B' t b
  | .stub _, b, h => ⟨Nat.le_trans hB h.1, by unfold StubAt; rw [hk b h.1 (block_lt h.2)]; exact h.2⟩
  | .leaf _ _, b, h => ⟨Nat.le_trans hB h.1, by unfold NodeAt; rw [hk b h.1 (NodeAt.lt h.2)]; exact h.2⟩
  | .fork _ _ _ _, b, ⟨h0, bz, bo, h, hz, ho⟩ => ⟨Nat.le_trans hB h0, bz, bo, by unfold NodeAt; rw [hk b h0 (NodeAt.lt h)]; exact h, PRepA.keep hB hk hz, PRepA.keep hB hk ho⟩
def PtResA (w : World) (t : PT) (e : Ending) (w' : World) : Prop := ∃ d, e = .returned (pp d) ∧ PRepA w' w.heap.size t d ∧ Below w.heap.size w w'

theorem pcopied_nil (w : World) : Calls Tryd.prog 35 #[.pointer none] w fun e w' => e = .returned (.pointer none) ∧ w = w' := by
  go_enter Tryd.func35, Tryd.ntmps35
  go_wp2
  go_ret
  exact ⟨rfl, rfl⟩

set_option maxRecDepth 30000 in
set_option maxHeartbeats 2000000 in
theorem copied_flat (lf st : Bool) (k v h : ByteArray) (b : Nat) (w : World) (hx : w.heap[b]? = some (flatC lf st k v h)) :
    Calls Tryd.prog 35 #[pp b] w fun e w' => ∃ d, e = .returned (pp d) ∧ w.heap.size ≤ d ∧ w'.heap[d]? = some (flatC lf st k v h) ∧ Below w.heap.size w w' := by
  obtain ⟨c0, c1, c2, c3, c4, c5, c6, c7⟩ := eight_cells hx
  have hlt : b < w.heap.size := (Array.getElem?_eq_some_iff.1 hx).1
  have HN := Lib.hid pcopied_nil
  obtain ⟨W, hW⟩ : ∃ W, W = w.alloc (flatC lf st k v h) := ⟨_, rfl⟩
  have hb : Below w.heap.size w W := by rw [hW]; exact (Below.refl _ w).alloc (Nat.le_refl _) _
  have hn : W.heap[w.heap.size]? = some (flatC lf st k v h) := by rw [hW]; exact heap_alloc_new _ _
  have e5 := cellB hb c5
  have e6 := cellB hb c6
  have HB := Lib.hid hb
  have HNN := Lib.hid hn
  have HW := Lib.hid hW
  obtain ⟨_, _, _, _, _, d5, d6, _⟩ := eight_cells hn
  have f5 := eight_frozen (i := 5) hn
  have f6 := eight_frozen (i := 6) hn
  have hne : b ≠ w.heap.size := by omega
  clear hx hb hn hW hlt
  unfold pp
  go_enter Tryd.func35, Tryd.ntmps35
  go_wp2_with fail
  rw [← HW.out]
  go_region_held3 (fun w' => w'.cell? ⟨b, 5, none⟩ = some (.pointer none) ∧ w'.cell? ⟨b, 6, none⟩ = some (.pointer none))
    (first | exact ⟨e5, e6⟩ | exact ⟨cellS hne e5, cellS hne e6⟩ | exact ⟨cellS hne (cellS hne e5), cellS hne (cellS hne e6)⟩)
    ((go_at_call 35; refine (HN.out _).mono ?_; rintro e w4 ⟨rfl, rfl⟩))
  go_wp2
  go_ret
  exact ⟨_, rfl, Nat.le_refl _, eight_set HNN.out, ((HB.out.setCell (p := ⟨w.heap.size, 5, none⟩) (Nat.le_refl _) _).setCell (p := ⟨w.heap.size, 6, none⟩) (Nat.le_refl _) _).drew⟩

set_option maxRecDepth 30000 in
set_option maxHeartbeats 2000000 in
theorem pcopied_prog (t : PT) : ∀ (b : Nat) (w : World), PRep w t b →
    Calls Tryd.prog 35 #[pp b] w (PtResA w t) := by
  induction t with
  | stub h' =>
    intro b w hr
    refine (copied_flat false true ⟨#[]⟩ ⟨#[]⟩ h' b w hr).mono ?_
    rintro e w' ⟨d, rfl, hd, hn, hb⟩
    exact ⟨d, rfl, ⟨hd, hn⟩, hb⟩
  | leaf k' v' =>
    intro b w hr
    refine (copied_flat true false k' v' (leafH k' v') b w hr).mono ?_
    rintro e w' ⟨d, rfl, hd, hn, hb⟩
    exact ⟨d, rfl, ⟨hd, hn⟩, hb⟩
  | fork p k' z o iz io =>
    intro b w hr
    obtain ⟨bz, bo, hn0, hrz, hro⟩ := hr
    obtain ⟨c0, c1, c2, c3, c4, c5, c6, c7⟩ := NodeAt.cells8 hn0
    have hlt := NodeAt.lt hn0
    have HRZ := Lib.hid hrz
    have HRO := Lib.hid hro
    obtain ⟨W, hW⟩ : ∃ W, W = w.alloc (.cells (nodeC false k' ⟨#[]⟩ p (pp bz) (pp bo) (forkH p k' z.hash o.hash)) 85) := ⟨_, rfl⟩
    have hb : Below w.heap.size w W := by rw [hW]; exact (Below.refl _ w).alloc (Nat.le_refl _) _
    have hn : NodeAt W w.heap.size false k' ⟨#[]⟩ p (pp bz) (pp bo) (forkH p k' z.hash o.hash) := by rw [hW]; exact node_new w false k' ⟨#[]⟩ p _ _ _
    have hWs : w.heap.size < W.heap.size := NodeAt.lt hn
    have e5 := cellB hb c5
    have e6 := cellB hb c6
    have HB := Lib.hid hb
    have HNN := Lib.hid hn
    have HW := Lib.hid hW
    have HIZ := Lib.hid (fun (V : World) (h1 : Below w.heap.size w V) => iz bz V (HRZ.out.later h1))
    have HIO := Lib.hid (fun (V : World) (h1 : Below w.heap.size w V) => io bo V (HRO.out.later h1))
    have hne : b ≠ w.heap.size := by omega
    have HBD : Hid (Below w.heap.size w W.drew) := Lib.hid (hb.trans (Below.refl _ W).drew)
    clear hrz hro hb hn hW hlt hn0 iz io
    unfold pp at *
    go_enter Tryd.func35, Tryd.ntmps35
    go_wp2_with fail
    rw [show w.alloc (Obj.cells #[Value.bool false, Value.bool false, Value.string k', Value.string ⟨#[]⟩, Value.int IntKind.i64 p, Value.pointer (some ⟨bz, 0, none⟩), Value.pointer (some ⟨bo, 0, none⟩), Value.string (forkH p k' z.hash o.hash)] 85) = W from HW.out.symm]
    go_region_held3 (fun w' => w'.cell? ⟨b, 5, none⟩ = some (.pointer (some ⟨bz, 0, none⟩)) ∧ w'.cell? ⟨b, 6, none⟩ = some (.pointer (some ⟨bo, 0, none⟩)))
      (first | exact ⟨e5, e6⟩ | exact ⟨cellS hne hcs5.1, cellS hne hcs5.2⟩ | exact ⟨cellS hne (cellS hne hcs5.1), cellS hne (cellS hne hcs5.2)⟩ | exact hcs5 | exact hcs4)
      (first
        | (go_at_call 35; (with_reducible refine (HIZ.out _ HBD.out).mono ?_); rintro e w4 ⟨d4, rfl, hd4, hb4⟩; unfold pp; have hcs4 := And.intro (cellD hb4 e5) (cellD hb4 e6); have HB4 := Lib.hid hb4; have HD4 := Lib.hid hd4; have HBw4 : Hid (Below w.heap.size w w4) := Lib.hid (HBD.out.trans (hb4.mono HBD.out.size)); have hn4 := Lib.hid (NodeAt.later HNN.out ((Below.refl _ W).drew.trans hb4)); have f5 := node_frozen (i := 5) hn4.out; have f6 := node_frozen (i := 6) hn4.out; obtain ⟨_, _, _, _, _, d5, d6, _⟩ := NodeAt.cells8 hn4.out)
        | (go_at_call 35; (with_reducible refine (HIO.out _ HBw4.out).mono ?_); rintro e w5 ⟨d5', rfl, hd5, hb5⟩; unfold pp; have hcs5 := And.intro (cellB hb5 hcs4.1) (cellB hb5 hcs4.2); have HB5 := Lib.hid hb5; have HD5 := Lib.hid hd5; have hn5 := Lib.hid (NodeAt.later hn4.out hb5); have g5 := node_frozen (i := 5) hn5.out; have g6 := node_frozen (i := 6) hn5.out; obtain ⟨_, _, _, _, _, q5, q6, _⟩ := NodeAt.cells8 hn5.out))
    go_wp2
    go_ret
    have hs4 := HB4.out.size
    have hs5 := HB5.out.size
    have hWd : W.drew.heap.size = W.heap.size := rfl
    have hkeep : ∀ i, W.heap.size ≤ i → ((w5.setCell ⟨w.heap.size, 5, none⟩ (.pointer (some ⟨d4, 0, none⟩))).setCell ⟨w.heap.size, 6, none⟩ (.pointer (some ⟨d5', 0, none⟩))).heap[i]? = w5.heap[i]? := fun i hi => by
      rw [setCell_other _ _ _ _ _ (by omega), setCell_other _ _ _ _ _ (by omega)]
    refine ⟨_, rfl, ⟨Nat.le_refl _, d4, d5', node_set _ _ hn5.out, ?_, ?_⟩, (((HBw4.out.trans (HB5.out.mono HBw4.out.size)).setCell (p := ⟨w.heap.size, 5, none⟩) (Nat.le_refl _) _).setCell (p := ⟨w.heap.size, 6, none⟩) (Nat.le_refl _) _)⟩
    · refine PRepA.keep (by rw [hWd]; omega) (fun i h1 h2 => ?_) HD4.out
      rw [hkeep i h1, HB5.out.block i h2]
    · refine PRepA.keep (by omega) (fun i h1 h2 => ?_) HD5.out
      exact hkeep i (by rw [hWd] at hs4; omega)

/-- A part's tree, or none. -/
def PTopRes (w : World) (m : Option PT) (e : Ending) (w' : World) : Prop := match m with
  | none => e = .returned (.pointer none) ∧ Below w.heap.size w w'
  | some t => ∃ d, e = .returned (pp d) ∧ PRep w' t d ∧ Below w.heap.size w w'
theorem top_part {w : World} {m : Option PT} {x : Value} (h : PAt w m x) : Calls Tryd.prog 12 #[x] w (PTopRes w m) := by
  obtain ⟨b, tv, rfl, h2, h3⟩ := h
  have c0 := one_at h2
  clear h2
  cases m with
  | none =>
    obtain rfl : tv = .pointer none := h3
    unfold pp
    go_enter Tryd.func12, Tryd.ntmps12
    go_wp2_with fail
    refine (pcopied_nil _).mono ?_
    rintro e w1 ⟨rfl, rfl⟩
    go_wp2
    go_ret
    exact ⟨rfl, Below.refl _ _⟩
  | some t =>
    obtain ⟨d, rfl, hd⟩ := h3
    have HC := Lib.hid (pcopied_prog t d w hd)
    clear hd
    unfold pp at c0 HC ⊢
    go_enter Tryd.func12, Tryd.ntmps12
    go_wp2_with fail
    refine HC.out.mono ?_
    rintro e w1 ⟨q, rfl, hq, hb1⟩
    unfold pp
    have HQ := Lib.hid (PRepA.rep hq)
    have HB := Lib.hid hb1
    clear hq hb1
    go_wp2
    go_ret
    exact ⟨q, rfl, HQ.out, HB.out⟩
end Go.Proofs.YtmpjpaomgifpcaaDoor
