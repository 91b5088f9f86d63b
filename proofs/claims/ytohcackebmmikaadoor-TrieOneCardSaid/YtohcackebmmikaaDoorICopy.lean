/- trie's copied. -/
import Derived.Test.YtohcackebmmikaaDoorIGather
namespace Go.Proofs.YtohcackebmmikaaDoor
open Go.RowKit

theorem NodeAt.cells8 {w : World} {b : Nat} {lf : Bool} {k v h : ByteArray} {p : Nat} {z o : Value} (hn : NodeAt w b lf k v p z o h) :
    w.cell? ⟨b, 0, none⟩ = some (.bool lf) ∧ w.cell? ⟨b, 1, none⟩ = some (.bool false) ∧ w.cell? ⟨b, 2, none⟩ = some (.string k) ∧ w.cell? ⟨b, 3, none⟩ = some (.string v) ∧ w.cell? ⟨b, 4, none⟩ = some (.int .i64 p) ∧ w.cell? ⟨b, 5, none⟩ = some z ∧ w.cell? ⟨b, 6, none⟩ = some o ∧ w.cell? ⟨b, 7, none⟩ = some (.string h) := by
  unfold NodeAt nodeC at hn
  simp [World.cell?, hn]

/-- A tree in blocks from B on. -/
def RepA (w : World) (B : Nat) : Tr → Nat → Prop
  | .leaf k v, b => B ≤ b ∧ NodeAt w b true k v 0 (.pointer none) (.pointer none) (leafH k v)
  | .fork p k z o, b => B ≤ b ∧ ∃ bz bo, NodeAt w b false k ⟨#[]⟩ p (pp bz) (pp bo) (forkH p k z.hash o.hash) ∧ RepA w B z bz ∧ RepA w B o bo
theorem RepA.rep {w : World} {B : Nat} : ∀ {t : Tr} {b : Nat}, RepA w B t b → Rep w t b
  | .leaf _ _, _, h => h.2
  | .fork _ _ _ _, _, ⟨_, bz, bo, h, hz, ho⟩ => ⟨bz, bo, h, RepA.rep hz, RepA.rep ho⟩
theorem RepA.keep {w w' : World} {B B' : Nat} (hB : B' ≤ B) (hk : ∀ i, B ≤ i → i < w.heap.size → w'.heap[i]? = w.heap[i]?) : ∀ {t : Tr} {b : Nat}, RepA w B t b → RepA w' B' t b
  | .leaf _ _, b, h => ⟨Nat.le_trans hB h.1, by unfold NodeAt; rw [hk b h.1 (NodeAt.lt h.2)]; exact h.2⟩
  | .fork _ _ _ _, b, ⟨h0, bz, bo, h, hz, ho⟩ => ⟨Nat.le_trans hB h0, bz, bo, by unfold NodeAt; rw [hk b h0 (NodeAt.lt h)]; exact h, RepA.keep hB hk hz, RepA.keep hB hk ho⟩
def TrResA (w : World) (t : Tr) (e : Ending) (w' : World) : Prop := ∃ d, e = .returned (pp d) ∧ RepA w' w.heap.size t d ∧ Below w.heap.size w w'

theorem setCell_other (w : World) (g i b : Nat) (v : Value) (h : b ≠ g) : (w.setCell ⟨g, i, none⟩ v).heap[b]? = w.heap[b]? := Below.heap_setCell _ _ _ _ h
theorem size_set (w : World) (g i : Nat) (v : Value) : (w.setCell ⟨g, i, none⟩ v).heap.size = w.heap.size := by simp [World.setCell]
theorem node_set {w : World} {b : Nat} {lf : Bool} {k v h : ByteArray} {p : Nat} {z o : Value} (z' o' : Value) (hn : NodeAt w b lf k v p z o h) :
    NodeAt ((w.setCell ⟨b, 5, none⟩ z').setCell ⟨b, 6, none⟩ o') b lf k v p z' o' h := by
  have hlt := NodeAt.lt hn
  unfold NodeAt nodeC at *
  have h1 := Array.getElem?_eq_getElem hlt
  rw [hn] at h1
  injection h1 with h1
  simp [World.setCell, Array.getElem?_modify, hn]

theorem node_frozen {w : World} {b i : Nat} {lf : Bool} {k v h : ByteArray} {p : Nat} {z o : Value} (hn : NodeAt w b lf k v p z o h) : w.frozen? ⟨b, i, none⟩ = false := by
  unfold NodeAt at hn; simp [World.frozen?, hn]
theorem cellS {W : World} {g i b o : Nat} {x v : Value} (hne : b ≠ g) (h : W.cell? ⟨b, o, none⟩ = some v) : (W.setCell ⟨g, i, none⟩ x).cell? ⟨b, o, none⟩ = some v := by
  rw [← h]; exact World.cell?_of_block (w := W) (setCell_other W g i b x hne)
theorem copied_nil (w : World) : Calls Tryd.prog 39 #[.pointer none] w fun e w' => e = .returned (.pointer none) ∧ w = w' := by
  go_enter Tryd.func39, Tryd.ntmps39
  go_wp2
  go_ret
  exact ⟨rfl, rfl⟩

set_option maxRecDepth 30000 in
set_option maxHeartbeats 2000000 in
theorem copied_prog (t : Tr) : ∀ (b : Nat) (w : World), Rep w t b →
    Calls Tryd.prog 39 #[pp b] w (TrResA w t) := by
  induction t with
  | leaf k' v' =>
    intro b w hr
    obtain ⟨c0, c1, c2, c3, c4, c5, c6, c7⟩ := NodeAt.cells8 (show NodeAt w b true k' v' 0 _ _ _ from hr)
    have hlt := NodeAt.lt (show NodeAt w b true k' v' 0 _ _ _ from hr)
    have HN := Lib.hid copied_nil
    obtain ⟨W, hW⟩ : ∃ W, W = w.alloc (.cells (nodeC true k' v' 0 (.pointer none) (.pointer none) (leafH k' v')) 68) := ⟨_, rfl⟩
    have hb : Below w.heap.size w W := by rw [hW]; exact (Below.refl _ w).alloc (Nat.le_refl _) _
    have hn : NodeAt W w.heap.size true k' v' 0 (.pointer none) (.pointer none) (leafH k' v') := by rw [hW]; exact node_new w true k' v' 0 _ _ _
    obtain ⟨d0, d1, d2, d3, d4, d5, d6, d7⟩ := NodeAt.cells8 hn
    have e5 := cellB hb c5
    have e6 := cellB hb c6
    have HB := Lib.hid hb
    have HNN := Lib.hid hn
    have HW := Lib.hid hW
    have f5 := node_frozen (i := 5) hn
    have f6 := node_frozen (i := 6) hn
    have hne : b ≠ w.heap.size := by omega
    clear hr hb hn hW d0 d1 d2 d3 d4 d7 hlt
    unfold pp
    go_enter Tryd.func39, Tryd.ntmps39
    go_wp2_with fail
    rw [show w.alloc (Obj.cells #[Value.bool true, Value.bool false, Value.string k', Value.string v', Value.int IntKind.i64 0, Value.pointer none, Value.pointer none, Value.string (leafH k' v')] 68) = W from HW.out.symm]
    go_region_held3 (fun w' => w'.cell? ⟨b, 5, none⟩ = some (.pointer none) ∧ w'.cell? ⟨b, 6, none⟩ = some (.pointer none))
      (first | exact ⟨e5, e6⟩ | exact ⟨cellS hne e5, cellS hne e6⟩ | exact ⟨cellS hne (cellS hne e5), cellS hne (cellS hne e6)⟩)
      ((go_at_call 39; refine (HN.out _).mono ?_; rintro e w4 ⟨rfl, rfl⟩))
    go_wp2
    go_ret
    refine ⟨_, rfl, ⟨Nat.le_refl _, node_set _ _ HNN.out⟩, ((HB.out.setCell (p := ⟨w.heap.size, 5, none⟩) (Nat.le_refl _) _).setCell (p := ⟨w.heap.size, 6, none⟩) (Nat.le_refl _) _).drew⟩
  | fork p k' z o iz io =>
    intro b w hr
    obtain ⟨bz, bo, hn0, hrz, hro⟩ := hr
    obtain ⟨c0, c1, c2, c3, c4, c5, c6, c7⟩ := NodeAt.cells8 hn0
    have hlt := NodeAt.lt hn0
    have HRZ := Lib.hid hrz
    have HRO := Lib.hid hro
    obtain ⟨W, hW⟩ : ∃ W, W = w.alloc (.cells (nodeC false k' ⟨#[]⟩ p (pp bz) (pp bo) (forkH p k' z.hash o.hash)) 68) := ⟨_, rfl⟩
    have hb : Below w.heap.size w W := by rw [hW]; exact (Below.refl _ w).alloc (Nat.le_refl _) _
    have hn : NodeAt W w.heap.size false k' ⟨#[]⟩ p (pp bz) (pp bo) (forkH p k' z.hash o.hash) := by rw [hW]; exact node_new w false k' ⟨#[]⟩ p _ _ _
    have hWs : w.heap.size < W.heap.size := NodeAt.lt hn
    have e5 := cellB hb c5
    have e6 := cellB hb c6
    have HB := Lib.hid hb
    have HNN := Lib.hid hn
    have HW := Lib.hid hW
    have HIZ := Lib.hid (fun (V : World) (h1 : Below w.heap.size w V) => iz bz V (HRZ.out.later h1))
    have HIO := Lib.hid (fun (V : World) (h1 : Below w.heap.size w V) => io bo V (HRO.out.later h1))
    have hne : b ≠ w.heap.size := by omega
    have HBD : Hid (Below w.heap.size w W.drew) := Lib.hid (hb.trans (Below.refl _ W).drew)
    clear hrz hro hb hn hW hlt hn0 iz io
    unfold pp at *
    go_enter Tryd.func39, Tryd.ntmps39
    go_wp2_with fail
    rw [show w.alloc (Obj.cells #[Value.bool false, Value.bool false, Value.string k', Value.string ⟨#[]⟩, Value.int IntKind.i64 p, Value.pointer (some ⟨bz, 0, none⟩), Value.pointer (some ⟨bo, 0, none⟩), Value.string (forkH p k' z.hash o.hash)] 68) = W from HW.out.symm]
    go_region_held3 (fun w' => w'.cell? ⟨b, 5, none⟩ = some (.pointer (some ⟨bz, 0, none⟩)) ∧ w'.cell? ⟨b, 6, none⟩ = some (.pointer (some ⟨bo, 0, none⟩)))
      (first | exact ⟨e5, e6⟩ | exact ⟨cellS hne hcs5.1, cellS hne hcs5.2⟩ | exact ⟨cellS hne (cellS hne hcs5.1), cellS hne (cellS hne hcs5.2)⟩ | exact hcs5 | exact hcs4)
      (first
        | (go_at_call 39; (with_reducible refine (HIZ.out _ HBD.out).mono ?_); rintro e w4 ⟨d4, rfl, hd4, hb4⟩; unfold pp; have hcs4 := And.intro (cellD hb4 e5) (cellD hb4 e6); have HB4 := Lib.hid hb4; have HD4 := Lib.hid hd4; have HBw4 : Hid (Below w.heap.size w w4) := Lib.hid (HBD.out.trans (hb4.mono HBD.out.size)); have hn4 := Lib.hid (NodeAt.later HNN.out ((Below.refl _ W).drew.trans hb4)); have f5 := node_frozen (i := 5) hn4.out; have f6 := node_frozen (i := 6) hn4.out; obtain ⟨_, _, _, _, _, d5, d6, _⟩ := NodeAt.cells8 hn4.out)
        | (go_at_call 39; (with_reducible refine (HIO.out _ HBw4.out).mono ?_); rintro e w5 ⟨d5', rfl, hd5, hb5⟩; unfold pp; have hcs5 := And.intro (cellB hb5 hcs4.1) (cellB hb5 hcs4.2); have HB5 := Lib.hid hb5; have HD5 := Lib.hid hd5; have hn5 := Lib.hid (NodeAt.later hn4.out hb5); have g5 := node_frozen (i := 5) hn5.out; have g6 := node_frozen (i := 6) hn5.out; obtain ⟨_, _, _, _, _, q5, q6, _⟩ := NodeAt.cells8 hn5.out))
    go_wp2
    go_ret
    have hs4 := HB4.out.size
    have hs5 := HB5.out.size
    have hWd : W.drew.heap.size = W.heap.size := rfl
    have hkeep : ∀ i, W.heap.size ≤ i → ((w5.setCell ⟨w.heap.size, 5, none⟩ (.pointer (some ⟨d4, 0, none⟩))).setCell ⟨w.heap.size, 6, none⟩ (.pointer (some ⟨d5', 0, none⟩))).heap[i]? = w5.heap[i]? := fun i hi => by
      rw [setCell_other _ _ _ _ _ (by omega), setCell_other _ _ _ _ _ (by omega)]
    refine ⟨_, rfl, ⟨Nat.le_refl _, d4, d5', node_set _ _ hn5.out, ?_, ?_⟩, (((HBw4.out.trans (HB5.out.mono HBw4.out.size)).setCell (p := ⟨w.heap.size, 5, none⟩) (Nat.le_refl _) _).setCell (p := ⟨w.heap.size, 6, none⟩) (Nat.le_refl _) _)⟩
    · refine RepA.keep (by rw [hWd]; omega) (fun i h1 h2 => ?_) HD4.out
      rw [hkeep i h1, HB5.out.block i h2]
    · refine RepA.keep (by omega) (fun i h1 h2 => ?_) HD5.out
      exact hkeep i (by rw [hWd] at hs4; omega)
end Go.Proofs.YtohcackebmmikaaDoor
