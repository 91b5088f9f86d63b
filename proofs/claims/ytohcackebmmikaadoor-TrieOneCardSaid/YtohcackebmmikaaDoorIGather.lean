/- trie's gathered and copied. -/
import Derived.Test.YtohcackebmmikaaDoorIGrew
import Derived.StillTailTactics
namespace Go.Proofs.YtohcackebmmikaaDoor
open Go.RowKit

/-- Pairs are answered in a slice that is newer than w0. -/
def GRes (w0 : World) (l : List Pr) (e : Ending) (w' : World) : Prop := ∃ v, e = .returned v ∧ POwn w' w0.heap.size v l ∧ Below w0.heap.size w0 w'

set_option maxRecDepth 30000 in
set_option maxHeartbeats 2000000 in
theorem gathered_prog (w0 : World) (t : Tr) : ∀ (b : Nat) (w : World) (v : Value) (l : List Pr), Rep w0 t b → Below w0.heap.size w0 w → POwn w w0.heap.size v l → l.length + t.pairs.length ≤ 100000 →
    Calls Tryd.prog 33 #[v, pp b] w (GRes w0 (l ++ t.pairs)) := by
  induction t with
  | leaf k' v' =>
    intro b w v l hr hb hown hl
    obtain ⟨d0, d2, d3, _⟩ := NodeAt.cells (show NodeAt w0 b true k' v' 0 _ _ _ from hr)
    have c0 := cellB hb d0
    have c2 := cellB hb d2
    have c3 := cellB hb d3
    have hl1 : l.length + 1 ≤ 100000 := hl
    have HB := Lib.hid hb
    have HO := Lib.hid hown
    have hsz := hb.size
    clear hb hown hr d0 d2 d3 hl
    unfold pp
    go_enter Tryd.func33, Tryd.ntmps33
    go_wp2_with fail
    have hszA : w0.heap.size ≤ (w.alloc (.cells #[.string k', .string v'] 63)).drew.heap.size := by show w0.heap.size ≤ (w.alloc (.cells #[.string k', .string v'] 63)).heap.size; simp; omega
    go_region_law (refine step_app1 rfl _ _ (by rfl) w0.heap.size v l (by rfl) (show POwn (w.alloc (.cells #[.string k', .string v'] 63)).drew w0.heap.size v l from POwn.alloc HO.out _) w.heap.size 1 (k', v') (by rfl) (heap_at_alloc w _) hl1 (hszA) ?_; intro v2 w2 hown2 hgr2)
    all_goals (
      go_wp2
      go_ret
      exact ⟨_, rfl, hown2, ((HB.out.trans ((Below.refl _ w).alloc hsz _)).trans ((Below.refl _ _).drew)).trans (hgr2.below hszA (POwn.low HO.out))⟩)
  | fork p k' z o iz io =>
    intro b w v l hr hb hown hl
    obtain ⟨bz, bo, hn, hrz, hro⟩ := hr
    obtain ⟨d0, _, _, _, d5, d6, _⟩ := NodeAt.cells hn
    have c0 := cellB hb d0
    have c5 := cellB hb d5
    have c6 := cellB hb d6
    have hl1 : l.length + z.pairs.length ≤ 100000 := by simp only [Tr.pairs, List.length_append] at hl; omega
    have hl2 : (l ++ z.pairs).length + o.pairs.length ≤ 100000 := by simp only [Tr.pairs, List.length_append] at hl ⊢; omega
    have HB := Lib.hid hb
    have HO := Lib.hid hown
    have HBD : Hid (Below w0.heap.size w0 w.drew) := Lib.hid (hb.trans (Below.refl _ w).drew)
    have HOD : Hid (POwn w.drew w0.heap.size v l) := Lib.hid (POwn.drewN hown 1)
    have D5 := Lib.hid d5
    have D6 := Lib.hid d6
    have HZ := Lib.hid (fun (W : World) (u : Value) (h1 : Below w0.heap.size w0 W) (h2 : POwn W w0.heap.size u l) => iz bz W u l hrz h1 h2 hl1)
    have HOO := Lib.hid (fun (W : World) (u : Value) (h1 : Below w0.heap.size w0 W) (h2 : POwn W w0.heap.size u (l ++ z.pairs)) => io bo W u (l ++ z.pairs) hro h1 h2 hl2)
    clear hb hown hn hrz hro d0 d5 d6 hl hl1 hl2 iz io
    unfold pp at *
    go_enter Tryd.func33, Tryd.ntmps33
    go_wp2_with fail
    go_region_held3 (fun w' => w'.cell? ⟨b, 5, none⟩ = some (.pointer (some ⟨bz, 0, none⟩)) ∧ w'.cell? ⟨b, 6, none⟩ = some (.pointer (some ⟨bo, 0, none⟩)))
      (first | exact ⟨c5, c6⟩ | exact hcs5 | exact hcs4)
      (first
        | (go_at_call 33; (with_reducible refine (HZ.out _ v HBD.out HOD.out).mono ?_); rintro e w4 ⟨v4, rfl, hown4, hb4⟩; have hcs4 := And.intro (cellB hb4 D5.out) (cellB hb4 D6.out); have HB4 := Lib.hid hb4; have HO4 := Lib.hid hown4)
        | (go_at_call 33; (with_reducible refine (HOO.out _ v4 HB4.out HO4.out).mono ?_); rintro e w5 ⟨v5, rfl, hown5, hb5⟩; have hcs5 := And.intro (cellB hb5 D5.out) (cellB hb5 D6.out); have HB5 := Lib.hid hb5; have HO5 := Lib.hid hown5))
    go_wp2
    go_ret
    refine ⟨_, rfl, ?_, HB5.out⟩
    rw [Tr.pairs, ← List.append_assoc]; exact HO5.out
end Go.Proofs.YtohcackebmmikaaDoor
