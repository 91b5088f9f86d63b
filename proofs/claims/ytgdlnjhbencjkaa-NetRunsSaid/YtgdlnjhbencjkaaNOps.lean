/- net: Drop, Twice, At. -/
import Derived.Test.YtgdlnjhbencjkaaNDel
namespace Go.Proofs.Ytgdlnjhbencjkaa
open Go.RowKit

theorem WSl.mid {w : World} {v : Value} {q : List (Nat × Nat)} (h : WSl w v q) (h0 : 0 < q.length) : ∃ g o cap, v = .slice (some ⟨g, o * 2, none⟩) q.length cap ∧ Mid w g o q.length cap q := by
  rcases h with ⟨_, rfl⟩ | ⟨g, o, cap, cur, hv, hg, h1, h2, h3, h4⟩
  · simp at h0
  · exact ⟨g, o, cap, hv, cur, hg, h1, h2, h3, rfl, h4⟩
theorem Only.ofN {g k : Nat} {w w' : World} (h : Only g (w.drewN k) w') : Only g w w' := (Only.ofSame (Same.of w k)).trans h

theorem WSl.uniq {w : World} {v : Value} {q q' : List (Nat × Nat)} (h : WSl w v q) (k : WSl w v q') : q = q' := by
  have hl : q.length = q'.length := by
    obtain ⟨a, c, h1⟩ := h.shape
    obtain ⟨a', c', h2⟩ := k.shape
    rw [h1] at h2
    injection h2
  refine List.ext_getElem? fun i => ?_
  by_cases hi : i < q.length
  · obtain ⟨x, hx⟩ : ∃ x, q[i]? = some x := ⟨_, List.getElem?_eq_getElem hi⟩
    obtain ⟨y, hy⟩ : ∃ y, q'[i]? = some y := ⟨_, List.getElem?_eq_getElem (by omega)⟩
    obtain ⟨g, o, cap, e1, e2, e3⟩ := h.cells i x hx
    obtain ⟨g', o', cap', f1, f2, f3⟩ := k.cells i y hy
    rw [e1] at f1
    injection f1 with f4 f5 f6
    have f4 := Option.some.inj f4
    injection f4 with f7 f8
    rw [← f7, ← f8, e2] at f2
    rw [← f7, ← f8, e3] at f3
    have a1 := Option.some.inj f2
    injection a1 with _ a1
    have a2 := Option.some.inj f3
    injection a2 with a2
    have a2 := Option.some.inj a2
    injection a2 with a2
    rw [hx, hy]
    congr 1
    exact Prod.ext (by omega) a2
  · rw [List.getElem?_eq_none (by omega), List.getElem?_eq_none (by omega)]
/-- All messages of the row lie below B. -/
def NB (w : World) (v : Value) (B : Nat) : Prop := ∀ q, WSl w v q → ∀ x ∈ q, x.2 < B
theorem NW.nb {w : World} {nb : Nat} {v : Value} {all : Nat} {l : List (Nat × Mg)} (h : NW w nb v all l) : NB w v w.heap.size := fun q hq x hx => by
  obtain ⟨q', h1, h2, h3⟩ := h.way
  rw [← h1.uniq hq] at hx
  obtain ⟨i, hi⟩ := List.mem_iff_getElem?.1 hx
  obtain ⟨m, _, _, h4, _⟩ := h3 i x hi
  exact block_lt h4
theorem NB.later {w w' : World} {v : Value} {B : Nat} {q : List (Nat × Nat)} (h : NB w v B) (hq : WSl w v q) (hb : ∀ k, v.ownBlock = some k → w'.heap[k]? = w.heap[k]?) : NB w' v B := fun q' hq' x hx => by
  rw [← (hq.mv hb).uniq hq'] at hx
  exact h q hq x hx
theorem drop_end {w w2 : World} {nb g i : Nat} {v v' : Value} {all : Nat} {l : List (Nat × Mg)} {q : List (Nat × Nat)} (h : NW w nb v all l) (hq : WSl w v q) (hv : v.ownBlock = some g) (hql : q.length = l.length)
    (hqm : ∀ (i : Nat) (x : Nat × Nat), q[i]? = some x → ∃ m, l[i]? = some (x.1, m) ∧ MAt w x.2 m) (hv2 : WSl w2 v' (q.eraseIdx i)) (hv' : v'.ownBlock = some g) (ho : Only g w w2) :
    NW (w2.setCell ⟨nb, 0, none⟩ v') nb v' all (l.eraseIdx i) ∧ NCh nb v w (w2.setCell ⟨nb, 0, none⟩ v') v' ∧ ∀ B, NB w v B → NB (w2.setCell ⟨nb, 0, none⟩ v') v' B := by
  have hfar := h.far
  have hlt := h.lt
  have hgn : nb ≠ g := fun e => hfar (by rw [hv, e])
  have hc : NCh nb v w (w2.setCell ⟨nb, 0, none⟩ v') v' := by
    refine ⟨ho.os, ho.tape, ho.output, by have := ho.size; simp; omega, fun j hj h1 h2 => ?_, fun j hj => .inl (by rw [hv, ← hv', hj])⟩
    rw [heap_setCell_other w2 ⟨nb, 0, none⟩ j _ h1, ho.block j hj (fun e => h2 (by rw [hv, e]))]
  have hv3 : WSl (w2.setCell ⟨nb, 0, none⟩ v') v' (q.eraseIdx i) := hv2.mv fun k hk => heap_setCell_other w2 ⟨nb, 0, none⟩ k _ (fun e => by rw [hv'] at hk; injection hk with hk; exact hgn (by rw [hk]; exact e.symm))
  refine ⟨⟨?_, q.eraseIdx i, hv3, by rw [List.length_eraseIdx, List.length_eraseIdx, hql], fun j x hx => ?_⟩, hc, fun B hB q' hq' x hx => by rw [← hv3.uniq hq'] at hx; exact hB q hq x (List.mem_of_mem_eraseIdx hx)⟩
  · have e := (ho.block nb hlt hgn).trans h.net
    have := heap_setCell_same w2 nb 0 _ _ v' e
    simpa using this
  · rw [List.getElem?_eraseIdx] at hx ⊢
    split at hx
    · rename_i hj
      rw [if_pos hj]
      obtain ⟨m', e1, e2⟩ := hqm j x hx
      exact ⟨m', e1, e2.ch hc h⟩
    · rename_i hj
      rw [if_neg hj]
      obtain ⟨m', e1, e2⟩ := hqm _ x hx
      exact ⟨m', e1, e2.ch hc h⟩

section
variable {w : World} {nb : Nat} {v : Value} {all : Nat} {l : List (Nat × Mg)}
set_option maxHeartbeats 2000000 in
set_option maxRecDepth 100000 in
theorem drop_yes (h : NW w nb v all l) (i : Nat) (hi : i < l.length) (hl : l.length < 1000000) :
    Calls Try.prog 17 #[.pointer (some ⟨nb, 0, none⟩), .int .i64 (i : Int)] w fun e w' => e = .returned (.bool true) ∧ ∃ v', NW w' nb v' all (l.eraseIdx i) ∧ NCh nb v w w' v' ∧ ∀ B, NB w v B → NB w' v' B := by
  have K := Lib.hid (there_prog h (i : Int))
  have e1 : (decide ((0 : Int) ≤ (i : Int)) && decide ((i : Int) < (l.length : Int))) = true := by simp; omega
  rw [e1] at K
  obtain ⟨q, hq, hql, hqm⟩ := h.way
  obtain ⟨g, o, cap, hv, hmid⟩ := hq.mid (by omega)
  have HD := Lib.hid (without_prog hmid (i := i) (by omega) (by omega))
  have HE := Lib.hid (fun (w2 : World) (v' : Value) (a1 : WSl w2 v' (q.eraseIdx i)) (a2 : v'.ownBlock = some g) (a3 : Only g w w2) => drop_end h (g := g) hq (by rw [hv]; rfl) hql hqm a1 a2 a3)
  have hgn : nb ≠ g := fun e => h.far (by rw [hv, e]; rfl)
  have hlt := h.lt
  have HN := Lib.hid h.net
  obtain ⟨c0, c1, f0, f1⟩ := h.cells
  obtain ⟨n, hn⟩ : ∃ n, q.length = n := ⟨_, rfl⟩
  rw [hn] at hv HD
  subst hv
  clear h hq hql hqm hmid hi hl hn
  go_enter Try.func17, Try.ntmps17
  go_wp2_with fail
  refine K.out.mono ?_
  rintro e w1 ⟨rfl, rfl⟩
  go_wp2_with fail
  refine HD.out.mono ?_
  rintro e w2 ⟨v', rfl, hv2, hb, k, ho⟩
  have hz := Only.ofN ho
  have hb2 := hz.block nb hlt hgn
  have T0 := (World.cell?_of_block (w := w) (a := ⟨nb, 0, none⟩) hb2).trans c0
  have TF := (World.frozen?_of_block (w := w) (a := ⟨nb, 0, none⟩) hb2).trans f0
  have hend := HE.out w2 v' hv2 hb hz
  obtain ⟨a2, c2, rfl⟩ := hv2.shape
  have HEND := Lib.hid hend
  clear hend hv2 hb ho hz hb2 HD HE K c0 c1 f0 f1
  go_wp2_with fail
  go_ret
  exact ⟨rfl, _, HEND.out⟩
set_option maxHeartbeats 2000000 in
set_option maxRecDepth 100000 in
theorem drop_no (h : NW w nb v all l) (i : Int) (hi : ¬ (0 ≤ i ∧ i < (l.length : Int))) :
    Calls Try.prog 17 #[.pointer (some ⟨nb, 0, none⟩), .int .i64 i] w fun e w' => e = .returned (.bool false) ∧ w = w' := by
  have K := Lib.hid (there_prog h i)
  have e1 : (decide (0 ≤ i) && decide (i < (l.length : Int))) = false := by simp; omega
  rw [e1] at K
  clear h hi e1
  go_enter Try.func17, Try.ntmps17
  go_wp2_with fail
  refine K.out.mono ?_
  rintro e w1 ⟨rfl, rfl⟩
  go_wp2_with fail
  go_ret
  exact ⟨rfl, rfl⟩
set_option maxHeartbeats 2000000 in
set_option maxRecDepth 100000 in
theorem twice_no (h : NW w nb v all l) (i : Int) (hi : ¬ (0 ≤ i ∧ i < (l.length : Int))) :
    Calls Try.prog 16 #[.pointer (some ⟨nb, 0, none⟩), .int .i64 i] w fun e w' => e = .returned (.bool false) ∧ w = w' := by
  have K := Lib.hid (there_prog h i)
  have e1 : (decide (0 ≤ i) && decide (i < (l.length : Int))) = false := by simp; omega
  rw [e1] at K
  clear h hi e1
  go_enter Try.func16, Try.ntmps16
  go_wp2_with fail
  refine K.out.mono ?_
  rintro e w1 ⟨rfl, rfl⟩
  go_wp2_with fail
  go_ret
  exact ⟨rfl, rfl⟩
set_option maxHeartbeats 2000000 in
set_option maxRecDepth 100000 in
theorem twice_yes (h : NW w nb v all l) (i : Nat) (k : Nat) (m : Mg) (hi : l[i]? = some (k, m)) (hall : all < 1000000) (hl : l.length < 1000000) :
    Calls Try.prog 16 #[.pointer (some ⟨nb, 0, none⟩), .int .i64 (i : Int)] w fun e w' => e = .returned (.bool true) ∧ ∃ v', NW w' nb v' (all + 1) (l ++ [(all + 1, m)]) ∧ NCh nb v w w' v' := by
  have hil := (List.getElem?_eq_some_iff.1 hi).1
  have K := Lib.hid (there_prog h (i : Int))
  have e1 : (decide ((0 : Int) ≤ (i : Int)) && decide ((i : Int) < (l.length : Int))) = true := by simp; omega
  rw [e1] at K
  obtain ⟨q, hq, hql, hqm⟩ := h.way
  have hqi : ∃ x, q[i]? = some x := ⟨_, List.getElem?_eq_getElem (by omega)⟩
  obtain ⟨x, hx⟩ := hqi
  obtain ⟨m', e2, hm⟩ := hqm i x hx
  rw [hi] at e2
  injection e2 with e2
  injection e2 with _ e2
  subst e2
  obtain ⟨g, o, cap, hv, z0, z1⟩ := hq.cells i x hx
  have HA := Lib.hid (add_prog h x.2 m hm hall hl)
  obtain ⟨c0, c1, f0, f1⟩ := h.cells
  obtain ⟨n, hn⟩ : ∃ n, q.length = n := ⟨_, rfl⟩
  have hiI : (i : Int) < (n : Int) := by omega
  rw [hn] at hv
  subst hv
  clear h hq hql hqm hi hl hn hall hil hm hx
  go_enter Try.func16, Try.ntmps16
  go_wp2_with fail
  refine K.out.mono ?_
  rintro e w1 ⟨rfl, rfl⟩
  go_wp2_with fail
  refine HA.out.mono ?_
  rintro e w2 ⟨rfl, hend⟩
  have HEND := Lib.hid hend
  clear hend HA K c0 c1 f0 f1 z0 z1
  go_wp2_with fail
  go_ret
  exact ⟨rfl, HEND.out⟩
end
end Go.Proofs.Ytgdlnjhbencjkaa
