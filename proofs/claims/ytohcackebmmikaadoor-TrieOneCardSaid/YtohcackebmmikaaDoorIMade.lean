/- Made: the map of acts, and the document's pairs. -/
import Derived.Test.YtohcackebmmikaaDoorIActs
namespace Go.Proofs.YtohcackebmmikaaDoor
open Go.RowKit

def actM (m : Option Tr) (x : Ac) : Option Tr := if x.1 = 1 then MT.del (keyB x.2.1) m else MT.put (keyB x.2.1) x.2.2 m
/-- The map of acts. -/
def madeT (L : List Ac) : Option Tr := L.foldl actM none
theorem act_ok {m : Option Tr} {x : Ac} (hm : MT.wf m) (hx : x.2.2.size ≤ 100) : MT.wf (actM m x) ∧ MT.pairs (actM m x) = (if x.1 = 1 then delL (keyB x.2.1) (MT.pairs m) else putL (keyB x.2.1) x.2.2 (MT.pairs m)) ∧ (MT.pairs (actM m x)).length ≤ (MT.pairs m).length + 1 := by
  unfold actM
  split
  · obtain ⟨h1, h2⟩ := MT.del_ok (keyB x.2.1) (keyB_size _) m hm
    refine ⟨h1, h2, ?_⟩
    rw [h2]
    have := List.length_filter_le (fun y => decide (y.1 ≠ keyB x.2.1)) (MT.pairs m)
    unfold delL; omega
  · obtain ⟨h1, h2⟩ := MT.put_ok (keyB x.2.1) x.2.2 (keyB_size _) hx m hm
    refine ⟨h1, h2, ?_⟩
    rw [h2, length_put _ _ _ (MT.sorted hm)]
    split <;> omega
theorem made_ok (L : List Ac) (h : smallL L) : MT.wf (madeT L) ∧ (MT.pairs (madeT L)).length ≤ L.length := by
  have key : ∀ (L : List Ac) (m : Option Tr), smallL L → MT.wf m → MT.wf (L.foldl actM m) ∧ (MT.pairs (L.foldl actM m)).length ≤ (MT.pairs m).length + L.length := by
    intro L
    induction L with
    | nil => intro m _ hm; exact ⟨hm, Nat.le_refl _⟩
    | cons x L ih =>
      intro m hs hm
      obtain ⟨a1, _, a3⟩ := act_ok hm (hs x (List.mem_cons_self ..)).2
      obtain ⟨b1, b2⟩ := ih (actM m x) (fun y hy => hs y (List.mem_cons_of_mem _ hy)) a1
      exact ⟨b1, by rw [List.foldl_cons, List.length_cons]; omega⟩
  have := key L none h trivial
  have h2 := this.2
  rw [show (MT.pairs none).length = 0 from rfl, Nat.zero_add] at h2
  exact ⟨this.1, h2⟩
theorem made_take (L : List Ac) (j : Nat) (hj : j < L.length) : madeT (L.take (j + 1)) = actM (madeT (L.take j)) L[j] := by
  unfold madeT
  rw [List.take_succ_eq_append_getElem hj, List.foldl_append]; rfl

/-- A map and its pairs are answered. -/
def MdRes (m : Option Tr) (w : World) (e : Ending) (w' : World) : Prop := ∃ x v, e = .returned (.tuple #[x, v]) ∧ MAt w' m x ∧ POwn w' w.heap.size v (MT.pairs m) ∧ Below w.heap.size w w'
def MdRel (L : List Ac) (w : World) (x v i : Value) (wr : World) : Prop :=
  ∃ (j : Nat), i = .int .i64 j ∧ j ≤ L.length ∧ Hid (MAt wr (madeT (L.take j)) x) ∧ Hid (POwn wr w.heap.size v (MT.pairs (madeT (L.take j)))) ∧ Below w.heap.size w wr

theorem three_cells {w : World} {b : Nat} {x y z : Value} {t : TypeId} (h : w.heap[b]? = some (.cells #[x, y, z] t (0, 0))) : w.cell? ⟨b, 0, none⟩ = some x ∧ w.cell? ⟨b, 1, none⟩ = some y ∧ w.cell? ⟨b, 2, none⟩ = some z := by
  simp [World.cell?, h]

set_option maxRecDepth 30000 in
set_option maxHeartbeats 4000000 in
theorem made_prog (L : List Ac) (la : Option Addr) (lc : Nat) (w : World) (hL : L.length ≤ 40) (hs : smallL L) (h : ActsL w la L) (hst : Start w) :
    Calls Tryd.prog 12 #[.slice la L.length lc] w (MdRes (madeT L) w) := by
  have HL := Lib.hid h
  have HS := Lib.hid hst
  have hl0 : (0 : Int) ≤ (L.length : Int) := by omega
  have hl1 : (L.length : Int) ≤ 40 := by omega
  clear h hst
  go_enter Tryd.func12, Tryd.ntmps12
  go_wp2_with fail
  refine (new_trie w).mono ?_
  rintro e w1 ⟨x1, rfl, h1, hb1⟩
  have H1 := Lib.hid h1
  have B1 := Lib.hid hb1
  clear h1 hb1
  go_wp2_with fail
  go_loopw [4, 5, 12] (MdRel L w) (fun _ _ i _ => 40 - (intOf i).toNat)
  case atStart => exact ⟨0, rfl, by omega, H1, Lib.hid (POwn.nil _ _), B1.out⟩
  case round =>
    obtain ⟨j, rfl, hj, hmat, hown, hb⟩ := hrel
    have hj0 : (0 : Int) ≤ (j : Int) := by omega
    have hj1 : (j : Int) ≤ 40 := by omega
    have hsz := hb.size
    have HB := Lib.hid hb
    by_cases hlt : j < L.length
    · have hltI : (j : Int) < (L.length : Int) := by omega
      obtain ⟨g, o, rfl, hg, hcs⟩ := HL.out (by intro e; rw [e] at hlt; simp at hlt)
      obtain ⟨x, hx⟩ : ∃ x, x = L[j] := ⟨_, rfl⟩
      obtain ⟨z1, z2, d0, d1, d2⟩ := hcs j x (by rw [hx]; exact List.getElem?_eq_getElem hlt)
      have c0 : wr.cell? ⟨g, o + j * 3, none⟩ = some (.int .i64 x.1) := by rw [hb.cell (p := ⟨g, o + j * 3, none⟩) hg]; exact d0
      have c1 : wr.cell? ⟨g, o + j * 3 + 1, none⟩ = some (.string x.2.1) := by rw [hb.cell (p := ⟨g, o + j * 3 + 1, none⟩) hg]; exact d1
      have c2 : wr.cell? ⟨g, o + j * 3 + 2, none⟩ = some (.string x.2.2) := by rw [hb.cell (p := ⟨g, o + j * 3 + 2, none⟩) hg]; exact d2
      have hxs := hs x (by rw [hx]; exact List.getElem_mem hlt)
      have hmk := made_ok (L.take j) (fun y hy => hs y (List.mem_of_mem_take hy))
      have htk := made_take L j hlt
      rw [← hx] at htk
      obtain ⟨M, hM⟩ : ∃ M, M = madeT (L.take j) := ⟨_, rfl⟩
      rw [← hM] at hmat hown hmk htk
      have hml : (MT.pairs M).length ≤ 40 := by have := hmk.2; rw [List.length_take] at this; omega
      obtain ⟨_, hpr, _⟩ := act_ok (x := x) hmk.1 hxs.2
      obtain ⟨x0, x1', x2⟩ := x
      simp only at c0 c1 c2 hxs
      have HK := Lib.hid (fun W => key_prog x1' W (by omega))
      obtain ⟨K, hK⟩ : ∃ K, K = keyB x1' := ⟨_, rfl⟩
      have hKs : K.size = 32 := by rw [hK]; exact keyB_size _
      rw [← hK] at HK
      obtain ⟨W0, hW0⟩ : ∃ W0, W0 = wr.alloc (.cells #[.int .i64 x0, .string x1', .string x2] 54) := ⟨_, rfl⟩
      obtain ⟨a0, a1, a2⟩ := three_cells (w := W0) (b := wr.heap.size) (by rw [hW0]; exact heap_at_alloc _ _)
      have hbW : Below wr.heap.size wr W0 := by rw [hW0]; exact (Below.refl _ wr).alloc (Nat.le_refl _) _
      have HW0 := Lib.hid hW0
      have HMA := Lib.hid (hmat.out.later hbW)
      have HOW := Lib.hid (POwn.later hown.out hbW)
      have HBW := Lib.hid (hb.trans (hbW.mono hsz))
      have HWF := Lib.hid hmk.1
      have HHTK := Lib.hid htk
      have HHPR := Lib.hid hpr
      have HHK := Lib.hid hK
      clear d0 d1 d2 hcs hb hx hmk hbW hW0 hM htk hpr hK hmat hown
      by_cases hw : x0 = 1
      · have hwI : (x0 == 1) = true := by rw [hw]; rfl
        have HD := Lib.hid (fun (xv : Value) (W : World) (h : MAt W M xv) (hb : Below w.heap.size w W) => del_prog K M xv W (by omega) HWF.out (by omega) h (HS.out.later hb))
        have HRD := Lib.hid (fun (v : Value) (W : World) (h : PSl W v (MT.pairs M)) => delete_ref K (MT.pairs M) v W (by omega) h)
        have HT2 : Hid (madeT (L.take (j + 1)) = MT.del K M) := Lib.hid (by rw [HHTK.out]; unfold actM; rw [if_pos hw, ← HHK.out])
        have HP2 : Hid (MT.pairs (MT.del K M) = delL K (MT.pairs M)) := Lib.hid (MT.del_ok K hKs M HWF.out).2
        clear hw
        go_wp2_with fail
        rw [show wr.alloc (.cells #[.int .i64 x0, .string x1', .string x2] 54) = W0 from HW0.out.symm]
        refine (HK.out W0).mono ?_
        rintro e w2 ⟨rfl, hb2⟩
        have e0 := cellB hb2 a0
        have HMA2 := Lib.hid (HMA.out.later hb2)
        have HOW2 := Lib.hid (POwn.later HOW.out hb2)
        have HB2 := Lib.hid (HBW.out.trans (hb2.mono HBW.out.size))
        clear hb2
        go_wp2_with fail
        refine (HD.out _ w2 HMA2.out HB2.out).mono ?_
        rintro e w3 ⟨x3, rfl, h3, hb3⟩
        have H3 := Lib.hid h3
        have HOW3 := Lib.hid (POwn.later HOW2.out hb3)
        have HB3 := Lib.hid (HB2.out.trans (hb3.mono HB2.out.size))
        clear h3 hb3
        go_wp2_with fail
        refine (HRD.out _ w3 (POwn.sl HOW3.out)).mono ?_
        rintro e w4 ⟨v4, rfl, h4, hb4⟩
        have H4 := Lib.hid (POwn.base h4 HB3.out.size)
        have H34 := Lib.hid (H3.out.later hb4)
        have HB4 := Lib.hid (HB3.out.trans (hb4.mono HB3.out.size))
        clear h4 hb4
        go_wp2_with fail
        go_roundw
        case rel => exact ⟨j + 1, by go_num, by omega, Lib.hid (by rw [HT2.out]; exact H34.out), Lib.hid (by rw [HT2.out, HP2.out]; exact H4.out), HB4.out⟩
        case measure => simp [intOf]; omega
      · have hwI : (x0 == 1) = false := by simpa using hw
        have HP := Lib.hid (fun (xv : Value) (W : World) (h : MAt W M xv) (hb : Below w.heap.size w W) => put_prog K x2 M xv W (by omega) hxs.2 HWF.out (by omega) h (HS.out.later hb))
        have HRP := Lib.hid (fun (v : Value) (W : World) (h : PSl W v (MT.pairs M)) => put_ref K x2 (MT.pairs M) v W hKs (by omega) h)
        have HT2 : Hid (madeT (L.take (j + 1)) = MT.put K x2 M) := Lib.hid (by rw [HHTK.out]; unfold actM; rw [if_neg hw, ← HHK.out])
        have HP2 : Hid (MT.pairs (MT.put K x2 M) = putL K x2 (MT.pairs M)) := Lib.hid (MT.put_ok K x2 hKs hxs.2 M HWF.out).2
        clear hw
        go_wp2_with fail
        rw [show wr.alloc (.cells #[.int .i64 x0, .string x1', .string x2] 54) = W0 from HW0.out.symm]
        refine (HK.out W0).mono ?_
        rintro e w2 ⟨rfl, hb2⟩
        have e0 := cellB hb2 a0
        have e2 := cellB hb2 a2
        have HMA2 := Lib.hid (HMA.out.later hb2)
        have HOW2 := Lib.hid (POwn.later HOW.out hb2)
        have HB2 := Lib.hid (HBW.out.trans (hb2.mono HBW.out.size))
        have HMAD : Hid (MAt w2.drew M _) := Lib.hid (HMA2.out.later (Below.refl _ w2).drew)
        have HBD : Hid (Below w.heap.size w w2.drew) := Lib.hid (HB2.out.trans ((Below.refl _ w2).drew.mono HB2.out.size))
        have HOWD : Hid (POwn w2.drew w.heap.size _ (MT.pairs M)) := Lib.hid (POwn.later HOW2.out (Below.refl _ w2).drew)
        clear hb2
        go_wp2_with fail
        go_region_held3 (fun w' => w'.cell? ⟨wr.heap.size, 2, none⟩ = some (.string x2))
          (first | exact e2 | exact e4 | exact e3)
          (first
            | (go_at_call 25; (with_reducible refine (HP.out _ _ HMAD.out HBD.out).mono ?_); rintro e w3 ⟨x3, rfl, h3, hb3⟩; have e3 := cellD hb3 e2; have H3 := Lib.hid h3; have HOW3 := Lib.hid (POwn.later HOWD.out hb3); have HB3 := Lib.hid (HBD.out.trans (hb3.mono HBD.out.size)); have HPS3 := Lib.hid (POwn.sl HOW3.out))
            | (go_at_call 32; (with_reducible refine (HRP.out _ _ HPS3.out).mono ?_); rintro e w4 ⟨v4, rfl, h4, hb4⟩; have e4 := cellB hb4 e3; have H4 := Lib.hid (POwn.base h4 HB3.out.size); have H34 := Lib.hid (H3.out.later hb4); have HB4 := Lib.hid (HB3.out.trans (hb4.mono HB3.out.size))))
        go_wp2_with fail
        go_roundw
        case rel => exact ⟨j + 1, by go_num, by omega, Lib.hid (by rw [HT2.out]; exact H34.out), Lib.hid (by rw [HT2.out, HP2.out]; exact H4.out), HB4.out⟩
        case measure => simp [intOf]; omega
    · have hltI : ¬ (j : Int) < (L.length : Int) := by omega
      have hall : L.take j = L := List.take_of_length_le (by omega)
      have HM2 := Lib.hid (show MAt wr (madeT L) _ by rw [← hall]; exact hmat.out)
      have HO2 := Lib.hid (show POwn wr w.heap.size _ (MT.pairs (madeT L)) by rw [← hall]; exact hown.out)
      clear hall hb hmat hown
      go_wp2
      go_ret2
      exact ⟨_, _, rfl, HM2.out, HO2.out, HB.out⟩
end Go.Proofs.YtohcackebmmikaaDoor
