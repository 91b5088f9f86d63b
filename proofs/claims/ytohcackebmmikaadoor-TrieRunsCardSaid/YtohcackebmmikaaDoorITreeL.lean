/- The law's tree: a tree is that of its pairs. -/
import Derived.Test.YtohcackebmmikaaDoorIRefR
namespace Go.Proofs.YtohcackebmmikaaDoor
open Go.RowKit

def BoolRes (w : World) (e : Ending) (w' : World) : Prop := e = .returned (.bool true) ∧ Below w.heap.size w w'

set_option maxRecDepth 30000 in
set_option maxHeartbeats 4000000 in
theorem tree_leaf (k v : ByteArray) (b : Nat) (lv : Value) (w : World) (hk : k.size = 32) (hv : v.size ≤ 100) (hr : Rep w (.leaf k v) b) (h : PSl w lv [(k, v)]) :
    Calls Tryd.prog 18 #[pp b, lv] w (BoolRes w) := by
  have HR := Lib.hid (fun (W : World) (h : PSl W lv [(k, v)]) => root_ref (some (.leaf k v)) lv W ⟨hk, hv⟩ (by show 1 ≤ 100; omega) h)
  have HP := Lib.hid h
  obtain ⟨aa, c, rfl, hc, hcells⟩ := h
  obtain ⟨g, o, rfl, hg, hcs⟩ := hcells (by simp)
  obtain ⟨c1, c2⟩ := hcs 0 (k, v) rfl
  rw [Nat.zero_mul, Nat.add_zero] at c1 c2
  simp only at c1 c2
  have hl : [(k, v)].length = 1 := rfl
  rw [hl] at HP HR
  rw [hl]
  obtain ⟨d0, _, d2, d3, _, d5, d6, d7⟩ := NodeAt.cells8 (show NodeAt w b true k v 0 _ _ _ from hr)
  rw [show MT.root (some (.leaf k v)) = leafH k v from rfl] at HR
  obtain ⟨X, hX⟩ : ∃ X, X = leafH k v := ⟨_, rfl⟩
  rw [← hX] at HR d7
  have HPD : Hid (PSl w.drew (.slice (some ⟨g, o, none⟩) 1 c) [(k, v)]) := Lib.hid (HP.out.later (Below.refl _ w).drew)
  clear hcells hcs hc hl hr hX hk
  unfold pp
  go_enter Tryd.func18, Tryd.ntmps18
  go_wp2_with fail
  go_region_held3 (fun w' => w'.cell? ⟨b, 0, none⟩ = some (.bool true) ∧ w'.cell? ⟨b, 2, none⟩ = some (.string k) ∧ w'.cell? ⟨b, 3, none⟩ = some (.string v) ∧ w'.cell? ⟨b, 5, none⟩ = some (.pointer none) ∧ w'.cell? ⟨b, 6, none⟩ = some (.pointer none) ∧ w'.cell? ⟨b, 7, none⟩ = some (.string X) ∧ w'.cell? ⟨g, o, none⟩ = some (.string k) ∧ w'.cell? ⟨g, o + 1, none⟩ = some (.string v))
    (first | exact ⟨d0, d2, d3, d5, d6, d7, c1, c2⟩ | exact e4)
    ((go_at_call 17; (with_reducible refine (HR.out _ HPD.out).mono ?_); rintro e w4 ⟨rfl, hb4⟩; have e4 := And.intro (cellD hb4 d0) (And.intro (cellD hb4 d2) (And.intro (cellD hb4 d3) (And.intro (cellD hb4 d5) (And.intro (cellD hb4 d6) (And.intro (cellD hb4 d7) (And.intro (cellD hb4 c1) (cellD hb4 c2))))))); have HB4 := Lib.hid ((Below.refl w.heap.size w).drew.trans hb4)))
  go_wp2
  go_ret
  exact ⟨rfl, HB4.out⟩

theorem treeD {w w4 : World} (hb : Below w.drew.heap.size w.drew w4) : Below w.heap.size w w4 := (Below.refl _ w).drew.trans hb
set_option maxRecDepth 30000 in
set_option maxHeartbeats 8000000 in
theorem tree_ref (t : Tr) : ∀ (b : Nat) (lv : Value) (w : World), t.wf → t.pairs.length ≤ 100 → Rep w t b → PSl w lv t.pairs → Calls Tryd.prog 18 #[pp b, lv] w (BoolRes w) := by
  induction t with
  | leaf k v => exact fun b lv w hw _ hr h => tree_leaf k v b lv w hw.1 hw.2 hr h
  | fork p k z o iz io =>
    intro b lv w hw hlen hr h
    obtain ⟨f1, f2, f3, f4, f5, f6⟩ := fork_place hw
    obtain ⟨va, ra, ea⟩ := (Tr.fork p k z o).head_pairs
    obtain ⟨vb, rb, eb⟩ := (Tr.fork p k z o).tail_pairs
    have hN2 := @Tr.pairs_two p k z o
    obtain ⟨m, hm⟩ : ∃ m, (Tr.fork p k z o).pairs.length = m + 1 := ⟨(Tr.fork p k z o).pairs.length - 1, by omega⟩
    have hPL := Lib.hid (fun (W : World) (h : PSl W lv (Tr.fork p k z o).pairs) => place_ref z.head o.tail _ lv p W hw.1 f5 f6 f1 (by rw [f2, f3]; simp) m hm (by omega) ⟨va, by rw [ea]; rfl⟩ ⟨vb, by
      have hr : rb.length = m := by rw [eb] at hm; simpa using hm
      rw [eb, List.getElem?_append_right (by omega), hr]; simp; rfl⟩ h)
    have hRT := Lib.hid (fun (W : World) (h : PSl W lv (Tr.fork p k z o).pairs) => root_ref (some (.fork p k z o)) lv W hw hlen h)
    rw [show MT.root (some (.fork p k z o)) = forkH p k z.hash o.hash from rfl] at hRT
    obtain ⟨X, hX⟩ : ∃ X, X = forkH p k z.hash o.hash := ⟨_, rfl⟩
    rw [← hX] at hRT
    have HW := Lib.hid hw
    have HP := Lib.hid h
    have hzl := List.length_pos_iff.2 z.pairs_ne
    have hol := List.length_pos_iff.2 o.pairs_ne
    have hlz : (Tr.fork p k z o).pairs.length = z.pairs.length + o.pairs.length := by rw [Tr.pairs, List.length_append]
    obtain ⟨nz, hnz⟩ : ∃ n, n = z.pairs.length := ⟨_, rfl⟩
    obtain ⟨no, hno⟩ : ∃ n, n = o.pairs.length := ⟨_, rfl⟩
    obtain ⟨N, hN⟩ : ∃ n, n = (Tr.fork p k z o).pairs.length := ⟨_, rfl⟩
    obtain ⟨aa, c, rfl, hc, hcells⟩ := h
    obtain ⟨g, o0, rfl, hg, hcs⟩ := hcells (by rw [ea]; simp)
    have HCS := Lib.hid hcs
    have hkey0 : w.cell? ⟨g, o0, none⟩ = some (.string z.head) := by
      have := (hcs 0 (z.head, va) (by rw [ea]; rfl)).1
      simpa using this
    rw [← hN] at hlz hlen hc hm hN2
    have hFI := Lib.hid (fun W => first_ref z.head p W f5 (by have := hw.1; omega))
    rw [← f4] at hFI
    rw [← hN]
    rw [← hN] at hPL HP hRT
    have HN := Lib.hid hN
    have HNZ := Lib.hid hnz
    have HNO := Lib.hid hno
    rw [← hnz, ← hno] at hlz
    rw [← hnz] at hzl
    rw [← hno] at hol
    have HLZ := Lib.hid hlz
    have HZN := Lib.hid (show nz < N by omega)
    have i1 : (2 : Int) ≤ (N : Int) := by omega
    have i2 : (N : Int) ≤ 100 := by omega
    have i3 : ((N : Int) == 0) = false := by simp only [beq_eq_false_iff_ne]; omega
    have i4 : ((N : Int) == 1) = false := by simp only [beq_eq_false_iff_ne]; omega
    have i5 : ¬ N = 0 := by omega
    have i6 : (0 : Int) < (N : Int) := by omega
    have i7 : 0 < N := by omega
    obtain ⟨bz, bo, hn, hrz, hro⟩ := hr
    obtain ⟨d0, _, d2, _, d4, d5, d6, d7⟩ := NodeAt.cells8 hn
    rw [← hX] at d7
    have HRZ := Lib.hid hrz
    have HRO := Lib.hid hro
    have HD := Lib.hid (And.intro d0 (And.intro d2 (And.intro d4 (And.intro d5 (And.intro d6 (And.intro d7 hkey0))))))
    have HIZ := Lib.hid (fun (lv : Value) (W : World) (hb : Below w.heap.size w W) (h : PSl W lv z.pairs) => iz bz lv W hw.2.2.2.2.2.2.2.1 (by omega) (HRZ.out.later hb) h)
    have HIO := Lib.hid (fun (lv : Value) (W : World) (hb : Below w.heap.size w W) (h : PSl W lv o.pairs) => io bo lv W hw.2.2.2.2.2.2.2.2 (by omega) (HRO.out.later hb) h)
    have hp0 : (0 : Int) ≤ (p : Int) := by omega
    have hp1 : (p : Int) ≤ 255 := by have := hw.1; omega
    have hz0 : (0 : Int) ≤ (nz : Int) := by omega
    have hz1 : (nz : Int) ≤ (N : Int) := by omega
    have hz2 : (nz : Int) ≤ (c : Int) := by omega
    have hz3 : ¬ (c : Int) = (nz : Int) := by omega
    have hz4 : (N : Int) ≤ (c : Int) := by omega
    have hz5 : ¬ c = nz := by omega
    clear hcells hcs hN hnz hno hlz hm hw f1 f2 f3 f4 f5 f6 ea eb iz io hN2 hlen hzl hol hn hrz hro hX d0 d2 d4 d5 d6 d7 hkey0
    unfold pp at *
    go_enter Tryd.func18, Tryd.ntmps18
    go_wp2_with fail
    refine (hPL.out w HP.out).mono ?_
    rintro e w1 ⟨rfl, hs1⟩
    have HS1 := Lib.hid hs1
    clear hs1
    go_wp2_with fail
    go_loopw [6] (KkRel nz w) (fun i _ => 200 - (intOf i).toNat)
    case atStart => exact ⟨0, rfl, by omega, HS1.out⟩
    case round =>
      obtain ⟨j, rfl, hj, hsm⟩ := hrel
      have hj0 : (0 : Int) ≤ (j : Int) := by omega
      have hjN : (j : Int) < (N : Int) := by have := HZN.out; omega
      by_cases hlt : j < nz
      · have hjz : j < z.pairs.length := by rw [← HNZ.out]; exact hlt
        obtain ⟨x, hx⟩ : ∃ x, x = z.pairs[j] := ⟨_, rfl⟩
        have hget : (Tr.fork p k z o).pairs[j]? = some x := by rw [Tr.pairs, List.getElem?_append_left hjz, List.getElem?_eq_getElem hjz, hx]
        have hb := side_z HW.out x (by rw [hx]; exact List.getElem_mem hjz)
        have hxs := (Tr.pairs_ok HW.out x (by rw [Tr.pairs]; exact List.mem_append_left _ (by rw [hx]; exact List.getElem_mem hjz))).1
        have c1 : wr.cell? ⟨g, o0 + j * 2, none⟩ = some (.string x.1) := by rw [(hsm.below w.heap.size).cell (p := ⟨g, o0 + j * 2, none⟩) hg]; exact (HCS.out j x hget).1
        have HB := Lib.hid (fun W => bit_ref x.1 p W HW.out.1 hxs)
        rw [hb] at HB
        have HSM := Lib.hid hsm
        have hz : (bitN false == 0) = true := rfl
        clear hx hget hb hxs hsm hjz
        go_wp2_with fail
        refine (HB.out _).mono ?_
        rintro e w2 ⟨rfl, rfl⟩
        go_wp2_with fail
        go_roundw
        case rel => exact ⟨j + 1, by go_num, by omega, HSM.out⟩
        case measure => simp [intOf]; omega
      · have hjz : j = nz := by omega
        have hno : 0 < o.pairs.length := List.length_pos_iff.2 o.pairs_ne
        obtain ⟨x, hx⟩ : ∃ x, x = o.pairs[0] := ⟨_, rfl⟩
        have hget : (Tr.fork p k z o).pairs[j]? = some x := by
          rw [Tr.pairs, List.getElem?_append_right (by rw [← HNZ.out]; omega), show j - z.pairs.length = 0 by rw [← HNZ.out]; omega, List.getElem?_eq_getElem hno, hx]
        have hb := side_o HW.out x (by rw [hx]; exact List.getElem_mem hno)
        have hxs := (Tr.pairs_ok HW.out x (by rw [Tr.pairs]; exact List.mem_append_right _ (by rw [hx]; exact List.getElem_mem hno))).1
        have c1 : wr.cell? ⟨g, o0 + j * 2, none⟩ = some (.string x.1) := by rw [(hsm.below w.heap.size).cell (p := ⟨g, o0 + j * 2, none⟩) hg]; exact (HCS.out j x hget).1
        have HB := Lib.hid (fun W => bit_ref x.1 p W HW.out.1 hxs)
        rw [hb] at HB
        have HSM := Lib.hid hsm
        have hz : (bitN true == 0) = false := rfl
        clear hx hget hb hxs hno
        subst hjz
        go_wp2_with fail
        refine (HB.out _).mono ?_
        rintro e w2 ⟨rfl, rfl⟩
        have HBSM := Lib.hid (HSM.out.below w.heap.size)
        obtain ⟨e0, e2, e4, e5, e6, e7, ek⟩ : wr.cell? ⟨b, 0, none⟩ = some (.bool false) ∧ wr.cell? ⟨b, 2, none⟩ = some (.string k) ∧ wr.cell? ⟨b, 4, none⟩ = some (.int .i64 (p : Int)) ∧ wr.cell? ⟨b, 5, none⟩ = some (.pointer (some ⟨bz, 0, none⟩)) ∧ wr.cell? ⟨b, 6, none⟩ = some (.pointer (some ⟨bo, 0, none⟩)) ∧ wr.cell? ⟨b, 7, none⟩ = some (.string X) ∧ wr.cell? ⟨g, o0, none⟩ = some (.string z.head) := by
          obtain ⟨d0, d2, d4, d5, d6, d7, dk⟩ := HD.out
          exact ⟨cellB HBSM.out d0, cellB HBSM.out d2, cellB HBSM.out d4, cellB HBSM.out d5, cellB HBSM.out d6, cellB HBSM.out d7, cellB HBSM.out dk⟩
        have HPw := Lib.hid (HP.out.later HBSM.out)
        have HAw := Lib.hid (show PSl wr (.slice (some ⟨g, o0, none⟩) j c) z.pairs by have := PSl.take (l := z.pairs) (r := o.pairs) HPw.out; rw [← HNZ.out] at this; exact this)
        have HBw := Lib.hid (show PSl wr (.slice (some ⟨g, o0 + j * 2, none⟩) (N - j) (c - j)) o.pairs by
          have := PSl.rest (l := z.pairs) (r := o.pairs) HPw.out
          rw [← HNZ.out, ← HNO.out] at this
          rw [show N - j = no by have := HLZ.out; omega]; exact this)
        have hjc : (j : Int) ≤ (c : Int) := by omega
        clear c1 hsm
        go_wp2_with fail
        go_region_held3 (fun w' => w'.cell? ⟨b, 0, none⟩ = some (.bool false) ∧ w'.cell? ⟨b, 2, none⟩ = some (.string k) ∧ w'.cell? ⟨b, 4, none⟩ = some (.int .i64 (p : Int)) ∧ w'.cell? ⟨b, 5, none⟩ = some (.pointer (some ⟨bz, 0, none⟩)) ∧ w'.cell? ⟨b, 6, none⟩ = some (.pointer (some ⟨bo, 0, none⟩)) ∧ w'.cell? ⟨b, 7, none⟩ = some (.string X) ∧ w'.cell? ⟨g, o0, none⟩ = some (.string z.head))
          (first | exact ⟨e0, e2, e4, e5, e6, e7, ek⟩ | exact n7 | exact n6 | exact n5 | exact n4)
          (first
            | (go_at_call 38; (with_reducible refine (hFI.out _).mono ?_); rintro e w4 ⟨rfl, hb4⟩; have n4 := And.intro (cellD hb4 e0) (And.intro (cellD hb4 e2) (And.intro (cellD hb4 e4) (And.intro (cellD hb4 e5) (And.intro (cellD hb4 e6) (And.intro (cellD hb4 e7) (cellD hb4 ek)))))); have BB4 := Lib.hid (treeD hb4))
            | (go_at_call 17; (with_reducible refine (hRT.out _ (HPw.out.later BB4.out)).mono ?_); rintro e w5 ⟨rfl, hb5⟩; have n5 := And.intro (cellB hb5 n4.1) (And.intro (cellB hb5 n4.2.1) (And.intro (cellB hb5 n4.2.2.1) (And.intro (cellB hb5 n4.2.2.2.1) (And.intro (cellB hb5 n4.2.2.2.2.1) (And.intro (cellB hb5 n4.2.2.2.2.2.1) (cellB hb5 n4.2.2.2.2.2.2)))))); have BB5 := Lib.hid (BB4.out.trans (hb5.mono BB4.out.size)); have BW5 := Lib.hid (HBSM.out.trans (BB5.out.mono HBSM.out.size)))
            | (go_at_call 18; (with_reducible refine (HIZ.out _ _ BW5.out (HAw.out.later BB5.out)).mono ?_); rintro e w6 ⟨rfl, hb6⟩; have n6 := And.intro (cellB hb6 n5.1) (And.intro (cellB hb6 n5.2.1) (And.intro (cellB hb6 n5.2.2.1) (And.intro (cellB hb6 n5.2.2.2.1) (And.intro (cellB hb6 n5.2.2.2.2.1) (And.intro (cellB hb6 n5.2.2.2.2.2.1) (cellB hb6 n5.2.2.2.2.2.2)))))); have BB6 := Lib.hid (BB5.out.trans (hb6.mono BB5.out.size)); have BW6 := Lib.hid (HBSM.out.trans (BB6.out.mono HBSM.out.size)))
            | (go_at_call 18; (with_reducible refine (HIO.out _ _ BW6.out (HBw.out.later BB6.out)).mono ?_); rintro e w7 ⟨rfl, hb7⟩; have n7 := And.intro (cellB hb7 n6.1) (And.intro (cellB hb7 n6.2.1) (And.intro (cellB hb7 n6.2.2.1) (And.intro (cellB hb7 n6.2.2.2.1) (And.intro (cellB hb7 n6.2.2.2.2.1) (And.intro (cellB hb7 n6.2.2.2.2.2.1) (cellB hb7 n6.2.2.2.2.2.2)))))); have BW7 := Lib.hid (BW6.out.trans (hb7.mono BW6.out.size))))
        go_wp2
        go_ret
        exact ⟨rfl, BW7.out⟩
end Go.Proofs.YtohcackebmmikaaDoor
