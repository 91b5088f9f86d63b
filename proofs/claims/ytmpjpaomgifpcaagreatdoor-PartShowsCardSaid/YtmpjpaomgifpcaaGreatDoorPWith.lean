/- part's with and without. -/
import Derived.Test.YtmpjpaomgifpcaaGreatDoorPGath
namespace Go.Proofs.YtmpjpaomgifpcaaGreatDoor
open Go.RowKit

theorem withP_size (k v : ByteArray) : ∀ t : PT, t.ok → (withP k v t).hash.size = 32
  | .stub _, h => h
  | .leaf k' v', _ => by
    unfold withP joinP
    split
    · split
      · exact sumB_size _
      · exact sumB_size _
    · exact sumB_size _
  | .fork p k' z o, _ => by
    unfold withP joinP
    split
    · split
      · exact sumB_size _
      · exact sumB_size _
    · split
      · exact sumB_size _
      · exact sumB_size _
theorem withoutP_size (l : List UInt8) : ∀ (t u : PT), t.ok → withoutP l t = some u → u.hash.size = 32
  | .stub _, _, _, h => by cases h
  | .leaf _ _, _, _, h => by cases h
  | .fork p k z o, u, hk, h => by
    rw [withoutP] at h
    split at h
    · split at h
      · obtain rfl : z = u := by simpa using h
        exact PT.hash_size _ hk.2.2.1
      · obtain rfl : _ = u := by simpa using h
        exact sumB_size _
    · split at h
      · obtain rfl : o = u := by simpa using h
        exact PT.hash_size _ hk.2.2.2
      · obtain rfl : _ = u := by simpa using h
        exact sumB_size _

set_option maxRecDepth 30000 in
set_option maxHeartbeats 1000000 in
theorem pwith_leaf (k v k' v' : ByteArray) (hk : k.size = 32) (b c : Nat) (w : World) (ht : k'.size = 32) (hb : PRep w (.leaf k' v') b) (hc : PRep w (.leaf k v) c) (hst : Start w) :
    Calls Tryz.prog 61 #[pp b, pp c] w (PtRes w (withP k v (.leaf k' v'))) := by
  obtain ⟨C, hC⟩ : ∃ C, C = comL (ks k') (ks k) := ⟨_, rfl⟩
  have hcom := Lib.hid (fun W => com_prog k' k W ht hk)
  have hCle : C ≤ 256 := by have := (comL_le (ks k') (ks k)).1; rw [← hC, ks_length, ht] at this; omega
  unfold withP
  rw [← hC] at hcom ⊢
  clear hC
  have HB := Lib.hid hb
  have HC := Lib.hid hc
  obtain ⟨c0, c2, _, c4, _⟩ := NodeAt.cells (show NodeAt w b true k' v' 0 _ _ _ from hb)
  obtain ⟨d2, _⟩ := PRep.cells hc
  have hsp := Lib.hid (fun W (h : Below w.heap.size w W) => span_at b true 0 256 W (cellB h c0) (cellB h c4) rfl)
  have HS := Lib.hid hst
  have HJ := Lib.hid (fun (p : Nat) (hp : p < 256) (W : World) (h1 : Below w.heap.size w W) => joined_part p (.leaf k' v') (.leaf k v) b c W hp ht hk (by show (sumB _).size ≤ 1000; rw [sumB_size]; omega) (by show (sumB _).size ≤ 1000; rw [sumB_size]; omega) (HB.out.later h1) (HC.out.later h1) (HS.out.later h1))
  clear hst hb hc
  have hk2 : (PT.leaf k v).key = k := rfl
  rw [hk2] at d2
  clear hk2
  unfold pp at *
  by_cases hlt : C < 256
  · rw [if_pos hlt]
    have hltI : (C : Int) < (256 : Int) := by omega
    go_enter Tryz.func61, Tryz.ntmps61
    go_wp2_with fail
    go_quiet ((go_at_call 82; exact quietS (hcom.out _)))
    go_wp2_with fail
    refine (hsp.out _ (drewN_below w _)).mono ?_
    rintro e w2 ⟨rfl, rfl⟩
    go_wp2_with fail
    refine (HJ.out C hlt _ (drewN_below w _)).mono ?_
    rintro e w3 ⟨d, rfl, hd, hb3⟩
    go_wp2
    go_ret
    exact ⟨d, rfl, hd, (drewN_below w _).trans hb3⟩
  · rw [if_neg hlt]
    have hltI : ¬ (C : Int) < (256 : Int) := by omega
    go_enter Tryz.func61, Tryz.ntmps61
    go_wp2_with fail
    go_quiet ((go_at_call 82; exact quietS (hcom.out _)))
    go_wp2_with fail
    refine (hsp.out _ (drewN_below w _)).mono ?_
    rintro e w2 ⟨rfl, rfl⟩
    go_wp2
    go_ret
    exact ⟨c, rfl, HC.out.later (drewN_below w _), drewN_below w _⟩

set_option maxRecDepth 30000 in
set_option maxHeartbeats 2000000 in
theorem pwith_prog (k v : ByteArray) (hk : k.size = 32) (t : PT) : ∀ (b c : Nat) (w : World), t.ok → undP (ks k) 256 t ≠ none → PRep w t b → PRep w (.leaf k v) c → Start w →
    Calls Tryz.prog 61 #[pp b, pp c] w (PtRes w (withP k v t)) := by
  induction t with
  | stub h => exact fun b c w _ h => absurd rfl h
  | leaf k' v' => exact fun b c w ht _ => pwith_leaf k v k' v' hk b c w ht.1
  | fork p k' z o iz io =>
    intro b c w ht hkn hb hc hst
    have KN0 : ¬ comL (ks k') (ks k) < p → (bitL (ks k) p = true → undP (ks k) 256 o ≠ none) ∧ (bitL (ks k) p = false → undP (ks k) 256 z ≠ none) := fun hc => known_side ht.1 hkn (by rw [comL_sym]; exact hc)
    obtain ⟨C, hC⟩ : ∃ C, C = comL (ks k') (ks k) := ⟨_, rfl⟩
    have hcom := Lib.hid (fun W => com_prog k' k W ht.2.1 hk)
    have hCle : C ≤ 256 := by have := (comL_le (ks k') (ks k)).1; rw [← hC, ks_length, ht.2.1] at this; omega
    unfold withP
    rw [← hC] at hcom KN0 ⊢
    have KN := Lib.hid KN0
    clear hC KN0
    have HB := Lib.hid hb
    have HC := Lib.hid hc
    obtain ⟨bz, bo, hn, hrz, hro⟩ := hb
    obtain ⟨c0, c2, _, c4, c5, c6, _⟩ := NodeAt.cells hn
    obtain ⟨d2, _⟩ := PRep.cells hc
    have hsp := Lib.hid (fun W (h : Below w.heap.size w W) => span_at b false p p W (cellB h c0) (cellB h c4) rfl)
    have HS := Lib.hid hst
    have HRZ := Lib.hid hrz
    have HRO := Lib.hid hro
    have HJ := Lib.hid (fun (q : Nat) (hq : q < 256) (W : World) (h1 : Below w.heap.size w W) => joined_part q (.fork p k' z o) (.leaf k v) b c W hq ht.2.1 hk (by show (sumB _).size ≤ 1000; rw [sumB_size]; omega) (by show (sumB _).size ≤ 1000; rw [sumB_size]; omega) (HB.out.later h1) (HC.out.later h1) (HS.out.later h1))
    have HIZ := Lib.hid (fun (hu : undP (ks k) 256 z ≠ none) (W : World) (h1 : Below w.heap.size w W) => iz bz c W ht.2.2.1 hu (HRZ.out.later h1) (HC.out.later h1) (HS.out.later h1))
    have HIO := Lib.hid (fun (hu : undP (ks k) 256 o ≠ none) (W : World) (h1 : Below w.heap.size w W) => io bo c W ht.2.2.2 hu (HRO.out.later h1) (HC.out.later h1) (HS.out.later h1))
    have HF := Lib.hid (fun (z' o' : PT) (x y : Nat) (W : World) (hz1 : z'.hash.size = 32) (ho1 : o'.hash.size = 32) (h1 : Below w.heap.size w W) (h2 : PRep W z' x) (h3 : PRep W o' y) => fork_part p k' z' o' x y W ht.1 ht.2.1 (by omega) (by omega) h2 h3 (HS.out.later h1))
    have SZ := Lib.hid (PT.hash_size z ht.2.2.1)
    have SO := Lib.hid (PT.hash_size o ht.2.2.2)
    have SZ2 := Lib.hid (withP_size k v z ht.2.2.1)
    have SO2 := Lib.hid (withP_size k v o ht.2.2.2)
    have hp : p < 256 := ht.1
    have hbit := Lib.hid (fun W => bit_prog k p W ht.1 (by omega))
    obtain ⟨r, hr⟩ : ∃ r, r = bitL (ks k) p := ⟨_, rfl⟩
    rw [← hr] at hbit ⊢
    have hr1 := bitN_zero r
    have hk2 : (PT.leaf k v).key = k := rfl
    rw [hk2] at d2
    have HHR := Lib.hid hr
    clear hst hc hn hrz hro iz io ht hk2 hkn hr
    unfold pp at *
    by_cases hlt : C < p
    · rw [if_pos hlt]
      have hltI : (C : Int) < (p : Int) := by omega
      go_enter Tryz.func61, Tryz.ntmps61
      go_wp2_with fail
      go_quiet ((go_at_call 82; exact quietS (hcom.out _)))
      go_wp2_with fail
      refine (hsp.out _ (drewN_below w _)).mono ?_
      rintro e w2 ⟨rfl, rfl⟩
      go_wp2_with fail
      refine (HJ.out C (by omega) _ (drewN_below w _)).mono ?_
      rintro e w3 ⟨d, rfl, hd, hb3⟩
      go_wp2
      go_ret
      exact ⟨d, rfl, hd, (drewN_below w _).trans hb3⟩
    · rw [if_neg hlt]
      have hltI : ¬ (C : Int) < (p : Int) := by omega
      cases r with
      | true =>
        have HKO := Lib.hid ((KN.out hlt).1 HHR.out.symm)
        rw [if_pos rfl]
        go_enter Tryz.func61, Tryz.ntmps61
        go_wp2_with fail
        go_quiet ((go_at_call 82; exact quietS (hcom.out _)))
        go_wp2_with fail
        refine (hsp.out _ (drewN_below w _)).mono ?_
        rintro e w2 ⟨rfl, rfl⟩
        go_wp2_with fail
        go_quiet ((go_at_call 95; exact quietE2 (hbit.out _)))
        go_wp2_with fail
        go_region_held3 (fun w' => w'.cell? ⟨b, 2, none⟩ = some (.string k') ∧ w'.cell? ⟨b, 4, none⟩ = some (.int .i64 p) ∧ w'.cell? ⟨b, 5, none⟩ = some (.pointer (some ⟨bz, 0, none⟩)) ∧ w'.cell? ⟨b, 6, none⟩ = some (.pointer (some ⟨bo, 0, none⟩)))
          (first | exact ⟨c2, c4, c5, c6⟩ | exact hcs5 | exact hcs4)
          (first
            | (go_at_call 61; refine (HIO.out HKO.out _ (drewN_below w _)).mono ?_; rintro e w4 ⟨d4, rfl, hd4, hb4⟩; have hcs4 := And.intro (cellN hb4 c2) (And.intro (cellN hb4 c4) (And.intro (cellN hb4 c5) (cellN hb4 c6))); have hbw4 := Lib.hid (belowN hb4); unfold pp)
            | (go_at_call 81; refine (HF.out z (withP k v o) bz d4 w4 SZ.out SO2.out hbw4.out (HRZ.out.later hbw4.out) hd4).mono ?_; rintro e w5 ⟨d5, rfl, hd5, hb5⟩; have hcs5 := And.intro (cellB hb5 hcs4.1) (And.intro (cellB hb5 hcs4.2.1) (And.intro (cellB hb5 hcs4.2.2.1) (cellB hb5 hcs4.2.2.2))); have hbw5 := Lib.hid (hbw4.out.trans (hb5.mono hbw4.out.size))))
        go_wp2
        go_ret
        exact ⟨d5, rfl, hd5, hbw5.out⟩
      | false =>
        have HKZ := Lib.hid ((KN.out hlt).2 HHR.out.symm)
        rw [if_neg (by simp)]
        go_enter Tryz.func61, Tryz.ntmps61
        go_wp2_with fail
        go_quiet ((go_at_call 82; exact quietS (hcom.out _)))
        go_wp2_with fail
        refine (hsp.out _ (drewN_below w _)).mono ?_
        rintro e w2 ⟨rfl, rfl⟩
        go_wp2_with fail
        go_quiet ((go_at_call 95; exact quietE2 (hbit.out _)))
        go_wp2_with fail
        go_region_held3 (fun w' => w'.cell? ⟨b, 2, none⟩ = some (.string k') ∧ w'.cell? ⟨b, 4, none⟩ = some (.int .i64 p) ∧ w'.cell? ⟨b, 5, none⟩ = some (.pointer (some ⟨bz, 0, none⟩)) ∧ w'.cell? ⟨b, 6, none⟩ = some (.pointer (some ⟨bo, 0, none⟩)))
          (first | exact ⟨c2, c4, c5, c6⟩ | exact hcs5 | exact hcs4)
          (first
            | (go_at_call 61; refine (HIZ.out HKZ.out _ (drewN_below w _)).mono ?_; rintro e w4 ⟨d4, rfl, hd4, hb4⟩; have hcs4 := And.intro (cellN hb4 c2) (And.intro (cellN hb4 c4) (And.intro (cellN hb4 c5) (cellN hb4 c6))); have hbw4 := Lib.hid (belowN hb4); unfold pp)
            | (go_at_call 81; refine (HF.out (withP k v z) o d4 bo w4 SZ2.out SO.out hbw4.out hd4 (HRO.out.later hbw4.out)).mono ?_; rintro e w5 ⟨d5, rfl, hd5, hb5⟩; have hcs5 := And.intro (cellB hb5 hcs4.1) (And.intro (cellB hb5 hcs4.2.1) (And.intro (cellB hb5 hcs4.2.2.1) (cellB hb5 hcs4.2.2.2))); have hbw5 := Lib.hid (hbw4.out.trans (hb5.mono hbw4.out.size))))
        go_wp2
        go_ret
        exact ⟨d5, rfl, hd5, hbw5.out⟩
end Go.Proofs.YtmpjpaomgifpcaaGreatDoor
