/- trie's with and without. -/
import Derived.Test.YtohcackebmmikaaDoorIModel2
namespace Go.Proofs.YtohcackebmmikaaDoor
open Go.RowKit

/-- A tree is answered; only new blocks are laid. -/
def TrRes (w : World) (t : Tr) (e : Ending) (w' : World) : Prop := ∃ d, e = .returned (pp d) ∧ Rep w' t d ∧ Below w.heap.size w w'
theorem TrRes.of {w w1 : World} {t : Tr} {e : Ending} {w' : World} (hb : Below w.heap.size w w1) (h : TrRes w1 t e w') : TrRes w t e w' := by
  obtain ⟨d, h1, h2, h3⟩ := h
  exact ⟨d, h1, h2, hb.trans (h3.mono hb.size)⟩
theorem cellN {W w4 : World} {n : Nat} (hb : Below (W.drewN n).heap.size (W.drewN n) w4) {g o : Nat} {v : Value} (h : W.cell? ⟨g, o, none⟩ = some v) : w4.cell? ⟨g, o, none⟩ = some v := by
  have hlt := World.block_lt_of_cell? W _ h
  rw [hb.cell (p := ⟨g, o, none⟩) hlt]; exact h
theorem cellB {W w4 : World} (hb : Below W.heap.size W w4) {g o : Nat} {v : Value} (h : W.cell? ⟨g, o, none⟩ = some v) : w4.cell? ⟨g, o, none⟩ = some v := by
  have hlt := World.block_lt_of_cell? W _ h
  rw [hb.cell (p := ⟨g, o, none⟩) hlt]; exact h
theorem belowN {W w4 : World} {n : Nat} (hb : Below (W.drewN n).heap.size (W.drewN n) w4) : Below W.heap.size W w4 := ((Same.of W n).below _).trans hb
theorem drewN_below (w : World) (n : Nat) : Below w.heap.size w (w.drewN n) := (Same.of _ _).below _

set_option maxRecDepth 30000 in
set_option maxHeartbeats 1000000 in
theorem with_leaf (k v k' v' : ByteArray) (hk : k.size = 32) (hv : v.size ≤ 100) (b c : Nat) (w : World) (ht : (Tr.leaf k' v').sz) (hb : Rep w (.leaf k' v') b) (hc : Rep w (.leaf k v) c) (hst : Start w) :
    Calls Tryd.prog 43 #[pp b, pp c] w (TrRes w (withT k v (.leaf k' v'))) := by
  obtain ⟨C, hC⟩ : ∃ C, C = comL (ks k') (ks k) := ⟨_, rfl⟩
  have hcom := Lib.hid (fun W => com_prog k' k W ht.1 hk)
  have hCle : C ≤ 256 := by have := (comL_le (ks k') (ks k)).1; rw [← hC, ks_length, ht.1] at this; omega
  unfold withT
  rw [← hC] at hcom ⊢
  clear hC
  have HB := Lib.hid hb
  have HC := Lib.hid hc
  obtain ⟨c0, c2, _, c4, _⟩ := NodeAt.cells (show NodeAt w b true k' v' 0 _ _ _ from hb)
  obtain ⟨d2, _⟩ := Rep.cells hc
  have hsp := Lib.hid (fun W (h : Below w.heap.size w W) => span_prog (.leaf k' v') b W (HB.out.later h))
  have HS := Lib.hid hst
  have HJ := Lib.hid (fun (p : Nat) (hp : p < 256) (W : World) (h1 : Below w.heap.size w W) => joined_trie p (.leaf k' v') (.leaf k v) b c W hp ht ⟨hk, hv⟩ (HB.out.later h1) (HC.out.later h1) (HS.out.later h1))
  clear hst hb hc
  have hk2 : (Tr.leaf k v).key = k := rfl
  rw [hk2] at d2
  clear hk2
  unfold pp at *
  by_cases hlt : C < 256
  · rw [if_pos hlt]
    have hltI : (C : Int) < (256 : Int) := by omega
    go_enter Tryd.func43, Tryd.ntmps43
    go_wp2_with fail
    go_quiet ((go_at_call 41; exact quietS (hcom.out _)))
    go_wp2_with fail
    refine (hsp.out _ (drewN_below w _)).mono ?_
    rintro e w2 ⟨rfl, rfl⟩
    simp only [Tr.span]
    go_wp2_with fail
    refine (HJ.out C hlt _ (drewN_below w _)).mono ?_
    rintro e w3 ⟨d, rfl, hd, hb3⟩
    go_wp2
    go_ret
    exact ⟨d, rfl, hd, (drewN_below w _).trans hb3⟩
  · rw [if_neg hlt]
    have hltI : ¬ (C : Int) < (256 : Int) := by omega
    go_enter Tryd.func43, Tryd.ntmps43
    go_wp2_with fail
    go_quiet ((go_at_call 41; exact quietS (hcom.out _)))
    go_wp2_with fail
    refine (hsp.out _ (drewN_below w _)).mono ?_
    rintro e w2 ⟨rfl, rfl⟩
    simp only [Tr.span]
    go_wp2
    go_ret
    exact ⟨c, rfl, HC.out.later (drewN_below w _), drewN_below w _⟩

set_option maxRecDepth 30000 in
set_option maxHeartbeats 2000000 in
theorem with_prog (k v : ByteArray) (hk : k.size = 32) (hv : v.size ≤ 100) (t : Tr) : ∀ (b c : Nat) (w : World), t.sz → Rep w t b → Rep w (.leaf k v) c → Start w →
    Calls Tryd.prog 43 #[pp b, pp c] w (TrRes w (withT k v t)) := by
  induction t with
  | leaf k' v' => exact fun b c w => with_leaf k v k' v' hk hv b c w
  | fork p k' z o iz io =>
    intro b c w ht hb hc hst
    obtain ⟨C, hC⟩ : ∃ C, C = comL (ks k') (ks k) := ⟨_, rfl⟩
    have hcom := Lib.hid (fun W => com_prog k' k W ht.2.1 hk)
    have hCle : C ≤ 256 := by have := (comL_le (ks k') (ks k)).1; rw [← hC, ks_length, ht.2.1] at this; omega
    unfold withT
    rw [← hC] at hcom ⊢
    clear hC
    have HB := Lib.hid hb
    have HC := Lib.hid hc
    obtain ⟨bz, bo, hn, hrz, hro⟩ := hb
    obtain ⟨c0, c2, _, c4, c5, c6, _⟩ := NodeAt.cells hn
    obtain ⟨d2, _⟩ := Rep.cells hc
    have hsp := Lib.hid (fun W (h : Below w.heap.size w W) => span_prog (.fork p k' z o) b W (HB.out.later h))
    have HS := Lib.hid hst
    have HRZ := Lib.hid hrz
    have HRO := Lib.hid hro
    have HJ := Lib.hid (fun (q : Nat) (hq : q < 256) (W : World) (h1 : Below w.heap.size w W) => joined_trie q (.fork p k' z o) (.leaf k v) b c W hq ht ⟨hk, hv⟩ (HB.out.later h1) (HC.out.later h1) (HS.out.later h1))
    have HIZ := Lib.hid (fun (W : World) (h1 : Below w.heap.size w W) => iz bz c W ht.2.2.1 (HRZ.out.later h1) (HC.out.later h1) (HS.out.later h1))
    have HIO := Lib.hid (fun (W : World) (h1 : Below w.heap.size w W) => io bo c W ht.2.2.2 (HRO.out.later h1) (HC.out.later h1) (HS.out.later h1))
    have HF := Lib.hid (fun (z' o' : Tr) (x y : Nat) (W : World) (h1 : Below w.heap.size w W) (h2 : Rep W z' x) (h3 : Rep W o' y) => fork_prog p k' z' o' x y W ht.1 ht.2.1 h2 h3 (HS.out.later h1))
    have hp : p < 256 := ht.1
    have hbit := Lib.hid (fun W => bit_prog k p W ht.1 (by omega))
    obtain ⟨r, hr⟩ : ∃ r, r = bitL (ks k) p := ⟨_, rfl⟩
    rw [← hr] at hbit ⊢
    have hr1 := bitN_zero r
    have hk2 : (Tr.leaf k v).key = k := rfl
    rw [hk2] at d2
    clear hst hc hn hrz hro iz io ht hr hk2
    unfold pp at *
    by_cases hlt : C < p
    · rw [if_pos hlt]
      have hltI : (C : Int) < (p : Int) := by omega
      go_enter Tryd.func43, Tryd.ntmps43
      go_wp2_with fail
      go_quiet ((go_at_call 41; exact quietS (hcom.out _)))
      go_wp2_with fail
      refine (hsp.out _ (drewN_below w _)).mono ?_
      rintro e w2 ⟨rfl, rfl⟩
      simp only [Tr.span]
      go_wp2_with fail
      refine (HJ.out C (by omega) _ (drewN_below w _)).mono ?_
      rintro e w3 ⟨d, rfl, hd, hb3⟩
      go_wp2
      go_ret
      exact ⟨d, rfl, hd, (drewN_below w _).trans hb3⟩
    · rw [if_neg hlt]
      have hltI : ¬ (C : Int) < (p : Int) := by omega
      cases r with
      | true =>
        rw [if_pos rfl]
        go_enter Tryd.func43, Tryd.ntmps43
        go_wp2_with fail
        go_quiet ((go_at_call 41; exact quietS (hcom.out _)))
        go_wp2_with fail
        refine (hsp.out _ (drewN_below w _)).mono ?_
        rintro e w2 ⟨rfl, rfl⟩
        simp only [Tr.span]
        go_wp2_with fail
        go_quiet ((go_at_call 51; exact quietE2 (hbit.out _)))
        go_wp2_with fail
        go_region_held3 (fun w' => w'.cell? ⟨b, 2, none⟩ = some (.string k') ∧ w'.cell? ⟨b, 4, none⟩ = some (.int .i64 p) ∧ w'.cell? ⟨b, 5, none⟩ = some (.pointer (some ⟨bz, 0, none⟩)) ∧ w'.cell? ⟨b, 6, none⟩ = some (.pointer (some ⟨bo, 0, none⟩)))
          (first | exact ⟨c2, c4, c5, c6⟩ | exact hcs5 | exact hcs4)
          (first
            | (go_at_call 43; refine (HIO.out _ (drewN_below w _)).mono ?_; rintro e w4 ⟨d4, rfl, hd4, hb4⟩; have hcs4 := And.intro (cellN hb4 c2) (And.intro (cellN hb4 c4) (And.intro (cellN hb4 c5) (cellN hb4 c6))); have hbw4 := Lib.hid (belowN hb4); unfold pp)
            | (go_at_call 54; refine (HF.out z (withT k v o) bz d4 w4 hbw4.out (HRZ.out.later hbw4.out) hd4).mono ?_; rintro e w5 ⟨d5, rfl, hd5, hb5⟩; have hcs5 := And.intro (cellB hb5 hcs4.1) (And.intro (cellB hb5 hcs4.2.1) (And.intro (cellB hb5 hcs4.2.2.1) (cellB hb5 hcs4.2.2.2))); have hbw5 := Lib.hid (hbw4.out.trans (hb5.mono hbw4.out.size))))
        go_wp2
        go_ret
        exact ⟨d5, rfl, hd5, hbw5.out⟩
      | false =>
        rw [if_neg (by simp)]
        go_enter Tryd.func43, Tryd.ntmps43
        go_wp2_with fail
        go_quiet ((go_at_call 41; exact quietS (hcom.out _)))
        go_wp2_with fail
        refine (hsp.out _ (drewN_below w _)).mono ?_
        rintro e w2 ⟨rfl, rfl⟩
        simp only [Tr.span]
        go_wp2_with fail
        go_quiet ((go_at_call 51; exact quietE2 (hbit.out _)))
        go_wp2_with fail
        go_region_held3 (fun w' => w'.cell? ⟨b, 2, none⟩ = some (.string k') ∧ w'.cell? ⟨b, 4, none⟩ = some (.int .i64 p) ∧ w'.cell? ⟨b, 5, none⟩ = some (.pointer (some ⟨bz, 0, none⟩)) ∧ w'.cell? ⟨b, 6, none⟩ = some (.pointer (some ⟨bo, 0, none⟩)))
          (first | exact ⟨c2, c4, c5, c6⟩ | exact hcs5 | exact hcs4)
          (first
            | (go_at_call 43; refine (HIZ.out _ (drewN_below w _)).mono ?_; rintro e w4 ⟨d4, rfl, hd4, hb4⟩; have hcs4 := And.intro (cellN hb4 c2) (And.intro (cellN hb4 c4) (And.intro (cellN hb4 c5) (cellN hb4 c6))); have hbw4 := Lib.hid (belowN hb4); unfold pp)
            | (go_at_call 54; refine (HF.out (withT k v z) o d4 bo w4 hbw4.out hd4 (HRO.out.later hbw4.out)).mono ?_; rintro e w5 ⟨d5, rfl, hd5, hb5⟩; have hcs5 := And.intro (cellB hb5 hcs4.1) (And.intro (cellB hb5 hcs4.2.1) (And.intro (cellB hb5 hcs4.2.2.1) (cellB hb5 hcs4.2.2.2))); have hbw5 := Lib.hid (hbw4.out.trans (hb5.mono hbw4.out.size))))
        go_wp2
        go_ret
        exact ⟨d5, rfl, hd5, hbw5.out⟩
end Go.Proofs.YtohcackebmmikaaDoor
