/- trie's with and without. trie's without. Appending to a slice of the call's own, and where the new slice lies; pairs in slices. trie's gathered and copied. trie's copied. -/
import Derived.Test.YtmpjpaomgifpcaaGreatDoorBTree
import Derived.Deep.RegionLaw
import Derived.StillTailTactics
namespace Go.Proofs.YtmpjpaomgifpcaaGreatDoor
open Go.RowKit

/-- A tree is answered; only new blocks are laid. -/
def TrRes (w : World) (t : Tr) (e : Ending) (w' : World) : Prop := ∃ d, e = .returned (pp d) ∧ Rep w' t d ∧ Below w.heap.size w w'
theorem TrRes.of {w w1 : World} {t : Tr} {e : Ending} {w' : World} (hb : Below w.heap.size w w1) (h : TrRes w1 t e w') : TrRes w t e w' := by
  obtain ⟨d, h1, h2, h3⟩ := h
  exact ⟨d, h1, h2, hb.trans (h3.mono hb.size)⟩
theorem cellN {W w4 : World} {n : Nat} (hb : Below (W.drewN n).heap.size (W.drewN n) w4) {g o : Nat} {v : Value} (h : W.cell? ⟨g, o, none⟩ = some v) : w4.cell? ⟨g, o, none⟩ = some v := by
  have hlt := World.block_lt_of_cell? W _ h
  rw [hb.cell (p := ⟨g, o, none⟩) hlt]; exact h
theorem cellB {W w4 : World} (hb : Below W.heap.size W w4) {g o : Nat} {v : Value} (h : W.cell? ⟨g, o, none⟩ = some v) : w4.cell? ⟨g, o, none⟩ = some v := by
  have hlt := World.block_lt_of_cell? W _ h
  rw [hb.cell (p := ⟨g, o, none⟩) hlt]; exact h
theorem belowN {W w4 : World} {n : Nat} (hb : Below (W.drewN n).heap.size (W.drewN n) w4) : Below W.heap.size W w4 := ((Same.of W n).below _).trans hb
theorem drewN_below (w : World) (n : Nat) : Below w.heap.size w (w.drewN n) := (Same.of _ _).below _

set_option maxRecDepth 30000 in
set_option maxHeartbeats 1000000 in
theorem with_leaf (k v k' v' : ByteArray) (hk : k.size = 32) (hv : v.size ≤ 5000) (b c : Nat) (w : World) (ht : (Tr.leaf k' v').sz) (hb : Rep w (.leaf k' v') b) (hc : Rep w (.leaf k v) c) (hst : Start w) :
    Calls Tryz.prog 59 #[pp b, pp c] w (TrRes w (withT k v (.leaf k' v'))) := by
  obtain ⟨C, hC⟩ : ∃ C, C = comL (ks k') (ks k) := ⟨_, rfl⟩
  have hcom := Lib.hid (fun W => com_prog k' k W ht.1 hk)
  have hCle : C ≤ 256 := by have := (comL_le (ks k') (ks k)).1; rw [← hC, ks_length, ht.1] at this; omega
  unfold withT
  rw [← hC] at hcom ⊢
  clear hC
  have HB := Lib.hid hb
  have HC := Lib.hid hc
  obtain ⟨c0, c2, _, c4, _⟩ := NodeAt.cells (show NodeAt w b true k' v' 0 _ _ _ from hb)
  obtain ⟨d2, _⟩ := Rep.cells hc
  have hsp := Lib.hid (fun W (h : Below w.heap.size w W) => span_prog (.leaf k' v') b W (HB.out.later h))
  have HS := Lib.hid hst
  have HJ := Lib.hid (fun (p : Nat) (hp : p < 256) (W : World) (h1 : Below w.heap.size w W) => joined_trie p (.leaf k' v') (.leaf k v) b c W hp ht ⟨hk, hv⟩ (HB.out.later h1) (HC.out.later h1) (HS.out.later h1))
  clear hst hb hc
  have hk2 : (Tr.leaf k v).key = k := rfl
  rw [hk2] at d2
  clear hk2
  unfold pp at *
  by_cases hlt : C < 256
  · rw [if_pos hlt]
    have hltI : (C : Int) < (256 : Int) := by omega
    go_enter Tryz.func59, Tryz.ntmps59
    go_wp2_with fail
    go_quiet ((go_at_call 82; exact quietS (hcom.out _)))
    go_wp2_with fail
    refine (hsp.out _ (drewN_below w _)).mono ?_
    rintro e w2 ⟨rfl, rfl⟩
    simp only [Tr.span]
    go_wp2_with fail
    refine (HJ.out C hlt _ (drewN_below w _)).mono ?_
    rintro e w3 ⟨d, rfl, hd, hb3⟩
    go_wp2
    go_ret
    exact ⟨d, rfl, hd, (drewN_below w _).trans hb3⟩
  · rw [if_neg hlt]
    have hltI : ¬ (C : Int) < (256 : Int) := by omega
    go_enter Tryz.func59, Tryz.ntmps59
    go_wp2_with fail
    go_quiet ((go_at_call 82; exact quietS (hcom.out _)))
    go_wp2_with fail
    refine (hsp.out _ (drewN_below w _)).mono ?_
    rintro e w2 ⟨rfl, rfl⟩
    simp only [Tr.span]
    go_wp2
    go_ret
    exact ⟨c, rfl, HC.out.later (drewN_below w _), drewN_below w _⟩

set_option maxRecDepth 30000 in
set_option maxHeartbeats 2000000 in
theorem with_prog (k v : ByteArray) (hk : k.size = 32) (hv : v.size ≤ 5000) (t : Tr) : ∀ (b c : Nat) (w : World), t.sz → Rep w t b → Rep w (.leaf k v) c → Start w →
    Calls Tryz.prog 59 #[pp b, pp c] w (TrRes w (withT k v t)) := by
  induction t with
  | leaf k' v' => exact fun b c w => with_leaf k v k' v' hk hv b c w
  | fork p k' z o iz io =>
    intro b c w ht hb hc hst
    obtain ⟨C, hC⟩ : ∃ C, C = comL (ks k') (ks k) := ⟨_, rfl⟩
    have hcom := Lib.hid (fun W => com_prog k' k W ht.2.1 hk)
    have hCle : C ≤ 256 := by have := (comL_le (ks k') (ks k)).1; rw [← hC, ks_length, ht.2.1] at this; omega
    unfold withT
    rw [← hC] at hcom ⊢
    clear hC
    have HB := Lib.hid hb
    have HC := Lib.hid hc
    obtain ⟨bz, bo, hn, hrz, hro⟩ := hb
    obtain ⟨c0, c2, _, c4, c5, c6, _⟩ := NodeAt.cells hn
    obtain ⟨d2, _⟩ := Rep.cells hc
    have hsp := Lib.hid (fun W (h : Below w.heap.size w W) => span_prog (.fork p k' z o) b W (HB.out.later h))
    have HS := Lib.hid hst
    have HRZ := Lib.hid hrz
    have HRO := Lib.hid hro
    have HJ := Lib.hid (fun (q : Nat) (hq : q < 256) (W : World) (h1 : Below w.heap.size w W) => joined_trie q (.fork p k' z o) (.leaf k v) b c W hq ht ⟨hk, hv⟩ (HB.out.later h1) (HC.out.later h1) (HS.out.later h1))
    have HIZ := Lib.hid (fun (W : World) (h1 : Below w.heap.size w W) => iz bz c W ht.2.2.1 (HRZ.out.later h1) (HC.out.later h1) (HS.out.later h1))
    have HIO := Lib.hid (fun (W : World) (h1 : Below w.heap.size w W) => io bo c W ht.2.2.2 (HRO.out.later h1) (HC.out.later h1) (HS.out.later h1))
    have HF := Lib.hid (fun (z' o' : Tr) (x y : Nat) (W : World) (h1 : Below w.heap.size w W) (h2 : Rep W z' x) (h3 : Rep W o' y) => fork_prog p k' z' o' x y W ht.1 ht.2.1 h2 h3 (HS.out.later h1))
    have hp : p < 256 := ht.1
    have hbit := Lib.hid (fun W => bit_prog k p W ht.1 (by omega))
    obtain ⟨r, hr⟩ : ∃ r, r = bitL (ks k) p := ⟨_, rfl⟩
    rw [← hr] at hbit ⊢
    have hr1 := bitN_zero r
    have hk2 : (Tr.leaf k v).key = k := rfl
    rw [hk2] at d2
    clear hst hc hn hrz hro iz io ht hr hk2
    unfold pp at *
    by_cases hlt : C < p
    · rw [if_pos hlt]
      have hltI : (C : Int) < (p : Int) := by omega
      go_enter Tryz.func59, Tryz.ntmps59
      go_wp2_with fail
      go_quiet ((go_at_call 82; exact quietS (hcom.out _)))
      go_wp2_with fail
      refine (hsp.out _ (drewN_below w _)).mono ?_
      rintro e w2 ⟨rfl, rfl⟩
      simp only [Tr.span]
      go_wp2_with fail
      refine (HJ.out C (by omega) _ (drewN_below w _)).mono ?_
      rintro e w3 ⟨d, rfl, hd, hb3⟩
      go_wp2
      go_ret
      exact ⟨d, rfl, hd, (drewN_below w _).trans hb3⟩
    · rw [if_neg hlt]
      have hltI : ¬ (C : Int) < (p : Int) := by omega
      cases r with
      | true =>
        rw [if_pos rfl]
        go_enter Tryz.func59, Tryz.ntmps59
        go_wp2_with fail
        go_quiet ((go_at_call 82; exact quietS (hcom.out _)))
        go_wp2_with fail
        refine (hsp.out _ (drewN_below w _)).mono ?_
        rintro e w2 ⟨rfl, rfl⟩
        simp only [Tr.span]
        go_wp2_with fail
        go_quiet ((go_at_call 95; exact quietE2 (hbit.out _)))
        go_wp2_with fail
        go_region_held3 (fun w' => w'.cell? ⟨b, 2, none⟩ = some (.string k') ∧ w'.cell? ⟨b, 4, none⟩ = some (.int .i64 p) ∧ w'.cell? ⟨b, 5, none⟩ = some (.pointer (some ⟨bz, 0, none⟩)) ∧ w'.cell? ⟨b, 6, none⟩ = some (.pointer (some ⟨bo, 0, none⟩)))
          (first | exact ⟨c2, c4, c5, c6⟩ | exact hcs5 | exact hcs4)
          (first
            | (go_at_call 59; refine (HIO.out _ (drewN_below w _)).mono ?_; rintro e w4 ⟨d4, rfl, hd4, hb4⟩; have hcs4 := And.intro (cellN hb4 c2) (And.intro (cellN hb4 c4) (And.intro (cellN hb4 c5) (cellN hb4 c6))); have hbw4 := Lib.hid (belowN hb4); unfold pp)
            | (go_at_call 96; refine (HF.out z (withT k v o) bz d4 w4 hbw4.out (HRZ.out.later hbw4.out) hd4).mono ?_; rintro e w5 ⟨d5, rfl, hd5, hb5⟩; have hcs5 := And.intro (cellB hb5 hcs4.1) (And.intro (cellB hb5 hcs4.2.1) (And.intro (cellB hb5 hcs4.2.2.1) (cellB hb5 hcs4.2.2.2))); have hbw5 := Lib.hid (hbw4.out.trans (hb5.mono hbw4.out.size))))
        go_wp2
        go_ret
        exact ⟨d5, rfl, hd5, hbw5.out⟩
      | false =>
        rw [if_neg (by simp)]
        go_enter Tryz.func59, Tryz.ntmps59
        go_wp2_with fail
        go_quiet ((go_at_call 82; exact quietS (hcom.out _)))
        go_wp2_with fail
        refine (hsp.out _ (drewN_below w _)).mono ?_
        rintro e w2 ⟨rfl, rfl⟩
        simp only [Tr.span]
        go_wp2_with fail
        go_quiet ((go_at_call 95; exact quietE2 (hbit.out _)))
        go_wp2_with fail
        go_region_held3 (fun w' => w'.cell? ⟨b, 2, none⟩ = some (.string k') ∧ w'.cell? ⟨b, 4, none⟩ = some (.int .i64 p) ∧ w'.cell? ⟨b, 5, none⟩ = some (.pointer (some ⟨bz, 0, none⟩)) ∧ w'.cell? ⟨b, 6, none⟩ = some (.pointer (some ⟨bo, 0, none⟩)))
          (first | exact ⟨c2, c4, c5, c6⟩ | exact hcs5 | exact hcs4)
          (first
            | (go_at_call 59; refine (HIZ.out _ (drewN_below w _)).mono ?_; rintro e w4 ⟨d4, rfl, hd4, hb4⟩; have hcs4 := And.intro (cellN hb4 c2) (And.intro (cellN hb4 c4) (And.intro (cellN hb4 c5) (cellN hb4 c6))); have hbw4 := Lib.hid (belowN hb4); unfold pp)
            | (go_at_call 96; refine (HF.out (withT k v z) o d4 bo w4 hbw4.out hd4 (HRO.out.later hbw4.out)).mono ?_; rintro e w5 ⟨d5, rfl, hd5, hb5⟩; have hcs5 := And.intro (cellB hb5 hcs4.1) (And.intro (cellB hb5 hcs4.2.1) (And.intro (cellB hb5 hcs4.2.2.1) (cellB hb5 hcs4.2.2.2))); have hbw5 := Lib.hid (hbw4.out.trans (hb5.mono hbw4.out.size))))
        go_wp2
        go_ret
        exact ⟨d5, rfl, hd5, hbw5.out⟩
end Go.Proofs.YtmpjpaomgifpcaaGreatDoor
namespace Go.Proofs.YtmpjpaomgifpcaaGreatDoor
open Go.RowKit

/-- A tree, or none, in memory. -/
def RepM (w : World) : Option Tr → Value → Prop
  | none, v => v = .pointer none
  | some t, v => ∃ b, v = pp b ∧ Rep w t b
theorem RepM.later {w w' : World} (hb : Below w.heap.size w w') : ∀ {m : Option Tr} {v : Value}, RepM w m v → RepM w' m v
  | none, _, h => h
  | some _, _, ⟨b, h1, h2⟩ => ⟨b, h1, h2.later hb⟩
def outO (p : Nat) (k : ByteArray) (z : Tr) : Option Tr → Option Tr
  | none => some z
  | some o' => some (.fork p k z o')
def outZ (p : Nat) (k : ByteArray) (o : Tr) : Option Tr → Option Tr
  | none => some o
  | some z' => some (.fork p k z' o)
theorem without_eq (l : List UInt8) (p : Nat) (k : ByteArray) (z o : Tr) : withoutT l (.fork p k z o) = if bitL l p then outO p k z (withoutT l o) else outZ p k o (withoutT l z) := by
  rw [withoutT]
  split
  · cases withoutT l o <;> rfl
  · cases withoutT l z <;> rfl
def MRes (w : World) (m : Option Tr) (e : Ending) (w' : World) : Prop := ∃ v, e = .returned v ∧ RepM w' m v ∧ Below w.heap.size w w'

set_option maxRecDepth 30000 in
set_option maxHeartbeats 2000000 in
theorem without_prog (k : ByteArray) (hk : k.size ≤ 1000) (t : Tr) : ∀ (b : Nat) (w : World), t.sz → Rep w t b → Start w →
    Calls Tryz.prog 63 #[pp b, .string k] w (MRes w (withoutT (ks k) t)) := by
  induction t with
  | leaf k' v' =>
    intro b w ht hb hst
    obtain ⟨c0, c2, _, c4, _⟩ := NodeAt.cells (show NodeAt w b true k' v' 0 _ _ _ from hb)
    clear hst hb ht
    unfold pp withoutT
    go_enter Tryz.func63, Tryz.ntmps63
    go_wp2
    go_ret
    exact ⟨_, rfl, rfl, Below.refl _ _⟩
  | fork p k' z o iz io =>
    intro b w ht hb hst
    obtain ⟨bz, bo, hn, hrz, hro⟩ := hb
    obtain ⟨c0, c2, _, c4, c5, c6, _⟩ := NodeAt.cells hn
    have HS := Lib.hid hst
    have HRZ := Lib.hid hrz
    have HRO := Lib.hid hro
    have HIZ := Lib.hid (fun (W : World) (h1 : Below w.heap.size w W) => iz bz W ht.2.2.1 (HRZ.out.later h1) (HS.out.later h1))
    have HIO := Lib.hid (fun (W : World) (h1 : Below w.heap.size w W) => io bo W ht.2.2.2 (HRO.out.later h1) (HS.out.later h1))
    have HF := Lib.hid (fun (z' o' : Tr) (x y : Nat) (W : World) (h1 : Below w.heap.size w W) (h2 : Rep W z' x) (h3 : Rep W o' y) => fork_prog p k' z' o' x y W ht.1 ht.2.1 h2 h3 (HS.out.later h1))
    have hbit := Lib.hid (fun W => bit_prog k p W ht.1 (by omega))
    obtain ⟨r, hr⟩ : ∃ r, r = bitL (ks k) p := ⟨_, rfl⟩
    rw [without_eq]
    obtain ⟨mz, hmz⟩ : ∃ m, m = withoutT (ks k) z := ⟨_, rfl⟩
    obtain ⟨mo, hmo⟩ : ∃ m, m = withoutT (ks k) o := ⟨_, rfl⟩
    rw [← hmz] at HIZ ⊢
    rw [← hmo] at HIO ⊢
    clear hmz hmo
    rw [← hr] at hbit ⊢
    have hr1 := bitN_zero r
    clear hst hn hrz hro iz io ht hr
    unfold pp at *
    cases r with
    | true =>
      rw [if_pos rfl]
      cases mo with
      | none =>
        go_enter Tryz.func63, Tryz.ntmps63
        go_wp2_with fail
        go_quiet (fail)
        go_wp2_with fail
        refine (hbit.out _).mono ?_
        rintro e w1 ⟨rfl, rfl⟩
        go_wp2_with fail
        refine (HIO.out _ (drewN_below w _)).mono ?_
        rintro e w3 ⟨v3, rfl, hv3, hb3⟩
        have hb3' := Lib.hid (belowN hb3)
        have hv4 : v3 = .pointer none := hv3
        subst hv4
        clear hv3
        go_wp2
        go_ret
        exact ⟨_, rfl, ⟨bz, rfl, HRZ.out.later hb3'.out⟩, hb3'.out⟩
      | some o' =>
        go_enter Tryz.func63, Tryz.ntmps63
        go_wp2_with fail
        go_quiet (fail)
        go_wp2_with fail
        refine (hbit.out _).mono ?_
        rintro e w1 ⟨rfl, rfl⟩
        go_wp2_with fail
        refine (HIO.out _ (drewN_below w _)).mono ?_
        rintro e w3 ⟨v3, rfl, hv3, hb3⟩
        have hb3' := Lib.hid (belowN hb3)
        obtain ⟨d, hd, hd2⟩ := hv3
        unfold pp at hd
        subst hd
        have HD := Lib.hid hd2
        have e2 := cellN hb3 c2
        have e4 := cellN hb3 c4
        clear hd2 c0 c2 c4 c5 c6
        go_wp2_with fail
        go_region_held3 (fun w' => w'.cell? ⟨b, 2, none⟩ = some (.string k') ∧ w'.cell? ⟨b, 4, none⟩ = some (.int .i64 p))
          (first | exact ⟨e2, e4⟩ | exact hcs5)
          ((go_at_call 96; refine (HF.out z o' bz d _ (hb3'.out.trans ((Below.refl _ w3).drew.mono hb3'.out.size)) ((HRZ.out.later hb3'.out).later (Below.refl _ w3).drew) (HD.out.later (Below.refl _ w3).drew)).mono ?_; rintro e w5 ⟨d5, rfl, hd5, hb5⟩; have hcs5 := And.intro (cellD hb5 e2) (cellD hb5 e4); have hbw5 := Lib.hid (hb3'.out.trans (((Below.refl _ w3).drew.trans hb5).mono hb3'.out.size))))
        go_wp2
        go_ret
        exact ⟨_, rfl, ⟨d5, rfl, hd5⟩, hbw5.out⟩
    | false =>
      rw [if_neg (by simp)]
      cases mz with
      | none =>
        go_enter Tryz.func63, Tryz.ntmps63
        go_wp2_with fail
        go_quiet (fail)
        go_wp2_with fail
        refine (hbit.out _).mono ?_
        rintro e w1 ⟨rfl, rfl⟩
        go_wp2_with fail
        refine (HIZ.out _ (drewN_below w _)).mono ?_
        rintro e w3 ⟨v3, rfl, hv3, hb3⟩
        have hb3' := Lib.hid (belowN hb3)
        have hv4 : v3 = .pointer none := hv3
        subst hv4
        clear hv3
        go_wp2
        go_ret
        exact ⟨_, rfl, ⟨bo, rfl, HRO.out.later hb3'.out⟩, hb3'.out⟩
      | some z' =>
        go_enter Tryz.func63, Tryz.ntmps63
        go_wp2_with fail
        go_quiet (fail)
        go_wp2_with fail
        refine (hbit.out _).mono ?_
        rintro e w1 ⟨rfl, rfl⟩
        go_wp2_with fail
        refine (HIZ.out _ (drewN_below w _)).mono ?_
        rintro e w3 ⟨v3, rfl, hv3, hb3⟩
        have hb3' := Lib.hid (belowN hb3)
        obtain ⟨d, hd, hd2⟩ := hv3
        unfold pp at hd
        subst hd
        have HD := Lib.hid hd2
        have e2 := cellN hb3 c2
        have e4 := cellN hb3 c4
        clear hd2 c0 c2 c4 c5 c6
        go_wp2_with fail
        go_region_held3 (fun w' => w'.cell? ⟨b, 2, none⟩ = some (.string k') ∧ w'.cell? ⟨b, 4, none⟩ = some (.int .i64 p))
          (first | exact ⟨e2, e4⟩ | exact hcs5)
          ((go_at_call 96; refine (HF.out z' o d bo _ (hb3'.out.trans ((Below.refl _ w3).drew.mono hb3'.out.size)) (HD.out.later (Below.refl _ w3).drew) ((HRO.out.later hb3'.out).later (Below.refl _ w3).drew)).mono ?_; rintro e w5 ⟨d5, rfl, hd5, hb5⟩; have hcs5 := And.intro (cellD hb5 e2) (cellD hb5 e4); have hbw5 := Lib.hid (hb3'.out.trans (((Below.refl _ w3).drew.trans hb5).mono hb3'.out.size))))
        go_wp2
        go_ret
        exact ⟨_, rfl, ⟨d5, rfl, hd5⟩, hbw5.out⟩
end Go.Proofs.YtmpjpaomgifpcaaGreatDoor
namespace Go.Proofs.YtmpjpaomgifpcaaGreatDoor
open Go.RowKit

/-- From w to w' the block of v alone has turned, beside new blocks; v' lies in v's block or in a new one. -/
structure Grew (w : World) (v : Value) (w' : World) (v' : Value) : Prop where
  grow : w.grownBy w' v.ownBlock
  loc : ∀ k, v'.ownBlock = some k → v.ownBlock = some k ∨ w.heap.size ≤ k
theorem Grew.refl (w : World) (v : Value) : Grew w v w v := ⟨⟨rfl, rfl, rfl, Nat.le_refl _, fun _ _ _ => rfl⟩, fun _ h => .inl h⟩
theorem Grew.trans {w1 w2 w3 : World} {v1 v2 v3 : Value} (h : Grew w1 v1 w2 v2) (k : Grew w2 v2 w3 v3) : Grew w1 v1 w3 v3 := by
  refine ⟨⟨k.grow.os.trans h.grow.os, k.grow.tape.trans h.grow.tape, k.grow.output.trans h.grow.output, Nat.le_trans h.grow.size k.grow.size, fun b hb hne => ?_⟩, fun b hb => ?_⟩
  · refine (k.grow.block b (Nat.lt_of_lt_of_le hb h.grow.size) (fun e => ?_)).trans (h.grow.block b hb hne)
    rcases h.loc b e.symm with h1 | h1
    · exact hne h1.symm
    · omega
  · rcases k.loc b hb with h1 | h1
    · exact h.loc b h1
    · exact .inr (Nat.le_trans h.grow.size h1)
theorem Grew.alloc (w : World) (o : Obj) (v : Value) : Grew w v (w.alloc o) v := ⟨World.grownBy_alloc w o _, fun _ h => .inl h⟩
theorem Grew.drew (w : World) (v : Value) : Grew w v w.drew v := ⟨⟨rfl, rfl, rfl, Nat.le_refl _, fun _ _ _ => rfl⟩, fun _ h => .inl h⟩
theorem Grew.drewN (w : World) (v : Value) (n : Nat) : Grew w v (w.drewN n) v := ⟨⟨rfl, rfl, rfl, Nat.le_refl _, fun _ _ _ => rfl⟩, fun _ h => .inl h⟩
theorem Grew.ofBelow {w w' : World} (v : Value) (h : Below w.heap.size w w') : Grew w v w' v := ⟨⟨h.os, h.tape, h.output, h.size, fun k hk _ => h.block k hk⟩, fun _ h => .inl h⟩
theorem Grew.size {w w' : World} {v v' : Value} (h : Grew w v w' v') : w.heap.size ≤ w'.heap.size := h.grow.size
theorem Grew.block {w w' : World} {v v' : Value} (h : Grew w v w' v') {b : Nat} (hb : b < w.heap.size) (hne : v.ownBlock ≠ some b) : w'.heap[b]? = w.heap[b]? := h.grow.block b hb (Ne.symm hne)
theorem Grew.cell {w w' : World} {v v' : Value} (h : Grew w v w' v') {b o : Nat} {x : Value} (hc : w.cell? ⟨b, o, none⟩ = some x) (hne : v.ownBlock ≠ some b) : w'.cell? ⟨b, o, none⟩ = some x := by
  have hlt := World.block_lt_of_cell? w _ hc
  rw [← hc]; exact World.cell?_of_block (w := w) (h.block hlt hne)
theorem Grew.below {w w' : World} {v v' : Value} {B : Nat} (h : Grew w v w' v') (hB : B ≤ w.heap.size) (hv : ∀ k, v.ownBlock = some k → B ≤ k) : Below B w w' :=
  ⟨h.grow.os, h.grow.tape, h.grow.output, h.grow.size, fun k hk => h.grow.block k (by omega) (fun e => by have := hv k e.symm; omega)⟩

/-- What a slice type's tables say. -/
structure SlN (P : Program) (t e : TypeId) (z : Value) (size bytes : Nat) : Prop where
  und : P.underlying t = some (.slice e)
  info : (P.info? e).map (fun i => (i.zero, i.size, i.bytes)) = some (some z, size, bytes)
  zc : z.cells.size = size
  pos : 0 < size

theorem ownN_low {w : World} {B : Nat} {e : TypeId} {size n : Nat} {v : Value} {xs : List Value} (h : w.ownsRow B e size v n xs) : ∀ k, v.ownBlock = some k → B ≤ k := fun k hk => (World.ownsRow.lt h k hk).1
theorem ownN_ne {w : World} {B : Nat} {e : TypeId} {size n : Nat} {v : Value} {xs : List Value} (h : w.ownsRow B e size v n xs) {b : Nat} (hb : w.heap.size ≤ b) : v.ownBlock ≠ some b := fun hk => by have := (World.ownsRow.lt h b hk).2; omega

section
variable {P : Program} {w : World} {t e : TypeId} {z : Value} {size bytes : Nat}

/-- append at a plain region's list: what is appended lies in a block that is known whole. -/
theorem list_appN {ops : Array Oper} {rest : List Oper} {o : Oper} {a : Act} {Q : Exit → Act → World → Prop} (S : SlN P t e z size bytes) (hgd : o.guard = none) (s x : Operand)
    (ho : o.op = .call { callee := .builtin .append, args := #[s, x], argTypes := #[t, t] })
    (B : Nat) (v : Value) (n : Nat) (xs : List Value) (hs : a.eval s = v) (hown : w.ownsRow B e size v n xs)
    (g0 m c : Nat) (news : List Value) (hx : a.eval x = .slice (some ⟨g0, 0, none⟩) m c) (hblk : w.heap[g0]? = some (.cells news.toArray e (0, 0))) (hl : news.length = m * size) (h1 : ∀ u ∈ news, u.oneCell' = true)
    (hm : 0 < m) (h63 : n + m ≤ maxLen) (hbytes : (n + m) * bytes ≤ 140737488355328) (hbase : B ≤ w.heap.size)
    (h : ∀ g cap w', w'.ownsRow B e size (.slice (some ⟨g, 0, none⟩) (n + m) cap) (n + m) (xs ++ news) → Grew w v w' (.slice (some ⟨g, 0, none⟩) (n + m) cap) → wpList P ops Q rest (a.put o.dst (.slice (some ⟨g, 0, none⟩) (n + m) cap)) w') :
    wpList P ops Q (o :: rest) a w := by
  obtain ⟨i, hi, hz, hsz, hby⟩ := info_parts S.info
  refine wpList_append_lies w hgd s x t ho B e i z size bytes S.und hi hz hsz hby S.zc S.pos v n xs hs hown ⟨g0, 0, none⟩ m c news hx hl
    (by simpa using World.news_of_block hblk) h1 hm h63 hbytes hbase _ rfl ?_
  intro g cap w' h2 h3 h4 _
  refine h g cap w' h2 ⟨h3, fun k hk => ?_⟩
  have : g = k := by simpa [Value.ownBlock] using hk
  subst this
  rcases h4 with h4 | h4
  · exact .inl h4
  · exact .inr (by omega)
/-- .. at a step of a region that draws. -/
theorem step_appN {ops : Array Oper} {o : Oper} {a : Act} {K : Act → World → Prop} {Q : Exit → Act → World → Prop} {E : Prop} (S : SlN P t e z size bytes) (hgd : o.guard = none) (s x : Operand)
    (ho : o.op = .call { callee := .builtin .append, args := #[s, x], argTypes := #[t, t] })
    (B : Nat) (v : Value) (n : Nat) (xs : List Value) (hs : a.eval s = v) (hown : w.ownsRow B e size v n xs)
    (g0 m c : Nat) (news : List Value) (hx : a.eval x = .slice (some ⟨g0, 0, none⟩) m c) (hblk : w.heap[g0]? = some (.cells news.toArray e (0, 0))) (hl : news.length = m * size) (h1 : ∀ u ∈ news, u.oneCell' = true)
    (hm : 0 < m) (h63 : n + m ≤ maxLen) (hbytes : (n + m) * bytes ≤ 140737488355328) (hbase : B ≤ w.heap.size)
    (h : ∀ g cap w', w'.ownsRow B e size (.slice (some ⟨g, 0, none⟩) (n + m) cap) (n + m) (xs ++ news) → Grew w v w' (.slice (some ⟨g, 0, none⟩) (n + m) cap) → K (a.put o.dst (.slice (some ⟨g, 0, none⟩) (n + m) cap)) w') :
    if Region.wanted o (yielded ops a.tmps) = true then Oper.wp P o a w K Q else E := by
  obtain ⟨i, hi, hz, hsz, hby⟩ := info_parts S.info
  refine step_append_lies w hgd s x t ho B e i z size bytes S.und hi hz hsz hby S.zc S.pos v n xs hs hown ⟨g0, 0, none⟩ m c news hx hl
    (by simpa using World.news_of_block hblk) h1 hm h63 hbytes hbase _ rfl ?_
  intro g cap w' h2 h3 h4 _
  refine h g cap w' h2 ⟨h3, fun k hk => ?_⟩
  have : g = k := by simpa [Value.ownBlock] using hk
  subst this
  rcases h4 with h4 | h4
  · exact .inl h4
  · exact .inr (by omega)
end
theorem ownN_mv {w w' : World} {B : Nat} {e : TypeId} {size n : Nat} {v : Value} {xs : List Value} (h : w.ownsRow B e size v n xs) (hb : ∀ k, v.ownBlock = some k → w'.heap[k]? = w.heap[k]?) : w'.ownsRow B e size v n xs := by
  refine ⟨h.1, ?_⟩
  rcases h.2 with h0 | ⟨g, cap, cur, hv, hB, hg, rest⟩
  · exact .inl h0
  · exact .inr ⟨g, cap, cur, hv, hB, by rw [hb g (by rw [hv]; rfl)]; exact hg, rest⟩
theorem ownN_base {w : World} {B B' : Nat} {e : TypeId} {size n : Nat} {v : Value} {xs : List Value} (h : w.ownsRow B e size v n xs) (hb : ∀ k, v.ownBlock = some k → B' ≤ k) : w.ownsRow B' e size v n xs := by
  refine ⟨h.1, ?_⟩
  rcases h.2 with h0 | ⟨g, cap, cur, hv, hB, hg, rest⟩
  · exact .inl h0
  · exact .inr ⟨g, cap, cur, hv, hb g (by rw [hv]; rfl), hg, rest⟩


theorem Tryz.pairSl : SlN Tryz.prog 32 93 (.agg #[.string ⟨#[]⟩, .string ⟨#[]⟩]) 2 32 := ⟨Tryz.underlying32, by kernel_rfl, rfl, by decide⟩
theorem Tryz.strSl : SlN Tryz.prog 23 9 (.string ⟨#[]⟩) 1 16 := ⟨Tryz.underlying23, by kernel_rfl, rfl, by decide⟩

/-- The cells of pairs. -/
def pairC (l : List Pr) : List Value := l.flatMap fun x => [.string x.1, .string x.2]
theorem pairC_append (a b : List Pr) : pairC (a ++ b) = pairC a ++ pairC b := List.flatMap_append ..
theorem pairC_length (l : List Pr) : (pairC l).length = l.length * 2 := by
  induction l with
  | nil => rfl
  | cons x l ih => simp only [pairC, List.flatMap_cons, List.length_append, List.length_cons, List.length_nil] at ih ⊢; omega
theorem pairC_get : ∀ (l : List Pr) (i : Nat) (x : Pr), l[i]? = some x → (pairC l)[i * 2]? = some (.string x.1) ∧ (pairC l)[i * 2 + 1]? = some (.string x.2)
  | [], _, _, h => by cases h
  | y :: l, 0, x, h => by
    obtain rfl : y = x := by simpa using h
    exact ⟨rfl, rfl⟩
  | y :: l, i + 1, x, h => by
    have := pairC_get l i x (by simpa using h)
    have e : (pairC (y :: l)) = .string y.1 :: .string y.2 :: pairC l := rfl
    rw [e, show (i + 1) * 2 = i * 2 + 1 + 1 by omega]
    exact this
theorem pairC_one (l : List Pr) : ∀ u ∈ pairC l, u.oneCell' = true := by
  intro u hu
  simp only [pairC, List.mem_flatMap, List.mem_cons, List.not_mem_nil, or_false] at hu
  obtain ⟨x, _, rfl | rfl⟩ := hu <;> rfl

/-- The slice value v owns these pairs; no block below B is its own. -/
def POwn (w : World) (B : Nat) (v : Value) (l : List Pr) : Prop := w.ownsRow B 93 2 v l.length (pairC l)
theorem POwn.nil (w : World) (B : Nat) : POwn w B (.slice none 0 0) [] := World.ownsRow_nil _ _ _ _
theorem POwn.alloc {w : World} {B : Nat} {v : Value} {l : List Pr} (h : POwn w B v l) (o : Obj) : POwn (w.alloc o) B v l := World.ownsRow.alloc h o
theorem POwn.drewN {w : World} {B : Nat} {v : Value} {l : List Pr} (h : POwn w B v l) (n : Nat) : POwn (w.drewN n) B v l := h
theorem POwn.low {w : World} {B : Nat} {v : Value} {l : List Pr} (h : POwn w B v l) : ∀ k, v.ownBlock = some k → B ≤ k := ownN_low h
theorem POwn.later {w w' : World} {B : Nat} {v : Value} {l : List Pr} (h : POwn w B v l) (hb : Below w.heap.size w w') : POwn w' B v l := ownN_mv h (fun k hk => hb.block k (World.ownsRow.lt h k hk).2)
theorem POwn.shape {w : World} {B : Nat} {v : Value} {l : List Pr} (h : POwn w B v l) : ∃ a c, v = .slice a l.length c ∧ l.length ≤ c := by
  rcases h.2 with ⟨h1, h2⟩ | ⟨g, cap, cur, hv, _, _, hn, _⟩
  · exact ⟨none, 0, by rw [h1, h2], by omega⟩
  · exact ⟨_, _, hv, hn⟩

/-- The slice's elements are these pairs. -/
def PSl (w : World) (v : Value) (l : List Pr) : Prop := ∃ a c, v = .slice a l.length c ∧ l.length ≤ c ∧ (l ≠ [] → ∃ g o, a = some ⟨g, o, none⟩ ∧ g < w.heap.size ∧
  ∀ i x, l[i]? = some x → w.cell? ⟨g, o + i * 2, none⟩ = some (.string x.1) ∧ w.cell? ⟨g, o + i * 2 + 1, none⟩ = some (.string x.2))
theorem PSl.later {w w' : World} {v : Value} {l : List Pr} (h : PSl w v l) (hb : Below w.heap.size w w') : PSl w' v l := by
  obtain ⟨a, c, h1, h2, h3⟩ := h
  refine ⟨a, c, h1, h2, fun hne => ?_⟩
  obtain ⟨g, o, ha, hg, hc⟩ := h3 hne
  refine ⟨g, o, ha, Nat.lt_of_lt_of_le hg hb.size, fun i x hx => ?_⟩
  have := hc i x hx
  exact ⟨cellB hb this.1, cellB hb this.2⟩
theorem PSl.drewN {w : World} {v : Value} {l : List Pr} (h : PSl w v l) (n : Nat) : PSl (w.drewN n) v l := h
theorem POwn.sl {w : World} {B : Nat} {v : Value} {l : List Pr} (h : POwn w B v l) : PSl w v l := by
  obtain ⟨a, c, hv, hc⟩ := POwn.shape h
  refine ⟨a, c, hv, hc, fun hne => ?_⟩
  rcases h.2 with ⟨h1, h2⟩ | ⟨g, cap, cur, he, hB, hg, hn, hm, hs, ht⟩
  · exact absurd (List.eq_nil_of_length_eq_zero h2) hne
  · rw [hv] at he
    injection he with h5 h6 h7
    refine ⟨g, 0, h5, block_lt hg, fun i x hx => ?_⟩
    have hcell : ∀ (j : Nat) (u : Value), (pairC l)[j]? = some u → w.cell? ⟨g, 0 + j, none⟩ = some u := fun j u hu => by
      have hj : j < (pairC l).length := (List.getElem?_eq_some_iff.1 hu).1
      rw [← ht, List.getElem?_take] at hu
      split at hu
      · unfold World.cell?
        rw [hg]
        simpa using hu
      · cases hu
    obtain ⟨g1, g2⟩ := pairC_get l i x hx
    exact ⟨hcell _ _ g1, hcell _ _ g2⟩
theorem POwn.base {w : World} {B B' : Nat} {v : Value} {l : List Pr} (h : POwn w B v l) (hB : B' ≤ B) : POwn w B' v l := ownN_base h (fun k hk => Nat.le_trans hB (POwn.low h k hk))

/-- append of one pair, in a plain region. -/
theorem list_app1 {ops : Array Oper} {rest : List Oper} {o : Oper} {a : Act} {w : World} {Q : Exit → Act → World → Prop} (hgd : o.guard = none) (s x : Operand)
    (ho : o.op = .call { callee := .builtin .append, args := #[s, x], argTypes := #[32, 32] })
    (B : Nat) (v : Value) (l : List Pr) (hs : a.eval s = v) (hown : POwn w B v l)
    (g0 c : Nat) (p : Pr) (hx : a.eval x = .slice (some ⟨g0, 0, none⟩) 1 c) (hblk : w.heap[g0]? = some (.cells #[.string p.1, .string p.2] 93 (0, 0)))
    (hl : l.length + 1 ≤ 100000) (hbase : B ≤ w.heap.size)
    (h : ∀ v' w', POwn w' B v' (l ++ [p]) → Grew w v w' v' → wpList Tryz.prog ops Q rest (a.put o.dst v') w') :
    wpList Tryz.prog ops Q (o :: rest) a w := by
  refine list_appN Tryz.pairSl hgd s x ho B v l.length (pairC l) hs hown g0 1 c [.string p.1, .string p.2] hx hblk rfl (by simp [Value.oneCell']) (by omega) (by unfold maxLen; omega) (by omega) hbase ?_
  intro g cap w' h1 h2
  refine h _ w' ?_ h2
  unfold POwn
  rw [List.length_append, pairC_append]
  exact h1
theorem step_app1 {ops : Array Oper} {o : Oper} {a : Act} {w : World} {K : Act → World → Prop} {Q : Exit → Act → World → Prop} {E : Prop} (hgd : o.guard = none) (s x : Operand)
    (ho : o.op = .call { callee := .builtin .append, args := #[s, x], argTypes := #[32, 32] })
    (B : Nat) (v : Value) (l : List Pr) (hs : a.eval s = v) (hown : POwn w B v l)
    (g0 c : Nat) (p : Pr) (hx : a.eval x = .slice (some ⟨g0, 0, none⟩) 1 c) (hblk : w.heap[g0]? = some (.cells #[.string p.1, .string p.2] 93 (0, 0)))
    (hl : l.length + 1 ≤ 100000) (hbase : B ≤ w.heap.size)
    (h : ∀ v' w', POwn w' B v' (l ++ [p]) → Grew w v w' v' → K (a.put o.dst v') w') :
    if Region.wanted o (yielded ops a.tmps) = true then Oper.wp Tryz.prog o a w K Q else E := by
  refine step_appN Tryz.pairSl hgd s x ho B v l.length (pairC l) hs hown g0 1 c [.string p.1, .string p.2] hx hblk rfl (by simp [Value.oneCell']) (by omega) (by unfold maxLen; omega) (by omega) hbase ?_
  intro g cap w' h1 h2
  refine h _ w' ?_ h2
  unfold POwn
  rw [List.length_append, pairC_append]
  exact h1
end Go.Proofs.YtmpjpaomgifpcaaGreatDoor
namespace Go.Proofs.YtmpjpaomgifpcaaGreatDoor
open Go.RowKit

/-- Pairs are answered in a slice that is newer than w0. -/
def GRes (w0 : World) (l : List Pr) (e : Ending) (w' : World) : Prop := ∃ v, e = .returned v ∧ POwn w' w0.heap.size v l ∧ Below w0.heap.size w0 w'

set_option maxRecDepth 30000 in
set_option maxHeartbeats 2000000 in
theorem gathered_prog (w0 : World) (t : Tr) : ∀ (b : Nat) (w : World) (v : Value) (l : List Pr), Rep w0 t b → Below w0.heap.size w0 w → POwn w w0.heap.size v l → l.length + t.pairs.length ≤ 100000 →
    Calls Tryz.prog 88 #[v, pp b] w (GRes w0 (l ++ t.pairs)) := by
  induction t with
  | leaf k' v' =>
    intro b w v l hr hb hown hl
    obtain ⟨d0, d2, d3, _⟩ := NodeAt.cells (show NodeAt w0 b true k' v' 0 _ _ _ from hr)
    have c0 := cellB hb d0
    have c2 := cellB hb d2
    have c3 := cellB hb d3
    have hl1 : l.length + 1 ≤ 100000 := hl
    have HB := Lib.hid hb
    have HO := Lib.hid hown
    have hsz := hb.size
    clear hb hown hr d0 d2 d3 hl
    unfold pp
    go_enter Tryz.func88, Tryz.ntmps88
    go_wp2_with fail
    have hszA : w0.heap.size ≤ (w.alloc (.cells #[.string k', .string v'] 93)).drew.heap.size := by show w0.heap.size ≤ (w.alloc (.cells #[.string k', .string v'] 93)).heap.size; simp; omega
    go_region_law (refine step_app1 rfl _ _ (by rfl) w0.heap.size v l (by rfl) (show POwn (w.alloc (.cells #[.string k', .string v'] 93)).drew w0.heap.size v l from POwn.alloc HO.out _) w.heap.size 1 (k', v') (by rfl) (heap_at_alloc w _) hl1 (hszA) ?_; intro v2 w2 hown2 hgr2)
    all_goals (
      go_wp2
      go_ret
      exact ⟨_, rfl, hown2, ((HB.out.trans ((Below.refl _ w).alloc hsz _)).trans ((Below.refl _ _).drew)).trans (hgr2.below hszA (POwn.low HO.out))⟩)
  | fork p k' z o iz io =>
    intro b w v l hr hb hown hl
    obtain ⟨bz, bo, hn, hrz, hro⟩ := hr
    obtain ⟨d0, _, _, _, d5, d6, _⟩ := NodeAt.cells hn
    have c0 := cellB hb d0
    have c5 := cellB hb d5
    have c6 := cellB hb d6
    have hl1 : l.length + z.pairs.length ≤ 100000 := by simp only [Tr.pairs, List.length_append] at hl; omega
    have hl2 : (l ++ z.pairs).length + o.pairs.length ≤ 100000 := by simp only [Tr.pairs, List.length_append] at hl ⊢; omega
    have HB := Lib.hid hb
    have HO := Lib.hid hown
    have HBD : Hid (Below w0.heap.size w0 w.drew) := Lib.hid (hb.trans (Below.refl _ w).drew)
    have HOD : Hid (POwn w.drew w0.heap.size v l) := Lib.hid (POwn.drewN hown 1)
    have D5 := Lib.hid d5
    have D6 := Lib.hid d6
    have HZ := Lib.hid (fun (W : World) (u : Value) (h1 : Below w0.heap.size w0 W) (h2 : POwn W w0.heap.size u l) => iz bz W u l hrz h1 h2 hl1)
    have HOO := Lib.hid (fun (W : World) (u : Value) (h1 : Below w0.heap.size w0 W) (h2 : POwn W w0.heap.size u (l ++ z.pairs)) => io bo W u (l ++ z.pairs) hro h1 h2 hl2)
    clear hb hown hn hrz hro d0 d5 d6 hl hl1 hl2 iz io
    unfold pp at *
    go_enter Tryz.func88, Tryz.ntmps88
    go_wp2_with fail
    go_region_held3 (fun w' => w'.cell? ⟨b, 5, none⟩ = some (.pointer (some ⟨bz, 0, none⟩)) ∧ w'.cell? ⟨b, 6, none⟩ = some (.pointer (some ⟨bo, 0, none⟩)))
      (first | exact ⟨c5, c6⟩ | exact hcs5 | exact hcs4)
      (first
        | (go_at_call 88; (with_reducible refine (HZ.out _ v HBD.out HOD.out).mono ?_); rintro e w4 ⟨v4, rfl, hown4, hb4⟩; have hcs4 := And.intro (cellB hb4 D5.out) (cellB hb4 D6.out); have HB4 := Lib.hid hb4; have HO4 := Lib.hid hown4)
        | (go_at_call 88; (with_reducible refine (HOO.out _ v4 HB4.out HO4.out).mono ?_); rintro e w5 ⟨v5, rfl, hown5, hb5⟩; have hcs5 := And.intro (cellB hb5 D5.out) (cellB hb5 D6.out); have HB5 := Lib.hid hb5; have HO5 := Lib.hid hown5))
    go_wp2
    go_ret
    refine ⟨_, rfl, ?_, HB5.out⟩
    rw [Tr.pairs, ← List.append_assoc]; exact HO5.out
end Go.Proofs.YtmpjpaomgifpcaaGreatDoor
namespace Go.Proofs.YtmpjpaomgifpcaaGreatDoor
open Go.RowKit

theorem NodeAt.cells8 {w : World} {b : Nat} {lf : Bool} {k v h : ByteArray} {p : Nat} {z o : Value} (hn : NodeAt w b lf k v p z o h) :
    w.cell? ⟨b, 0, none⟩ = some (.bool lf) ∧ w.cell? ⟨b, 1, none⟩ = some (.bool false) ∧ w.cell? ⟨b, 2, none⟩ = some (.string k) ∧ w.cell? ⟨b, 3, none⟩ = some (.string v) ∧ w.cell? ⟨b, 4, none⟩ = some (.int .i64 p) ∧ w.cell? ⟨b, 5, none⟩ = some z ∧ w.cell? ⟨b, 6, none⟩ = some o ∧ w.cell? ⟨b, 7, none⟩ = some (.string h) := by
  unfold NodeAt nodeC at hn
  simp [World.cell?, hn]

/-- A tree in blocks from B on. -/
def RepA (w : World) (B : Nat) : Tr → Nat → Prop
  | .leaf k v, b => B ≤ b ∧ NodeAt w b true k v 0 (.pointer none) (.pointer none) (leafH k v)
  | .fork p k z o, b => B ≤ b ∧ ∃ bz bo, NodeAt w b false k ⟨#[]⟩ p (pp bz) (pp bo) (forkH p k z.hash o.hash) ∧ RepA w B z bz ∧ RepA w B o bo
theorem RepA.rep {w : World} {B : Nat} : ∀ {t : Tr} {b : Nat}, RepA w B t b → Rep w t b
  | .leaf _ _, _, h => h.2
  | .fork _ _ _ _, _, ⟨_, bz, bo, h, hz, ho⟩ => ⟨bz, bo, h, RepA.rep hz, RepA.rep ho⟩
theorem RepA.keep {w w' : World} {B B' : Nat} (hB : B' ≤ B) (hk : ∀ i, B ≤ i → i < w.heap.size → w'.heap[i]? = w.heap[i]?) : ∀ {t : Tr} {b : Nat}, RepA w B t b → RepA w' B' t b
  | .leaf _ _, b, h => ⟨Nat.le_trans hB h.1, by unfold NodeAt; rw [hk b h.1 (NodeAt.lt h.2)]; exact h.2⟩
  | .fork _ _ _ _, b, ⟨h0, bz, bo, h, hz, ho⟩ => ⟨Nat.le_trans hB h0, bz, bo, by unfold NodeAt; rw [hk b h0 (NodeAt.lt h)]; exact h, RepA.keep hB hk hz, RepA.keep hB hk ho⟩
def TrResA (w : World) (t : Tr) (e : Ending) (w' : World) : Prop := ∃ d, e = .returned (pp d) ∧ RepA w' w.heap.size t d ∧ Below w.heap.size w w'

theorem setCell_other (w : World) (g i b : Nat) (v : Value) (h : b ≠ g) : (w.setCell ⟨g, i, none⟩ v).heap[b]? = w.heap[b]? := Below.heap_setCell _ _ _ _ h
theorem size_set (w : World) (g i : Nat) (v : Value) : (w.setCell ⟨g, i, none⟩ v).heap.size = w.heap.size := by simp [World.setCell]
theorem node_set {w : World} {b : Nat} {lf : Bool} {k v h : ByteArray} {p : Nat} {z o : Value} (z' o' : Value) (hn : NodeAt w b lf k v p z o h) :
    NodeAt ((w.setCell ⟨b, 5, none⟩ z').setCell ⟨b, 6, none⟩ o') b lf k v p z' o' h := by
  have hlt := NodeAt.lt hn
  unfold NodeAt nodeC at *
  have h1 := Array.getElem?_eq_getElem hlt
  rw [hn] at h1
  injection h1 with h1
  simp [World.setCell, Array.getElem?_modify, hn]

theorem node_frozen {w : World} {b i : Nat} {lf : Bool} {k v h : ByteArray} {p : Nat} {z o : Value} (hn : NodeAt w b lf k v p z o h) : w.frozen? ⟨b, i, none⟩ = false := by
  unfold NodeAt at hn; simp [World.frozen?, hn]
theorem cellS {W : World} {g i b o : Nat} {x v : Value} (hne : b ≠ g) (h : W.cell? ⟨b, o, none⟩ = some v) : (W.setCell ⟨g, i, none⟩ x).cell? ⟨b, o, none⟩ = some v := by
  rw [← h]; exact World.cell?_of_block (w := W) (setCell_other W g i b x hne)
theorem copied_nil (w : World) : Calls Tryz.prog 64 #[.pointer none] w fun e w' => e = .returned (.pointer none) ∧ w = w' := by
  go_enter Tryz.func64, Tryz.ntmps64
  go_wp2
  go_ret
  exact ⟨rfl, rfl⟩

set_option maxRecDepth 30000 in
set_option maxHeartbeats 2000000 in
theorem copied_prog (t : Tr) : ∀ (b : Nat) (w : World), Rep w t b →
    Calls Tryz.prog 64 #[pp b] w (TrResA w t) := by
  induction t with
  | leaf k' v' =>
    intro b w hr
    obtain ⟨c0, c1, c2, c3, c4, c5, c6, c7⟩ := NodeAt.cells8 (show NodeAt w b true k' v' 0 _ _ _ from hr)
    have hlt := NodeAt.lt (show NodeAt w b true k' v' 0 _ _ _ from hr)
    have HN := Lib.hid copied_nil
    obtain ⟨W, hW⟩ : ∃ W, W = w.alloc (.cells (nodeC true k' v' 0 (.pointer none) (.pointer none) (leafH k' v')) 91) := ⟨_, rfl⟩
    have hb : Below w.heap.size w W := by rw [hW]; exact (Below.refl _ w).alloc (Nat.le_refl _) _
    have hn : NodeAt W w.heap.size true k' v' 0 (.pointer none) (.pointer none) (leafH k' v') := by rw [hW]; exact node_new w true k' v' 0 _ _ _
    obtain ⟨d0, d1, d2, d3, d4, d5, d6, d7⟩ := NodeAt.cells8 hn
    have e5 := cellB hb c5
    have e6 := cellB hb c6
    have HB := Lib.hid hb
    have HNN := Lib.hid hn
    have HW := Lib.hid hW
    have f5 := node_frozen (i := 5) hn
    have f6 := node_frozen (i := 6) hn
    have hne : b ≠ w.heap.size := by omega
    clear hr hb hn hW d0 d1 d2 d3 d4 d7 hlt
    unfold pp
    go_enter Tryz.func64, Tryz.ntmps64
    go_wp2_with fail
    rw [show w.alloc (Obj.cells #[Value.bool true, Value.bool false, Value.string k', Value.string v', Value.int IntKind.i64 0, Value.pointer none, Value.pointer none, Value.string (leafH k' v')] 91) = W from HW.out.symm]
    go_region_held3 (fun w' => w'.cell? ⟨b, 5, none⟩ = some (.pointer none) ∧ w'.cell? ⟨b, 6, none⟩ = some (.pointer none))
      (first | exact ⟨e5, e6⟩ | exact ⟨cellS hne e5, cellS hne e6⟩ | exact ⟨cellS hne (cellS hne e5), cellS hne (cellS hne e6)⟩)
      ((go_at_call 64; refine (HN.out _).mono ?_; rintro e w4 ⟨rfl, rfl⟩))
    go_wp2
    go_ret
    refine ⟨_, rfl, ⟨Nat.le_refl _, node_set _ _ HNN.out⟩, ((HB.out.setCell (p := ⟨w.heap.size, 5, none⟩) (Nat.le_refl _) _).setCell (p := ⟨w.heap.size, 6, none⟩) (Nat.le_refl _) _).drew⟩
  | fork p k' z o iz io =>
    intro b w hr
    obtain ⟨bz, bo, hn0, hrz, hro⟩ := hr
    obtain ⟨c0, c1, c2, c3, c4, c5, c6, c7⟩ := NodeAt.cells8 hn0
    have hlt := NodeAt.lt hn0
    have HRZ := Lib.hid hrz
    have HRO := Lib.hid hro
    obtain ⟨W, hW⟩ : ∃ W, W = w.alloc (.cells (nodeC false k' ⟨#[]⟩ p (pp bz) (pp bo) (forkH p k' z.hash o.hash)) 91) := ⟨_, rfl⟩
    have hb : Below w.heap.size w W := by rw [hW]; exact (Below.refl _ w).alloc (Nat.le_refl _) _
    have hn : NodeAt W w.heap.size false k' ⟨#[]⟩ p (pp bz) (pp bo) (forkH p k' z.hash o.hash) := by rw [hW]; exact node_new w false k' ⟨#[]⟩ p _ _ _
    have hWs : w.heap.size < W.heap.size := NodeAt.lt hn
    have e5 := cellB hb c5
    have e6 := cellB hb c6
    have HB := Lib.hid hb
    have HNN := Lib.hid hn
    have HW := Lib.hid hW
    have HIZ := Lib.hid (fun (V : World) (h1 : Below w.heap.size w V) => iz bz V (HRZ.out.later h1))
    have HIO := Lib.hid (fun (V : World) (h1 : Below w.heap.size w V) => io bo V (HRO.out.later h1))
    have hne : b ≠ w.heap.size := by omega
    have HBD : Hid (Below w.heap.size w W.drew) := Lib.hid (hb.trans (Below.refl _ W).drew)
    clear hrz hro hb hn hW hlt hn0 iz io
    unfold pp at *
    go_enter Tryz.func64, Tryz.ntmps64
    go_wp2_with fail
    rw [show w.alloc (Obj.cells #[Value.bool false, Value.bool false, Value.string k', Value.string ⟨#[]⟩, Value.int IntKind.i64 p, Value.pointer (some ⟨bz, 0, none⟩), Value.pointer (some ⟨bo, 0, none⟩), Value.string (forkH p k' z.hash o.hash)] 91) = W from HW.out.symm]
    go_region_held3 (fun w' => w'.cell? ⟨b, 5, none⟩ = some (.pointer (some ⟨bz, 0, none⟩)) ∧ w'.cell? ⟨b, 6, none⟩ = some (.pointer (some ⟨bo, 0, none⟩)))
      (first | exact ⟨e5, e6⟩ | exact ⟨cellS hne hcs5.1, cellS hne hcs5.2⟩ | exact ⟨cellS hne (cellS hne hcs5.1), cellS hne (cellS hne hcs5.2)⟩ | exact hcs5 | exact hcs4)
      (first
        | (go_at_call 64; (with_reducible refine (HIZ.out _ HBD.out).mono ?_); rintro e w4 ⟨d4, rfl, hd4, hb4⟩; unfold pp; have hcs4 := And.intro (cellD hb4 e5) (cellD hb4 e6); have HB4 := Lib.hid hb4; have HD4 := Lib.hid hd4; have HBw4 : Hid (Below w.heap.size w w4) := Lib.hid (HBD.out.trans (hb4.mono HBD.out.size)); have hn4 := Lib.hid (NodeAt.later HNN.out ((Below.refl _ W).drew.trans hb4)); have f5 := node_frozen (i := 5) hn4.out; have f6 := node_frozen (i := 6) hn4.out; obtain ⟨_, _, _, _, _, d5, d6, _⟩ := NodeAt.cells8 hn4.out)
        | (go_at_call 64; (with_reducible refine (HIO.out _ HBw4.out).mono ?_); rintro e w5 ⟨d5', rfl, hd5, hb5⟩; unfold pp; have hcs5 := And.intro (cellB hb5 hcs4.1) (cellB hb5 hcs4.2); have HB5 := Lib.hid hb5; have HD5 := Lib.hid hd5; have hn5 := Lib.hid (NodeAt.later hn4.out hb5); have g5 := node_frozen (i := 5) hn5.out; have g6 := node_frozen (i := 6) hn5.out; obtain ⟨_, _, _, _, _, q5, q6, _⟩ := NodeAt.cells8 hn5.out))
    go_wp2
    go_ret
    have hs4 := HB4.out.size
    have hs5 := HB5.out.size
    have hWd : W.drew.heap.size = W.heap.size := rfl
    have hkeep : ∀ i, W.heap.size ≤ i → ((w5.setCell ⟨w.heap.size, 5, none⟩ (.pointer (some ⟨d4, 0, none⟩))).setCell ⟨w.heap.size, 6, none⟩ (.pointer (some ⟨d5', 0, none⟩))).heap[i]? = w5.heap[i]? := fun i hi => by
      rw [setCell_other _ _ _ _ _ (by omega), setCell_other _ _ _ _ _ (by omega)]
    refine ⟨_, rfl, ⟨Nat.le_refl _, d4, d5', node_set _ _ hn5.out, ?_, ?_⟩, (((HBw4.out.trans (HB5.out.mono HBw4.out.size)).setCell (p := ⟨w.heap.size, 5, none⟩) (Nat.le_refl _) _).setCell (p := ⟨w.heap.size, 6, none⟩) (Nat.le_refl _) _)⟩
    · refine RepA.keep (by rw [hWd]; omega) (fun i h1 h2 => ?_) HD4.out
      rw [hkeep i h1, HB5.out.block i h2]
    · refine RepA.keep (by omega) (fun i h1 h2 => ?_) HD5.out
      exact hkeep i (by rw [hWd] at hs4; omega)
end Go.Proofs.YtmpjpaomgifpcaaGreatDoor
