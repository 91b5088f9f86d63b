/- part's without. -/
import Derived.Test.YtmpjpaomgifpcaaGreatDoorPWith
namespace Go.Proofs.YtmpjpaomgifpcaaGreatDoor
open Go.RowKit

/-- A part's tree, or none, in memory. -/
def PRepM (w : World) : Option PT → Value → Prop
  | none, v => v = .pointer none
  | some t, v => ∃ b, v = pp b ∧ PRep w t b
theorem PRepM.later {w w' : World} (hb : Below w.heap.size w w') : ∀ {m : Option PT} {v : Value}, PRepM w m v → PRepM w' m v
  | none, _, h => h
  | some _, _, ⟨b, h1, h2⟩ => ⟨b, h1, h2.later hb⟩
def poutO (p : Nat) (k : ByteArray) (z : PT) : Option PT → Option PT
  | none => some z
  | some o' => some (.fork p k z o')
def poutZ (p : Nat) (k : ByteArray) (o : PT) : Option PT → Option PT
  | none => some o
  | some z' => some (.fork p k z' o)
theorem pwithout_eq (l : List UInt8) (p : Nat) (k : ByteArray) (z o : PT) : withoutP l (.fork p k z o) = if bitL l p then poutO p k z (withoutP l o) else poutZ p k o (withoutP l z) := by
  rw [withoutP]
  split
  · cases withoutP l o <;> rfl
  · cases withoutP l z <;> rfl
def PMRes (w : World) (m : Option PT) (e : Ending) (w' : World) : Prop := ∃ v, e = .returned v ∧ PRepM w' m v ∧ Below w.heap.size w w'

set_option maxRecDepth 30000 in
set_option maxHeartbeats 2000000 in
theorem pwithout_prog (k : ByteArray) (hk : k.size ≤ 1000) (t : PT) : ∀ (b : Nat) (w : World) (a : List Pr), t.ok → undP (ks k) 256 t = some a → a ≠ [] → PRep w t b → Start w →
    Calls Tryz.prog 87 #[pp b, .string k] w (PMRes w (withoutP (ks k) t)) := by
  induction t with
  | stub h => intro b w a _ h; cases h
  | leaf k' v' =>
    intro b w a ht _ _ hb hst
    obtain ⟨c0, c2, _, c4, _⟩ := NodeAt.cells (show NodeAt w b true k' v' 0 _ _ _ from hb)
    clear hst hb ht
    unfold pp withoutP
    go_enter Tryz.func87, Tryz.ntmps87
    go_wp2
    go_ret
    exact ⟨_, rfl, rfl, Below.refl _ _⟩
  | fork p k' z o iz io =>
    intro b w a ht hu hne hb hst
    have hth := there_side ht.1 hu hne
    obtain ⟨bz, bo, hn, hrz, hro⟩ := hb
    obtain ⟨c0, c2, _, c4, c5, c6, _⟩ := NodeAt.cells hn
    have HS := Lib.hid hst
    have HRZ := Lib.hid hrz
    have HRO := Lib.hid hro
    have HIZ := Lib.hid (fun (h : undP (ks k) 256 z = some a) (W : World) (h1 : Below w.heap.size w W) => iz bz W a ht.2.2.1 h hne (HRZ.out.later h1) (HS.out.later h1))
    have HIO := Lib.hid (fun (h : undP (ks k) 256 o = some a) (W : World) (h1 : Below w.heap.size w W) => io bo W a ht.2.2.2 h hne (HRO.out.later h1) (HS.out.later h1))
    have HF := Lib.hid (fun (z' o' : PT) (x y : Nat) (W : World) (hz1 : z'.hash.size = 32) (ho1 : o'.hash.size = 32) (h1 : Below w.heap.size w W) (h2 : PRep W z' x) (h3 : PRep W o' y) => fork_part p k' z' o' x y W ht.1 ht.2.1 (by omega) (by omega) h2 h3 (HS.out.later h1))
    have SZ := Lib.hid (PT.hash_size z ht.2.2.1)
    have SO := Lib.hid (PT.hash_size o ht.2.2.2)
    have SZ2 := Lib.hid (fun u => withoutP_size (ks k) z u ht.2.2.1)
    have SO2 := Lib.hid (fun u => withoutP_size (ks k) o u ht.2.2.2)
    have hbit := Lib.hid (fun W => bit_prog k p W ht.1 (by omega))
    have HTH := Lib.hid hth
    obtain ⟨r, hr⟩ : ∃ r, r = bitL (ks k) p := ⟨_, rfl⟩
    rw [pwithout_eq]
    obtain ⟨mz, hmz⟩ : ∃ m, m = withoutP (ks k) z := ⟨_, rfl⟩
    obtain ⟨mo, hmo⟩ : ∃ m, m = withoutP (ks k) o := ⟨_, rfl⟩
    rw [← hmz] at HIZ SZ2 ⊢
    rw [← hmo] at HIO SO2 ⊢
    clear hmz hmo
    rw [← hr] at hbit HTH ⊢
    have hr1 := bitN_zero r
    clear hst hn hrz hro iz io ht hr hu hne hth
    unfold pp at *
    cases r with
    | true =>
      rw [if_pos rfl]
      have HU : Hid (undP (ks k) 256 o = some a) := Lib.hid (by rcases HTH.out with ⟨_, h⟩ | ⟨h, _⟩; exact h; cases h)
      cases mo with
      | none =>
        go_enter Tryz.func87, Tryz.ntmps87
        go_wp2_with fail
        go_quiet (fail)
        go_wp2_with fail
        refine (hbit.out _).mono ?_
        rintro e w1 ⟨rfl, rfl⟩
        go_wp2_with fail
        refine (HIO.out HU.out _ (drewN_below w _)).mono ?_
        rintro e w3 ⟨v3, rfl, hv3, hb3⟩
        have hb3' := Lib.hid (belowN hb3)
        have hv4 : v3 = .pointer none := hv3
        subst hv4
        clear hv3
        go_wp2
        go_ret
        exact ⟨_, rfl, ⟨bz, rfl, HRZ.out.later hb3'.out⟩, hb3'.out⟩
      | some o' =>
        go_enter Tryz.func87, Tryz.ntmps87
        go_wp2_with fail
        go_quiet (fail)
        go_wp2_with fail
        refine (hbit.out _).mono ?_
        rintro e w1 ⟨rfl, rfl⟩
        go_wp2_with fail
        refine (HIO.out HU.out _ (drewN_below w _)).mono ?_
        rintro e w3 ⟨v3, rfl, hv3, hb3⟩
        have hb3' := Lib.hid (belowN hb3)
        obtain ⟨d, hd, hd2⟩ := hv3
        unfold pp at hd
        subst hd
        have HD := Lib.hid hd2
        have e2 := cellN hb3 c2
        have e4 := cellN hb3 c4
        clear hd2 c0 c2 c4 c5 c6
        go_wp2_with fail
        go_region_held3 (fun w' => w'.cell? ⟨b, 2, none⟩ = some (.string k') ∧ w'.cell? ⟨b, 4, none⟩ = some (.int .i64 p))
          (first | exact ⟨e2, e4⟩ | exact hcs5)
          ((go_at_call 81; refine (HF.out z o' bz d _ SZ.out (SO2.out o' rfl) (hb3'.out.trans ((Below.refl _ w3).drew.mono hb3'.out.size)) ((HRZ.out.later hb3'.out).later (Below.refl _ w3).drew) (HD.out.later (Below.refl _ w3).drew)).mono ?_; rintro e w5 ⟨d5, rfl, hd5, hb5⟩; have hcs5 := And.intro (cellD hb5 e2) (cellD hb5 e4); have hbw5 := Lib.hid (hb3'.out.trans (((Below.refl _ w3).drew.trans hb5).mono hb3'.out.size))))
        go_wp2
        go_ret
        exact ⟨_, rfl, ⟨d5, rfl, hd5⟩, hbw5.out⟩
    | false =>
      rw [if_neg (by simp)]
      have HU : Hid (undP (ks k) 256 z = some a) := Lib.hid (by rcases HTH.out with ⟨h, _⟩ | ⟨_, h⟩; cases h; exact h)
      cases mz with
      | none =>
        go_enter Tryz.func87, Tryz.ntmps87
        go_wp2_with fail
        go_quiet (fail)
        go_wp2_with fail
        refine (hbit.out _).mono ?_
        rintro e w1 ⟨rfl, rfl⟩
        go_wp2_with fail
        refine (HIZ.out HU.out _ (drewN_below w _)).mono ?_
        rintro e w3 ⟨v3, rfl, hv3, hb3⟩
        have hb3' := Lib.hid (belowN hb3)
        have hv4 : v3 = .pointer none := hv3
        subst hv4
        clear hv3
        go_wp2
        go_ret
        exact ⟨_, rfl, ⟨bo, rfl, HRO.out.later hb3'.out⟩, hb3'.out⟩
      | some z' =>
        go_enter Tryz.func87, Tryz.ntmps87
        go_wp2_with fail
        go_quiet (fail)
        go_wp2_with fail
        refine (hbit.out _).mono ?_
        rintro e w1 ⟨rfl, rfl⟩
        go_wp2_with fail
        refine (HIZ.out HU.out _ (drewN_below w _)).mono ?_
        rintro e w3 ⟨v3, rfl, hv3, hb3⟩
        have hb3' := Lib.hid (belowN hb3)
        obtain ⟨d, hd, hd2⟩ := hv3
        unfold pp at hd
        subst hd
        have HD := Lib.hid hd2
        have e2 := cellN hb3 c2
        have e4 := cellN hb3 c4
        clear hd2 c0 c2 c4 c5 c6
        go_wp2_with fail
        go_region_held3 (fun w' => w'.cell? ⟨b, 2, none⟩ = some (.string k') ∧ w'.cell? ⟨b, 4, none⟩ = some (.int .i64 p))
          (first | exact ⟨e2, e4⟩ | exact hcs5)
          ((go_at_call 81; refine (HF.out z' o d bo _ (SZ2.out z' rfl) SO.out (hb3'.out.trans ((Below.refl _ w3).drew.mono hb3'.out.size)) (HD.out.later (Below.refl _ w3).drew) ((HRO.out.later hb3'.out).later (Below.refl _ w3).drew)).mono ?_; rintro e w5 ⟨d5, rfl, hd5, hb5⟩; have hcs5 := And.intro (cellD hb5 e2) (cellD hb5 e4); have hbw5 := Lib.hid (hb3'.out.trans (((Below.refl _ w3).drew.trans hb5).mono hb3'.out.size))))
        go_wp2
        go_ret
        exact ⟨_, rfl, ⟨d5, rfl, hd5⟩, hbw5.out⟩
end Go.Proofs.YtmpjpaomgifpcaaGreatDoor
