/- trie's without. -/
import Derived.Test.YtohcackebmmikaaDoorIMake
namespace Go.Proofs.YtohcackebmmikaaDoor
open Go.RowKit

/-- A tree, or none, in memory. -/
def RepM (w : World) : Option Tr → Value → Prop
  | none, v => v = .pointer none
  | some t, v => ∃ b, v = pp b ∧ Rep w t b
theorem RepM.later {w w' : World} (hb : Below w.heap.size w w') : ∀ {m : Option Tr} {v : Value}, RepM w m v → RepM w' m v
  | none, _, h => h
  | some _, _, ⟨b, h1, h2⟩ => ⟨b, h1, h2.later hb⟩
def outO (p : Nat) (k : ByteArray) (z : Tr) : Option Tr → Option Tr
  | none => some z
  | some o' => some (.fork p k z o')
def outZ (p : Nat) (k : ByteArray) (o : Tr) : Option Tr → Option Tr
  | none => some o
  | some z' => some (.fork p k z' o)
theorem without_eq (l : List UInt8) (p : Nat) (k : ByteArray) (z o : Tr) : withoutT l (.fork p k z o) = if bitL l p then outO p k z (withoutT l o) else outZ p k o (withoutT l z) := by
  rw [withoutT]
  split
  · cases withoutT l o <;> rfl
  · cases withoutT l z <;> rfl
def MRes (w : World) (m : Option Tr) (e : Ending) (w' : World) : Prop := ∃ v, e = .returned v ∧ RepM w' m v ∧ Below w.heap.size w w'

set_option maxRecDepth 30000 in
set_option maxHeartbeats 2000000 in
theorem without_prog (k : ByteArray) (hk : k.size ≤ 1000) (t : Tr) : ∀ (b : Nat) (w : World), t.sz → Rep w t b → Start w →
    Calls Tryd.prog 45 #[pp b, .string k] w (MRes w (withoutT (ks k) t)) := by
  induction t with
  | leaf k' v' =>
    intro b w ht hb hst
    obtain ⟨c0, c2, _, c4, _⟩ := NodeAt.cells (show NodeAt w b true k' v' 0 _ _ _ from hb)
    clear hst hb ht
    unfold pp withoutT
    go_enter Tryd.func45, Tryd.ntmps45
    go_wp2
    go_ret
    exact ⟨_, rfl, rfl, Below.refl _ _⟩
  | fork p k' z o iz io =>
    intro b w ht hb hst
    obtain ⟨bz, bo, hn, hrz, hro⟩ := hb
    obtain ⟨c0, c2, _, c4, c5, c6, _⟩ := NodeAt.cells hn
    have HS := Lib.hid hst
    have HRZ := Lib.hid hrz
    have HRO := Lib.hid hro
    have HIZ := Lib.hid (fun (W : World) (h1 : Below w.heap.size w W) => iz bz W ht.2.2.1 (HRZ.out.later h1) (HS.out.later h1))
    have HIO := Lib.hid (fun (W : World) (h1 : Below w.heap.size w W) => io bo W ht.2.2.2 (HRO.out.later h1) (HS.out.later h1))
    have HF := Lib.hid (fun (z' o' : Tr) (x y : Nat) (W : World) (h1 : Below w.heap.size w W) (h2 : Rep W z' x) (h3 : Rep W o' y) => fork_prog p k' z' o' x y W ht.1 ht.2.1 h2 h3 (HS.out.later h1))
    have hbit := Lib.hid (fun W => bit_prog k p W ht.1 (by omega))
    obtain ⟨r, hr⟩ : ∃ r, r = bitL (ks k) p := ⟨_, rfl⟩
    rw [without_eq]
    obtain ⟨mz, hmz⟩ : ∃ m, m = withoutT (ks k) z := ⟨_, rfl⟩
    obtain ⟨mo, hmo⟩ : ∃ m, m = withoutT (ks k) o := ⟨_, rfl⟩
    rw [← hmz] at HIZ ⊢
    rw [← hmo] at HIO ⊢
    clear hmz hmo
    rw [← hr] at hbit ⊢
    have hr1 := bitN_zero r
    clear hst hn hrz hro iz io ht hr
    unfold pp at *
    cases r with
    | true =>
      rw [if_pos rfl]
      cases mo with
      | none =>
        go_enter Tryd.func45, Tryd.ntmps45
        go_wp2_with fail
        go_quiet (fail)
        go_wp2_with fail
        refine (hbit.out _).mono ?_
        rintro e w1 ⟨rfl, rfl⟩
        go_wp2_with fail
        refine (HIO.out _ (drewN_below w _)).mono ?_
        rintro e w3 ⟨v3, rfl, hv3, hb3⟩
        have hb3' := Lib.hid (belowN hb3)
        have hv4 : v3 = .pointer none := hv3
        subst hv4
        clear hv3
        go_wp2
        go_ret
        exact ⟨_, rfl, ⟨bz, rfl, HRZ.out.later hb3'.out⟩, hb3'.out⟩
      | some o' =>
        go_enter Tryd.func45, Tryd.ntmps45
        go_wp2_with fail
        go_quiet (fail)
        go_wp2_with fail
        refine (hbit.out _).mono ?_
        rintro e w1 ⟨rfl, rfl⟩
        go_wp2_with fail
        refine (HIO.out _ (drewN_below w _)).mono ?_
        rintro e w3 ⟨v3, rfl, hv3, hb3⟩
        have hb3' := Lib.hid (belowN hb3)
        obtain ⟨d, hd, hd2⟩ := hv3
        unfold pp at hd
        subst hd
        have HD := Lib.hid hd2
        have e2 := cellN hb3 c2
        have e4 := cellN hb3 c4
        clear hd2 c0 c2 c4 c5 c6
        go_wp2_with fail
        go_region_held3 (fun w' => w'.cell? ⟨b, 2, none⟩ = some (.string k') ∧ w'.cell? ⟨b, 4, none⟩ = some (.int .i64 p))
          (first | exact ⟨e2, e4⟩ | exact hcs5)
          ((go_at_call 54; refine (HF.out z o' bz d _ (hb3'.out.trans ((Below.refl _ w3).drew.mono hb3'.out.size)) ((HRZ.out.later hb3'.out).later (Below.refl _ w3).drew) (HD.out.later (Below.refl _ w3).drew)).mono ?_; rintro e w5 ⟨d5, rfl, hd5, hb5⟩; have hcs5 := And.intro (cellD hb5 e2) (cellD hb5 e4); have hbw5 := Lib.hid (hb3'.out.trans (((Below.refl _ w3).drew.trans hb5).mono hb3'.out.size))))
        go_wp2
        go_ret
        exact ⟨_, rfl, ⟨d5, rfl, hd5⟩, hbw5.out⟩
    | false =>
      rw [if_neg (by simp)]
      cases mz with
      | none =>
        go_enter Tryd.func45, Tryd.ntmps45
        go_wp2_with fail
        go_quiet (fail)
        go_wp2_with fail
        refine (hbit.out _).mono ?_
        rintro e w1 ⟨rfl, rfl⟩
        go_wp2_with fail
        refine (HIZ.out _ (drewN_below w _)).mono ?_
        rintro e w3 ⟨v3, rfl, hv3, hb3⟩
        have hb3' := Lib.hid (belowN hb3)
        have hv4 : v3 = .pointer none := hv3
        subst hv4
        clear hv3
        go_wp2
        go_ret
        exact ⟨_, rfl, ⟨bo, rfl, HRO.out.later hb3'.out⟩, hb3'.out⟩
      | some z' =>
        go_enter Tryd.func45, Tryd.ntmps45
        go_wp2_with fail
        go_quiet (fail)
        go_wp2_with fail
        refine (hbit.out _).mono ?_
        rintro e w1 ⟨rfl, rfl⟩
        go_wp2_with fail
        refine (HIZ.out _ (drewN_below w _)).mono ?_
        rintro e w3 ⟨v3, rfl, hv3, hb3⟩
        have hb3' := Lib.hid (belowN hb3)
        obtain ⟨d, hd, hd2⟩ := hv3
        unfold pp at hd
        subst hd
        have HD := Lib.hid hd2
        have e2 := cellN hb3 c2
        have e4 := cellN hb3 c4
        clear hd2 c0 c2 c4 c5 c6
        go_wp2_with fail
        go_region_held3 (fun w' => w'.cell? ⟨b, 2, none⟩ = some (.string k') ∧ w'.cell? ⟨b, 4, none⟩ = some (.int .i64 p))
          (first | exact ⟨e2, e4⟩ | exact hcs5)
          ((go_at_call 54; refine (HF.out z' o d bo _ (hb3'.out.trans ((Below.refl _ w3).drew.mono hb3'.out.size)) (HD.out.later (Below.refl _ w3).drew) ((HRO.out.later hb3'.out).later (Below.refl _ w3).drew)).mono ?_; rintro e w5 ⟨d5, rfl, hd5, hb5⟩; have hcs5 := And.intro (cellD hb5 e2) (cellD hb5 e4); have hbw5 := Lib.hid (hb3'.out.trans (((Below.refl _ w3).drew.trans hb5).mono hb3'.out.size))))
        go_wp2
        go_ret
        exact ⟨_, rfl, ⟨d5, rfl, hd5⟩, hbw5.out⟩
end Go.Proofs.YtohcackebmmikaaDoor
