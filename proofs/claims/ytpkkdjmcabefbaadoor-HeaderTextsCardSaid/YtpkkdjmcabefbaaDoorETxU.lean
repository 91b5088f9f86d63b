/- The reference: Text and Same of lists of signed headers. -/
import Derived.Test.YtpkkdjmcabefbaaDoorETxT
import Derived.Test.YtpkkdjmcabefbaaDoorER1
import Derived.BigQuiet
namespace Go.Proofs.YtpkkdjmcabefbaaDoor
open Go.RowKit
open Cod (F Nd nodeL nodeV KidsAt CellsOf Grew)
def TrR (w : World) (l : List Sg) (k : Nat) (v : Value) (wr : World) : Prop :=
  ∃ cs, wr.ownsRow w.heap.size 46 4 v k cs ∧ CellsOf wr (fun b => (w.heap.size ≤ b ∧ b < wr.heap.size) ∧ v.ownBlock ≠ some b) (sgsF (l.take k)) cs ∧ Below w.heap.size w wr
theorem TrR.below {w wr : World} {l : List Sg} {k : Nat} {v : Value} (h : TrR w l k v wr) : Below w.heap.size w wr := by obtain ⟨_, _, _, h⟩ := h; exact h
theorem TrR.step {w wr Y w' : World} {l : List Sg} {k : Nat} {x : Sg} {v v' : Value} {cs : List Value} {a : Option Addr} {c : Nat} (h1 : wr.ownsRow w.heap.size 46 4 v k cs)
    (h2 : CellsOf wr (fun b => (w.heap.size ≤ b ∧ b < wr.heap.size) ∧ v.ownBlock ≠ some b) (sgsF (l.take k)) cs) (h3 : Below w.heap.size w wr) (hx : l[k]? = some x) (hb : Below wr.heap.size wr Y)
    (hk : KidsAt Y (fun b => wr.heap.size ≤ b ∧ b < Y.heap.size) (sgF x) (.slice a 7 c)) (ho : w'.ownsRow w.heap.size 46 4 v' (k + 1) (cs ++ [.int .i64 2, .int .u64 0, .string ⟨#[]⟩, .slice a 7 c])) (hg : Grew Y v w' v') :
    TrR w l (k + 1) v' w' := by
  have hvl : ∀ b, v.ownBlock = some b → w.heap.size ≤ b ∧ b < wr.heap.size := fun b hb => World.ownsRow.lt h1 b hb
  have hs := hb.size
  have hgs := hg.size
  have hnew : ∀ b, b < Y.heap.size → v.ownBlock ≠ some b → v'.ownBlock ≠ some b := fun b h1 h2 h3 => by
    rcases hg.loc b h3 with h | h
    · exact h2 h
    · omega
  refine ⟨_, ho, ?_, h3.trans ((hb.mono h3.size).trans (hg.below (Nat.le_trans h3.size hs) (fun b hb => (hvl b hb).1)))⟩
  rw [List.take_add_one, hx]
  show CellsOf _ _ (sgsF (l.take k ++ [x])) _
  rw [sgsF_snoc]
  refine CellsOf.snoc (hk.mono (fun b hb' => ⟨⟨by have := h3.size; have := hb'.1; omega, by have := hb'.2; omega⟩, hnew b hb'.2 (fun e => by have := (hvl b e).2; have := hb'.1; omega)⟩) (fun b hb' => hg.block hb'.2 (fun e => by have := (hvl b e).2; have := hb'.1; omega))) _ _ ?_
  exact CellsOf.mono (fun b hb' => ⟨⟨⟨hb'.1.1, by have := hb'.1.2; omega⟩, hnew b (by have := hb'.1.2; omega) hb'.2⟩, (hg.block (by have := hb'.1.2; omega) hb'.2).trans (hb.block b hb'.1.2)⟩) _ _ h2
theorem row_shape {w : World} {B : Nat} {e : TypeId} {size n : Nat} {v : Value} {cs : List Value} (h : w.ownsRow B e size v n cs) : ∃ a c, v = .slice a n c := by
  rcases h.2 with ⟨h1, h2⟩ | ⟨g, cap, cur, h1, _⟩
  · exact ⟨none, 0, by rw [h1, h2]⟩
  · exact ⟨_, cap, h1⟩
theorem sgsF_deep : ∀ l : List Sg, (sgsF l).deep ≤ 2
  | [] => by simp [sgsF, F.deep]
  | s :: l => by have := sgsF_deep l; simp [sgsF, F.deep, sgF, hdR]; omega
set_option maxHeartbeats 8000000 in
set_option maxRecDepth 100000 in
theorem rtext_prog (l : List Sg) (m : Nat) (hok : ∀ s ∈ l, s.Ok m) (hm : m ≤ 100000) (hl : l.length ≤ 3000) (hfit : (textB l).length ≤ 16777216) (v : Value) (w : World) (hv : SSl w v l) :
    Calls Tryd.prog 8 #[v] w fun e w' => e = .returned (.string ⟨(textB l).toArray⟩) ∧ Below w.heap.size w w' := by
  have HS := Lib.hid hv
  obtain ⟨a, c, rfl⟩ := hv.shape
  obtain ⟨n, hn⟩ : ∃ n, l.length = n := ⟨_, rfl⟩
  have HN := Lib.hid hn
  rw [hn] at HS ⊢
  have hnI : (n : Int) ≤ 3000 := by omega
  have KW := Lib.hid (fun u W (hu : KidsAt W (· < W.heap.size) (sgsF l) u) => Cod.write_ref ⟨2, 0, ⟨#[]⟩, sgsF l⟩ u W (text_ok (by omega) l hok (by omega)) (by have := sgsF_deep l; simp only; omega) hu (by simp only; rw [sgsF_len]; exact hfit) true ⟨(textB l).toArray⟩ (text_right l) (by simp only; rw [sgsF_len]; rfl))
  unfold nodeV at KW
  have HNL : Hid (n ≤ 3000) := Lib.hid (by omega)
  clear hn hv hl hfit hok hm
  go_enter Tryd.func8, Tryd.ntmps8
  go_wp2_with fail
  go_loopw [3, 4] (fun v i wr => ∃ k : Nat, i = .int .i64 (k : Int) ∧ k ≤ n ∧ Hid (TrR w l k v wr)) (fun _ i _ => n - (intOf i).toNat)
  case atStart => exact ⟨0, rfl, by omega, Lib.hid ⟨[], World.ownsRow_nil _ _ _ _, rfl, Below.refl _ _⟩⟩
  case round =>
    obtain ⟨k, rfl, hk, HT⟩ := hrel
    obtain ⟨cs, ho, hcs, hb⟩ := HT.out
    obtain ⟨va, vc, rfl⟩ := row_shape ho
    have HOW := Lib.hid ho
    have HCS := Lib.hid hcs
    have HBW := Lib.hid hb
    clear ho hcs hb HT
    by_cases hlt : k < n
    · have hkI : (k : Int) < (n : Int) := by omega
      have hk0 : (0 : Int) ≤ (k : Int) := by omega
      obtain ⟨s, hx⟩ : ∃ s, l[k]? = some s := ⟨_, List.getElem?_eq_getElem (by rw [HN.out]; exact hlt)⟩
      obtain ⟨g, o, cx, ev, hcl⟩ := HS.out.get hx
      rw [HN.out] at ev
      injection ev with e1 e2 e3
      subst e1 e3
      clear e2
      have HCW0 := Lib.hid hcl
      have HCW := Lib.hid (hcl.later HBW.out)
      have KF := Lib.hid (fun W => rfields_prog s.h W)
      unfold hdV at KF
      have HX := Lib.hid hx
      have HLT : Hid (k + 1 ≤ n ∧ n ≤ 3000) := Lib.hid ⟨hlt, HNL.out⟩
      clear hx hcl hlt hk
      go_upto_region 5 with fail
      have HXD : Below wr.heap.size wr wr.drew := (Below.refl _ _).drew
      have HCD := HCW.out.later HXD
      refine wp_region_held_drew (S := fun w' => Below w.heap.size w w' ∧ SCl w' g (o + k * 7) s) (by kernel_rfl) (⟨HBW.out.drew, HCD⟩) (fun hHeld => ?_)
      refine wpAnyH_take (i := 0) (v := ?_) rfl (by kernel_rfl) (by kernel_rfl) (by kernel_rfl) (fun _ _ _ h => h) (Or.inl ⟨by rfl, ?_⟩) hHeld ?_
      rotate_left
      · intro w' hSw; obtain ⟨q0, q1, q2, q3, q4, q5, q6⟩ := hSw.2; go_simp; first | done | with_reducible rfl | rfl
      try simp only [Act.put, List.getElem_toArray, List.getElem_cons_zero, List.setIfInBounds_toArray, List.set_cons_zero, List.set_cons_succ]
      refine wpAnyH_take (i := 1) (v := ?_) rfl (by kernel_rfl) (by kernel_rfl) (by kernel_rfl) (fun _ _ _ h => h) (Or.inl ⟨by rfl, ?_⟩) hHeld ?_
      rotate_left
      · intro w' hSw; obtain ⟨q0, q1, q2, q3, q4, q5, q6⟩ := hSw.2; go_simp; first | done | with_reducible rfl | rfl
      try simp only [Act.put, List.getElem_toArray, List.getElem_cons_zero, List.getElem_cons_succ, List.setIfInBounds_toArray, List.set_cons_zero, List.set_cons_succ]
      refine wpAnyH_take (i := 2) (v := ?_) rfl (by kernel_rfl) (by kernel_rfl) (by kernel_rfl) (fun _ _ _ h => h) (Or.inl ⟨by rfl, ?_⟩) hHeld ?_
      rotate_left
      · intro w' hSw; obtain ⟨q0, q1, q2, q3, q4, q5, q6⟩ := hSw.2; go_simp; first | done | with_reducible rfl | rfl
      try simp only [Act.put, List.getElem_toArray, List.getElem_cons_zero, List.getElem_cons_succ, List.setIfInBounds_toArray, List.set_cons_zero, List.set_cons_succ]
      refine wpAnyH_take (i := 3) (v := ?_) rfl (by kernel_rfl) (by kernel_rfl) (by kernel_rfl) (fun _ _ _ h => h) (Or.inl ⟨by rfl, ?_⟩) hHeld ?_
      rotate_left
      · intro w' hSw; obtain ⟨q0, q1, q2, q3, q4, q5, q6⟩ := hSw.2; go_simp; first | done | with_reducible rfl | rfl
      try simp only [Act.put, List.getElem_toArray, List.getElem_cons_zero, List.getElem_cons_succ, List.setIfInBounds_toArray, List.set_cons_zero, List.set_cons_succ]
      refine wpAnyH_take (i := 4) (v := ?_) rfl (by kernel_rfl) (by kernel_rfl) (by kernel_rfl) (fun _ _ _ h => h) (Or.inl ⟨by rfl, ?_⟩) hHeld ?_
      rotate_left
      · intro w' hSw; obtain ⟨q0, q1, q2, q3, q4, q5, q6⟩ := hSw.2; go_simp; first | done | with_reducible rfl | rfl
      try simp only [Act.put, List.getElem_toArray, List.getElem_cons_zero, List.getElem_cons_succ, List.setIfInBounds_toArray, List.set_cons_zero, List.set_cons_succ]
      refine wpAnyH_take (i := 5) (v := ?_) rfl (by kernel_rfl) (by kernel_rfl) (by kernel_rfl) (fun _ _ _ h => h) (Or.inl ⟨by rfl, ?_⟩) hHeld ?_
      rotate_left
      · intro w' hSw; obtain ⟨q0, q1, q2, q3, q4, q5, q6⟩ := hSw.2; go_simp; first | done | with_reducible rfl | rfl
      try simp only [Act.put, List.getElem_toArray, List.getElem_cons_zero, List.getElem_cons_succ, List.setIfInBounds_toArray, List.set_cons_zero, List.set_cons_succ]
      refine wpAnyH_take (i := 7) (v := ?_) rfl (by kernel_rfl) (by kernel_rfl) (by kernel_rfl) (fun _ _ _ h => h) (Or.inl ⟨by rfl, ?_⟩) hHeld ?_
      rotate_left
      · intro w' hSw; obtain ⟨q0, q1, q2, q3, q4, q5, q6⟩ := hSw.2; go_simp; first | done | with_reducible rfl | rfl
      try simp only [Act.put, List.getElem_toArray, List.getElem_cons_zero, List.getElem_cons_succ, List.setIfInBounds_toArray, List.set_cons_zero, List.set_cons_succ]
      refine wpAnyH_take (i := 8) (v := ?_) rfl (by kernel_rfl) (by kernel_rfl) (by kernel_rfl) (fun _ _ _ h => h) (Or.inl ⟨by rfl, ?_⟩) hHeld ?_
      rotate_left
      · intro w' hSw; obtain ⟨q0, q1, q2, q3, q4, q5, q6⟩ := hSw.2; go_simp; first | done | with_reducible rfl | rfl
      try simp only [Act.put, List.getElem_toArray, List.getElem_cons_zero, List.getElem_cons_succ, List.setIfInBounds_toArray, List.set_cons_zero, List.set_cons_succ]
      refine wpAnyH_take (i := 9) (v := ?_) rfl (by kernel_rfl) (by kernel_rfl) (by kernel_rfl) (fun _ _ _ h => h) (Or.inl ⟨by rfl, ?_⟩) hHeld ?_
      rotate_left
      · intro w' hSw; obtain ⟨q0, q1, q2, q3, q4, q5, q6⟩ := hSw.2; go_simp; first | done | with_reducible rfl | rfl
      try simp only [Act.put, List.getElem_toArray, List.getElem_cons_zero, List.getElem_cons_succ, List.setIfInBounds_toArray, List.set_cons_zero, List.set_cons_succ]
      refine wpAnyH_take (i := 10) (v := ?_) rfl (by kernel_rfl) (by kernel_rfl) (by kernel_rfl) (fun _ _ _ h => h) (Or.inl ⟨by rfl, ?_⟩) hHeld ?_
      rotate_left
      · intro w' hSw; obtain ⟨q0, q1, q2, q3, q4, q5, q6⟩ := hSw.2; go_simp; first | done | with_reducible rfl | rfl
      try simp only [Act.put, List.getElem_toArray, List.getElem_cons_zero, List.getElem_cons_succ, List.setIfInBounds_toArray, List.set_cons_zero, List.set_cons_succ]
      refine wpAnyH_take (i := 11) (v := ?_) rfl (by kernel_rfl) (by kernel_rfl) (by kernel_rfl) (fun _ _ _ h => h) (Or.inl ⟨by rfl, ?_⟩) hHeld ?_
      rotate_left
      · intro w' hSw; obtain ⟨q0, q1, q2, q3, q4, q5, q6⟩ := hSw.2; go_simp; first | done | with_reducible rfl | rfl
      try simp only [Act.put, List.getElem_toArray, List.getElem_cons_zero, List.getElem_cons_succ, List.setIfInBounds_toArray, List.set_cons_zero, List.set_cons_succ]
      refine wpAnyH_ready (rs := [6]) (by kernel_rfl) (by simp) ?_
      refine AllReadyH.cons rfl (fun K hK => ?_) AllReadyH.nil
      try simp only [Act.put, List.getElem_toArray, List.getElem_cons_zero, List.getElem_cons_succ, List.setIfInBounds_toArray, List.set_cons_zero, List.set_cons_succ]
      go_simp
      go_at_call 23
      refine (KF.out _).mono ?_
      rintro e wf ⟨⟨vf, rfl, hf⟩, hb1⟩
      obtain ⟨G, rfl, hGG, HG0⟩ := hf
      have hGX : wr.heap.size ≤ G := Nat.le_trans HXD.size hGG
      have HX_1 := HXD.trans (hb1.mono HXD.size)
      have HC_1 := HCD.later hb1
      go_wp2_with fail
      refine hK.out _ _ (⟨HBW.out.trans (HX_1.mono HBW.out.size), HC_1⟩) (fun hS1 => ?_)
      clear hK K
      try simp only [Act.put, List.getElem_toArray, List.getElem_cons_zero, List.getElem_cons_succ, List.setIfInBounds_toArray, List.set_cons_zero, List.set_cons_succ]
      refine wpAnyH_ready (rs := [12]) (by kernel_rfl) (by simp) ?_
      refine AllReadyH.cons rfl (fun K hK => ?_) AllReadyH.nil
      try simp only [Act.put, List.getElem_toArray, List.getElem_cons_zero, List.getElem_cons_succ, List.setIfInBounds_toArray, List.set_cons_zero, List.set_cons_succ]
      go_simp
      go_at_call 24
      refine (rs_prog _ _).mono ?_
      unfold nodeV
      rintro e ws ⟨rfl, hb2⟩
      have HX_2 := HX_1.trans (hb2.mono HX_1.size)
      have HC_2 := HC_1.later hb2
      have HG_2 := (hb2.block _ (block_lt HG0)).trans HG0
      go_wp2_with fail
      refine hK.out _ _ (⟨HBW.out.trans (HX_2.mono HBW.out.size), HC_2⟩) (fun hS2 => ?_)
      clear hK K
      try simp only [Act.put, List.getElem_toArray, List.getElem_cons_zero, List.getElem_cons_succ, List.setIfInBounds_toArray, List.set_cons_zero, List.set_cons_succ]
      refine wpAnyH_ready (rs := [13]) (by kernel_rfl) (by simp) ?_
      refine AllReadyH.cons rfl (fun K hK => ?_) AllReadyH.nil
      try simp only [Act.put, List.getElem_toArray, List.getElem_cons_zero, List.getElem_cons_succ, List.setIfInBounds_toArray, List.set_cons_zero, List.set_cons_succ]
      go_simp
      refine hK.out _ _ (⟨HBW.out.trans ((HX_2.trans (((Below.refl _ _).alloc (Nat.le_refl _) _).mono HX_2.size)).mono HBW.out.size), HC_2.later ((Below.refl _ _).alloc (Nat.le_refl _) _)⟩) (fun hS3 => ?_)
      clear hK K
      try simp only [Act.put, List.getElem_toArray, List.getElem_cons_zero, List.getElem_cons_succ, List.setIfInBounds_toArray, List.set_cons_zero, List.set_cons_succ]
      clear hS3
      refine Cod.named (M := wpAnyH _ _ _ _ _ _ _ _) ?_
      intro wn HN0 hb3 sz3
      have HX_3 := HX_2.trans (hb3.mono HX_2.size)
      have HC_3 := HC_2.later hb3
      have HG_3 := (hb3.block _ (block_lt HG_2)).trans HG_2
      have hS3 := And.intro (HBW.out.trans (HX_3.mono HBW.out.size)) HC_3
      refine wpAnyH_ready (rs := [14]) (by kernel_rfl) (by simp) ?_
      refine AllReadyH.cons rfl (fun K hK => ?_) AllReadyH.nil
      refine Cod.step_appN Cod.Tryd.nodeSl rfl _ _ (by rfl) wr.heap.size (.slice (some ⟨G, 0, none⟩) 6 6) 6 (fldC s.h) (by rfl) (fld_own hGX HG_3) (ws.heap.size) 1 1 [.int .i64 1, .int .u64 0, .string s.mac, .slice none 0 0] (by rfl) HN0 rfl (by simp [Value.oneCell']) (by omega) (by unfold maxLen; omega) (by omega) HX_3.size ?_
      intro gA cA wa hoA hgA
      have hbA := hgA.below HX_3.size (fun kk hkk => own_low (fld_own hGX HG_3) kk hkk)
      have HX_4 := HX_3.trans hbA
      have HC_4 := HCW.out.later HX_4
      have HKA := Lib.hid (Cod.kids_of_own (S' := fun b => wr.heap.size ≤ b ∧ b < wa.heap.size) hoA (sg_cells wa (fun b => wr.heap.size ≤ b ∧ b < wa.heap.size) s) (fun _ h => h) (fun kk hkk => World.ownsRow.lt hoA kk hkk))
      refine hK.out _ _ (⟨HBW.out.trans (HX_4.mono HBW.out.size), HC_4⟩) (fun hS4 => ?_)
      clear hK K
      try simp only [Act.put, List.getElem_toArray, List.getElem_cons_zero, List.getElem_cons_succ, List.setIfInBounds_toArray, List.set_cons_zero, List.set_cons_succ]
      refine wpAnyH_ready (rs := [15]) (by kernel_rfl) (by simp) ?_
      refine AllReadyH.cons rfl (fun K hK => ?_) AllReadyH.nil
      try simp only [Act.put, List.getElem_toArray, List.getElem_cons_zero, List.getElem_cons_succ, List.setIfInBounds_toArray, List.set_cons_zero, List.set_cons_succ]
      go_simp
      go_at_call 22
      refine (rl_prog _ _ _ _).mono ?_
      unfold nodeV
      rintro e wl ⟨rfl, hb5⟩
      have HX_5 := HX_4.trans (hb5.mono HX_4.size)
      have HC_5 := HC_4.later hb5
      have HKL := Lib.hid (HKA.out.mono (S' := fun b => wr.heap.size ≤ b ∧ b < wl.heap.size) (fun b h => ⟨h.1, Nat.lt_of_lt_of_le h.2 hb5.size⟩) (fun b h => hb5.block b h.2))
      go_wp2_with fail
      refine hK.out _ _ (⟨HBW.out.trans (HX_5.mono HBW.out.size), HC_5⟩) (fun hS5 => ?_)
      clear hK K
      try simp only [Act.put, List.getElem_toArray, List.getElem_cons_zero, List.getElem_cons_succ, List.setIfInBounds_toArray, List.set_cons_zero, List.set_cons_succ]
      refine wpAnyH_ready (rs := [16]) (by kernel_rfl) (by simp) ?_
      refine AllReadyH.cons rfl (fun K hK => ?_) AllReadyH.nil
      try simp only [Act.put, List.getElem_toArray, List.getElem_cons_zero, List.getElem_cons_succ, List.setIfInBounds_toArray, List.set_cons_zero, List.set_cons_succ]
      go_simp
      refine hK.out _ _ (⟨HBW.out.trans ((HX_5.trans (((Below.refl _ _).alloc (Nat.le_refl _) _).mono HX_5.size)).mono HBW.out.size), HC_5.later ((Below.refl _ _).alloc (Nat.le_refl _) _)⟩) (fun hS6 => ?_)
      clear hK K
      try simp only [Act.put, List.getElem_toArray, List.getElem_cons_zero, List.getElem_cons_succ, List.setIfInBounds_toArray, List.set_cons_zero, List.set_cons_succ]
      clear hS6
      refine Cod.named (M := wpAnyH _ _ _ _ _ _ _ _) ?_
      intro wm HN20 hb6 sz6
      have HX_6 := HX_5.trans (hb6.mono HX_5.size)
      have HC_6 := HC_5.later hb6
      have hS6 := And.intro (HBW.out.trans (HX_6.mono HBW.out.size)) HC_6
      have HB6 := hb6
      have sz6 := sz6
      refine wpAnyH_ready (rs := [17]) (by kernel_rfl) (by simp) ?_
      refine AllReadyH.cons rfl (fun K hK => ?_) AllReadyH.nil
      refine Cod.step_appN Cod.Tryd.nodeSl rfl _ _ (by rfl) w.heap.size (.slice va k vc) k cs (by rfl) (Cod.ownN_mv HOW.out (fun kk hkk => HX_6.block kk (World.ownsRow.lt HOW.out kk hkk).2)) (wl.heap.size) 1 1 [.int .i64 2, .int .u64 0, .string ⟨#[]⟩, .slice (some ⟨gA, 0, none⟩) (6 + 1) cA] (by rfl) HN20 rfl (by simp [Value.oneCell']) (by omega) (by have := HLT.out; unfold maxLen; omega) (by have := HLT.out; omega) (Nat.le_trans HBW.out.size HX_6.size) ?_
      intro gB cB wb hoB hgB
      have HKM := Lib.hid (HKL.out.mono (S' := fun b => wr.heap.size ≤ b ∧ b < wm.heap.size) (fun b h => ⟨h.1, by have := h.2; have := sz6; omega⟩) (fun b h => HB6.block b h.2))
      have HST := Lib.hid (TrR.step HOW.out HCS.out HBW.out HX.out HX_6 HKM.out hoB hgB)
      have HBF := Lib.hid HST.out.below
      have HCF : SCl wb g (o + k * 7) s := HCW0.out.later HBF.out
      refine hK.out _ _ (⟨HBF.out, HCF⟩) (fun hS7 => ?_)
      clear hK K
      try simp only [Act.put, List.getElem_toArray, List.getElem_cons_zero, List.getElem_cons_succ, List.setIfInBounds_toArray, List.set_cons_zero, List.set_cons_succ]
      refine wpAnyH_take (i := 18) (v := ?_) rfl (by kernel_rfl) (by kernel_rfl) (by kernel_rfl) (fun _ _ _ h => h) (Or.inl ⟨by rfl, ?_⟩) hS7 ?_
      rotate_left
      · intro w' hSw; obtain ⟨q0, q1, q2, q3, q4, q5, q6⟩ := hSw.2; go_simp; first | done | with_reducible rfl | rfl
      try simp only [Act.put, List.getElem_toArray, List.getElem_cons_zero, List.getElem_cons_succ, List.setIfInBounds_toArray, List.set_cons_zero, List.set_cons_succ]
      refine wpAnyH_done (by kernel_rfl) ?_ _
      go_wp2_with fail
      go_roundw
      case rel => exact ⟨k + 1, by go_num, HLT.out.1, HST⟩
      case measure => simp [intOf]; have := HLT.out; omega
    · have hkn : k = n := by omega
      subst hkn
      have hkI : ¬ (k : Int) < (k : Int) := by omega
      have HK : Hid (KidsAt wr (· < wr.heap.size) (sgsF l) (.slice va k vc)) := Lib.hid (by
        have h2 := HCS.out
        rw [List.take_of_length_le (by rw [HN.out]; omega)] at h2
        have h1 := HOW.out
        rw [← HN.out, ← sgsF_len] at h1
        have := Cod.kids_of_own (S' := (· < wr.heap.size)) h1 h2 (fun b hb => hb.1.2) (fun b hb => (World.ownsRow.lt h1 b hb).2)
        rwa [sgsF_len, HN.out] at this)
      clear hk HOW HCS
      go_wp2_with (go_at_call 22; refine (rl_prog _ _ _ _).mono ?_; unfold nodeV; rintro e w8 ⟨rfl, hb8⟩)
      have HB8 := Lib.hid (HBW.out.trans (hb8.mono HBW.out.size))
      have HK8 := Lib.hid (HK.out.up hb8.size hb8)
      clear hb8
      go_wp2_with fail
      refine (KW.out _ _ HK8.out).mono ?_
      rintro e w9 ⟨rfl, hb9⟩
      have HB9 := Lib.hid (HB8.out.trans (hb9.mono HB8.out.size))
      clear hb9
      go_wp2_with fail
      go_ret
      exact ⟨rfl, HB9.out⟩
set_option maxHeartbeats 8000000 in
set_option maxRecDepth 100000 in
/-- The same list twice. -/
theorem rsame_prog (l : List Sg) (hl : l.length ≤ 100000) (v v2 : Value) (w : World) (hv : SSl w v l) (hv2 : SSl w v2 l) :
    Calls Tryd.prog 9 #[v, v2] w fun e w' => e = .returned (.bool true) ∧ Below w.heap.size w w' := by
  have HS := Lib.hid hv
  have HS2 := Lib.hid hv2
  obtain ⟨a, c, rfl⟩ := hv.shape
  obtain ⟨a2, c2, rfl⟩ := hv2.shape
  obtain ⟨n, hn⟩ : ∃ n, l.length = n := ⟨_, rfl⟩
  have HN := Lib.hid hn
  rw [hn] at HS HS2 ⊢
  have hnI : (n : Int) ≤ 100000 := by omega
  have e0 : ((n : Int) != (n : Int)) = false := by simp
  clear hn hv hv2 hl
  go_enter Tryd.func9, Tryd.ntmps9
  go_wp2_with fail
  go_loopw [5] (fun i wr => ∃ k : Nat, i = .int .i64 (k : Int) ∧ k ≤ n ∧ Hid (Below w.heap.size w wr)) (fun i _ => n - (intOf i).toNat)
  case atStart => exact ⟨0, rfl, by omega, Lib.hid (Below.refl _ _)⟩
  case round =>
    obtain ⟨k, rfl, hk, HB⟩ := hrel
    by_cases hlt : k < n
    · have hkI : (k : Int) < (n : Int) := by omega
      have hk0 : (0 : Int) ≤ (k : Int) := by omega
      obtain ⟨s, hx⟩ : ∃ s, l[k]? = some s := ⟨_, List.getElem?_eq_getElem (by rw [HN.out]; exact hlt)⟩
      obtain ⟨g, o, cx, ev, hcl⟩ := (HS.out.later HB.out).get hx
      rw [HN.out] at ev
      injection ev with e1 e2 e3
      subst e1 e3
      clear e2
      obtain ⟨g2, o2, cx2, ev2, hcl2⟩ := (HS2.out.later HB.out).get hx
      rw [HN.out] at ev2
      injection ev2 with e1 e2 e3
      subst e1 e3
      clear e2
      obtain ⟨q0, q1, q2, q3, q4, q5, q6⟩ := hcl
      obtain ⟨p0, p1, p2, p3, p4, p5, p6⟩ := hcl2
      clear hx
      go_upto_region 6 with fail
      go_quiet (fail)
      go_wp2_with fail
      go_roundw
      case rel => exact ⟨k + 1, by go_num, hlt, Lib.hid (by first | exact HB.out | exact HB.out.drew | exact ⟨HB.out.os, HB.out.tape, HB.out.output, HB.out.size, HB.out.block⟩)⟩
      case measure => simp [intOf]; omega
    · have hkn : k = n := by omega
      subst hkn
      have hkI : ¬ (k : Int) < (k : Int) := by omega
      go_wp2_with fail
      go_ret
      exact ⟨rfl, HB.out⟩
end Go.Proofs.YtpkkdjmcabefbaaDoor
