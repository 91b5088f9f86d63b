/- The reference's Root. -/
import Derived.Test.YtohcackebmmikaaDoorIRefF
namespace Go.Proofs.YtohcackebmmikaaDoor
open Go.RowKit

set_option maxHeartbeats 1000000 in
theorem root_ref (m : Option Tr) (lv : Value) (w : World) (hm : MT.wf m) (hl : (MT.pairs m).length ≤ 100) (h : PSl w lv (MT.pairs m)) :
    Calls Tryd.prog 17 #[lv] w (StrRes w (MT.root m)) := by
  match m, hm, hl, h with
  | none, _, _, ⟨a, c, e, _, _⟩ => rw [e]; exact root_none a c w
  | some t, hm, hl, h =>
    have HT := Lib.hid (texts_ref t lv w hm hl h)
    obtain ⟨a0, c0, rfl, _, _⟩ := h
    have HTL := Lib.hid (texts_len t)
    have HP := Lib.hid (fun W => print_at (bs t.last) t.hash W (by rw [ks_bs, Tr.hash_last]) (by rw [bs_size]; have := last_size t (Tr.wf_sz hm); omega))
    obtain ⟨mt, hmt⟩ : ∃ m, t.txs.length = m + 1 := ⟨t.txs.length - 1, by unfold Tr.txs; rw [List.length_map]; have := HTL.out; have := List.length_pos_iff.2 t.pairs_ne; omega⟩
    have hmt2 : mt ≤ 400 := by
      have := HTL.out
      have h2 : t.texts.length = mt + 1 := by rw [← hmt]; unfold Tr.txs; rw [List.length_map]
      have h3 : t.pairs.length ≤ 100 := hl
      omega
    have hm0 : (0 : Int) ≤ (mt : Int) := by omega
    have hm1 : (mt : Int) ≤ 400 := by omega
    show Calls _ _ _ _ (StrRes w t.hash)
    obtain ⟨TL, hTL⟩ : ∃ s, s = bs t.last := ⟨_, rfl⟩
    have hlast := txs_last t mt hmt
    rw [← hTL] at HP hlast
    have HLAST := Lib.hid hlast
    have HMT := Lib.hid hmt
    clear hTL hlast hmt hl hm
    go_enter Tryd.func17, Tryd.ntmps17
    go_wp2_with fail
    refine HT.out.mono ?_
    rintro e w1 ⟨va, rfl, ho, hb⟩
    obtain ⟨g, c, rfl, _, _, _, hcs⟩ := SOwn.at ho (by intro e; have := HMT.out; rw [e] at this; cases this)
    have c1 := hcs mt _ HLAST.out
    have HB := Lib.hid hb
    have hi0 : (((mt + 1 : Nat) : Int) == 0) = false := by simp only [beq_eq_false_iff_ne]; omega
    rw [HMT.out]
    clear hcs ho hb
    go_wp2_with fail
    refine (HP.out _).mono ?_
    rintro e w2 ⟨rfl, hb2⟩
    have HB2 := Lib.hid (HB.out.trans (hb2.mono HB.out.size))
    clear hb2
    go_wp2
    go_ret
    exact ⟨rfl, HB2.out⟩
end Go.Proofs.YtohcackebmmikaaDoor
