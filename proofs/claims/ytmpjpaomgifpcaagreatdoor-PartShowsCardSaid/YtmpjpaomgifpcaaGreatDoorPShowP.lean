/- part's Show. -/
import Derived.Test.YtmpjpaomgifpcaaGreatDoorPShown
namespace Go.Proofs.YtmpjpaomgifpcaaGreatDoor
open Go.RowKit
open Cod (F Nd KidsAt Lies nodeV CellsOf)

/-- What is asked, as prefixes that are right. -/
def askL (keys : List ByteArray) (under : List AI) : List Ask := (rightL keys under).map toN
theorem askL_ok (keys : List ByteArray) (under : List AI) : okA (askL keys under) := rightL_ok keys under
theorem askL_len (keys : List ByteArray) (under : List AI) : (askL keys under).length ≤ keys.length + under.length := by
  unfold askL rightL
  rw [List.length_map]
  have := List.length_filter_le (fun x : AI => rightB x.1 x.2) ((keys.map fun k => (k, (256 : Int))) ++ under)
  rw [List.length_append, List.length_map] at this
  exact this
theorem showN_deep (A : List Ask) (m : Option Tr) (hm : MT.wf m) (hl : (MT.pairs m).length ≤ 1000) : (showN A m).deep ≤ 1000 := by
  have h := (showN_facts A m hm hl).1
  rw [Cod.right_iff, Bool.and_eq_true] at h
  have := of_decide_eq_true h.1
  omega

set_option maxRecDepth 30000 in
set_option maxHeartbeats 4000000 in
theorem show_prog (keys : List ByteArray) (under : List AI) (m : Option Tr) (x kv uv : Value) (w : World) (hk : keys.length ≤ 100) (hu : under.length ≤ 100) (hm : MT.wf m) (hl : (MT.pairs m).length ≤ 1000) (hx : MAt w m x) (h1 : StrSl w kv keys) (h2 : ASl w uv under) :
    Calls Tryz.prog 9 #[x, kv, uv] w fun e w' => e = .returned (.tuple #[.string (showT (askL keys under) m), .bool true]) ∧ Below w.heap.size w w' := by
  obtain ⟨A, hA⟩ : ∃ A, A = askL keys under := ⟨_, rfl⟩
  have hAok : okA A := by rw [hA]; exact askL_ok _ _
  have hAl : A.length ≤ 1000 := by rw [hA]; have := askL_len keys under; omega
  have hAI : Hid (A.map toI = rightL keys under) := Lib.hid (by rw [hA]; exact rightL_ask keys under)
  rw [← hA]
  have HT := Lib.hid (top_trie hx)
  have HRO := Lib.hid (fun (W : World) (hb : Below w.heap.size w W) => rightOf_prog keys under kv uv W hk hu (h1.later hb) (h2.later hb))
  have hfacts := showN_facts A m hm hl
  have hdeep := showN_deep A m hm hl
  have hLL := Lib.hid (fun (nv : Value) (W : World) (h : KidsAt W (fun b => b < W.heap.size) (showN A m) nv) => Cod.l_prog (showN A m) nv _ W hdeep (by unfold Cod.Lim; omega) hfacts.2.1 h (fun _ h => h))
  have hlen := showL_len A m hm hl
  have hWW := Lib.hid (fun (nv : Value) (W : World) (h : KidsAt W (fun b => b < W.heap.size) (showN A m) nv) => Cod.write_prog 2 0 ⟨#[]⟩ (showN A m) nv W (showNd_ok A m hm hl) h (by unfold Cod.Fits; show (showL A m).length ≤ 16777216; omega) true (showT A m) (showNd_right A m hm hl) rfl)
  obtain ⟨kc1, kc2, rfl, _⟩ := h1
  obtain ⟨uc1, uc2, rfl, _, _⟩ := h2
  clear hA hlen hdeep hx
  unfold nodeV at hWW
  cases m with
  | none =>
    clear HRO hfacts
    go_enter Tryz.func9, Tryz.ntmps9
    go_wp2_with fail
    refine HT.out.mono ?_
    rintro e w1 ⟨tv, rfl, htv, hb1⟩
    obtain rfl : tv = .pointer none := htv
    have HB1 := Lib.hid hb1
    clear hb1 HT
    go_wp2_with fail
    refine (hLL.out _ w1 (Cod.KidsAt.nil _ _)).mono ?_
    rintro e w2 ⟨a, cap, rfl, hb2, hk2⟩
    have HB2 := Lib.hid (HB1.out.trans (hb2.mono HB1.out.size))
    have HK2 := Lib.hid hk2
    clear hb2 hk2 hLL
    go_wp2_with fail
    refine (hWW.out _ w2 (HK2.out.mono (fun b hb => hb.2) (fun _ _ => rfl))).mono ?_
    rintro e w3 ⟨rfl, hb3⟩
    have HB3 := Lib.hid (HB2.out.trans (hb3.mono HB2.out.size))
    clear hb3 hWW
    go_wp2
    go_ret2
    exact ⟨rfl, HB3.out⟩
  | some t =>
    have hsame := shown_same t A hm hAok
    have hlp : F.nil.len + 2 * t.pairs.length ≤ 50000 := by show 0 + 2 * t.pairs.length ≤ 50000; have : t.pairs.length ≤ 1000 := hl; omega
    have HSH := Lib.hid (fun (b : Nat) (W : World) (av : Value) (hr : Rep W t b) (ha : ASl W av (A.map toI)) => shown_prog W t A b W (.slice none 0 0) av .nil hm hAok hAl hr (Below.refl _ _) (NOwn.nil _ _) ha (fun _ _ _ h => by cases h) hlp)
    have HSM := Lib.hid hsame
    clear hfacts hsame
    go_enter Tryz.func9, Tryz.ntmps9
    go_wp2_with fail
    refine HT.out.mono ?_
    rintro e w1 ⟨tv, rfl, htv, hb1⟩
    obtain ⟨d, rfl, hd⟩ := htv
    have HB1 := Lib.hid hb1
    have HD := Lib.hid hd
    unfold pp
    clear hb1 hd HT
    go_wp2_with fail
    refine (HRO.out w1 HB1.out).mono ?_
    rintro e w2 ⟨av, rfl, hav, hb2⟩
    have HB2 := Lib.hid (HB1.out.trans (hb2.mono HB1.out.size))
    have HD2 := Lib.hid (HD.out.later hb2)
    have HAV : Hid (ASl w2 av (A.map toI)) := Lib.hid (by rw [hAI.out]; exact hav.sl)
    have hsh := Lib.hid (HSH.out d w2 av HD2.out HAV.out)
    unfold pp at hsh
    clear hb2 hav HRO
    go_wp2_with fail
    (with_reducible refine hsh.out.mono ?_)
    rintro e w3 ⟨nv, rfl, hown, hgr⟩
    have HB3 : Hid (Below w.heap.size w w3) := Lib.hid (HB2.out.trans (hgr.below HB2.out.size (by intro k hk; cases hk)))
    have HN3 : Hid (NOwn w3 w2.heap.size nv (showN A (some t))) := Lib.hid (by rw [HSM.out] at hown; exact hown)
    obtain ⟨na, nc, rfl⟩ := HN3.out.shape
    clear hown hgr hsh
    go_wp2_with fail
    refine (hLL.out _ w3 HN3.out.kids).mono ?_
    rintro e w4 ⟨a, cap, rfl, hb4, hk4⟩
    have HB4 := Lib.hid (HB3.out.trans (hb4.mono HB3.out.size))
    have HK4 := Lib.hid hk4
    clear hb4 hk4 hLL
    go_wp2_with fail
    refine (hWW.out _ w4 (HK4.out.mono (fun b hb => hb.2) (fun _ _ => rfl))).mono ?_
    rintro e w5 ⟨rfl, hb5⟩
    have HB5 := Lib.hid (HB4.out.trans (hb5.mono HB4.out.size))
    clear hb5 hWW
    go_wp2
    go_ret2
    exact ⟨rfl, HB5.out⟩
end Go.Proofs.YtmpjpaomgifpcaaGreatDoor
