/- TrieLeaf. -/
import Derived.Test.YtohcackebmmikaaDoorIAwk
import Derived.Test.YtohcackebmmikaaDoorSRef3
namespace Go.Proofs.YtohcackebmmikaaDoor
open Go.RowKit

theorem print_at (s R : ByteArray) (w : World) (hR : sumB (ks s) = R) (hs : s.size ≤ 100000) : Calls Tryd.prog 30 #[.string s] w (StrRes w R) := by
  subst hR; exact print_ref s w hs
theorem leaf_text (k v S : ByteArray) (hS : sumB (ks v) = S) : sumB (ks (⟨#[0]⟩ ++ k ++ S)) = leafH k v := by
  subst hS
  simp [leafH, leafT, ks, sumB]

theorem three_size (k S : ByteArray) (hk : k.size = 32) (hS : S.size = 32) : ((⟨#[0]⟩ : ByteArray) ++ k ++ S).size ≤ 100000 := by
  rw [ByteArray.size_append, ByteArray.size_append, hk, hS]
  have : (⟨#[0]⟩ : ByteArray).size = 1 := rfl
  omega
theorem leaf_print (k v S : ByteArray) (hS : sumB (ks v) = S) (hk : k.size = 32) (w : World) : Calls Tryd.prog 30 #[.string ((⟨#[0]⟩ : ByteArray) ++ k ++ S)] w (StrRes w (leafH k v)) := by
  have h1 := leaf_text k v S hS
  have h2 := three_size k S hk (by rw [← hS]; exact sumB_size _)
  generalize ((⟨#[0]⟩ : ByteArray) ++ k ++ S) = T at h1 h2 ⊢
  exact print_at T _ w h1 h2

set_option maxRecDepth 30000 in
set_option maxHeartbeats 2000000 in
theorem leaf_law (s z o : ByteArray) (w : World) (hst : Start w) (hs : s.size ≤ maxLen) (hz : z.size ≤ maxLen) (ho : o.size ≤ maxLen) :
    Calls Tryd.prog 8 #[.string s, .string z, .string o] w fun e w' => e = .returned (.bool true) ∧ Below w.heap.size w w' := by
  unfold maxLen at hs hz ho
  have HS := Lib.hid hst
  have HA := Lib.hid (awake_prog w hst)
  clear hst
  by_cases h1 : 100 < s.size
  · have hI : (100 : Int) < (s.size : Int) := by omega
    go_enter Tryd.func8, Tryd.ntmps8
    go_wp2_with fail
    refine HA.out.mono ?_
    rintro e w1 ⟨rfl, hb1⟩
    go_wp2_with fail
    go_ret
    exact ⟨rfl, hb1⟩
  have hI1 : ¬ (100 : Int) < (s.size : Int) := by omega
  by_cases h2 : 100 < z.size
  · have hI : (100 : Int) < (z.size : Int) := by omega
    go_enter Tryd.func8, Tryd.ntmps8
    go_wp2_with fail
    refine HA.out.mono ?_
    rintro e w1 ⟨rfl, hb1⟩
    go_wp2_with fail
    go_ret
    exact ⟨rfl, hb1⟩
  have hI2 : ¬ (100 : Int) < (z.size : Int) := by omega
  by_cases h3 : 100 < o.size
  · have hI : (100 : Int) < (o.size : Int) := by omega
    go_enter Tryd.func8, Tryd.ntmps8
    go_wp2_with fail
    refine HA.out.mono ?_
    rintro e w1 ⟨rfl, hb1⟩
    go_wp2_with fail
    go_ret
    exact ⟨rfl, hb1⟩
  have hI3 : ¬ (100 : Int) < (o.size : Int) := by omega
  have HK := Lib.hid (fun W => key_prog s W (by omega))
  have hk := keyB_size s
  obtain ⟨K, hK⟩ : ∃ K, K = keyB s := ⟨_, rfl⟩
  rw [← hK] at HK hk
  have HP0 := Lib.hid (fun (x : Value) (W : World) (h : MAt W none x) (hs : Start W) => put_prog K z none x W (by omega) (by omega) trivial (by decide) h hs)
  have HP1 := Lib.hid (fun (x : Value) (W : World) (h : MAt W (some (.leaf K z)) x) (hs : Start W) => put_prog K o (some (.leaf K z)) x W (by omega) (by omega) ⟨hk, by omega⟩ (by show 1 ≤ 1000; omega) h hs)
  rw [show MT.put K z none = some (.leaf K z) by unfold MT.put; rw [if_pos hk]; rfl] at HP0
  rw [show MT.put K o (some (.leaf K z)) = some (.leaf K o) by
    unfold MT.put; rw [if_pos hk]
    show some (withT K o (.leaf K z)) = _
    unfold withT
    rw [comL_self, ks_length, hk, if_neg (by omega)]] at HP1
  have HR0 := Lib.hid (fun (x : Value) (W : World) (h : MAt W (some (.leaf K z)) x) => root_prog h)
  have HR1 := Lib.hid (fun (x : Value) (W : World) (h : MAt W (some (.leaf K o)) x) => root_prog h)
  rw [show MT.root (some (.leaf K z)) = leafH K z from rfl] at HR0
  rw [show MT.root (some (.leaf K o)) = leafH K o from rfl] at HR1
  obtain ⟨S0, hS0⟩ : ∃ S, sumB (ks z) = S := ⟨_, rfl⟩
  obtain ⟨S1, hS1⟩ : ∃ S, sumB (ks o) = S := ⟨_, rfl⟩
  have hz0 : S0.size = 32 := by rw [← hS0]; exact sumB_size _
  have hz1 : S1.size = 32 := by rw [← hS1]; exact sumB_size _
  have HQ0 := Lib.hid (fun W => print_at z S0 W hS0 (by omega))
  have HQ1 := Lib.hid (fun W => print_at o S1 W hS1 (by omega))
  have HT0 := Lib.hid (fun W => leaf_print K z S0 hS0 hk W)
  have HT1 := Lib.hid (fun W => leaf_print K o S1 hS1 hk W)
  obtain ⟨R0, hR0⟩ : ∃ R, R = leafH K z := ⟨_, rfl⟩
  obtain ⟨R1, hR1⟩ : ∃ R, R = leafH K o := ⟨_, rfl⟩
  rw [← hR0] at HR0 HT0
  rw [← hR1] at HR1 HT1
  obtain ⟨M0, hM0⟩ : ∃ M, M = some (Tr.leaf K z) := ⟨_, rfl⟩
  obtain ⟨M1, hM1⟩ : ∃ M, M = some (Tr.leaf K o) := ⟨_, rfl⟩
  rw [← hM0] at HP0 HP1 HR0
  rw [← hM1] at HP1 HR1
  have hk2 : K.size ≤ 32 := by omega
  have hz02 : S0.size ≤ 32 := by omega
  have hz12 : S1.size ≤ 32 := by omega
  clear hK hk hS0 hS1 hz0 hz1 hR0 hR1 hM0 hM1 h1 h2 h3
  go_enter Tryd.func8, Tryd.ntmps8
  go_wp2_with fail
  refine HA.out.mono ?_
  rintro e w1 ⟨rfl, hb1⟩
  have B1 := Lib.hid hb1
  clear hb1
  go_wp2_with fail
  refine (HK.out w1).mono ?_
  rintro e w2 ⟨rfl, hb2⟩
  have B2 := Lib.hid (B1.out.trans (hb2.mono B1.out.size))
  clear hb2
  go_wp2_with fail
  refine (new_trie w2).mono ?_
  rintro e w3 ⟨x3, rfl, h3, hb3⟩
  have H3 := Lib.hid h3
  have B3 := Lib.hid (B2.out.trans (hb3.mono B2.out.size))
  clear hb3 h3
  go_wp2_with fail
  refine (HP0.out x3 w3 H3.out (HS.out.later B3.out)).mono ?_
  rintro e w4 ⟨x4, rfl, h4, hb4⟩
  have H4 := Lib.hid h4
  have B4 := Lib.hid (B3.out.trans (hb4.mono B3.out.size))
  clear hb4 h4
  go_wp2_with fail
  refine (HR0.out x4 w4 H4.out).mono ?_
  rintro e w5 ⟨rfl, hb5⟩
  have H5 := Lib.hid (H4.out.later hb5)
  have B5 := Lib.hid (B4.out.trans (hb5.mono B4.out.size))
  clear hb5
  go_wp2_with fail
  refine (HQ0.out w5).mono ?_
  rintro e w6 ⟨rfl, hb6⟩
  have H6 := Lib.hid (H5.out.later hb6)
  have B6 := Lib.hid (B5.out.trans (hb6.mono B5.out.size))
  clear hb6
  go_wp2_with fail
  refine (HT0.out w6).mono ?_
  rintro e w7 ⟨rfl, hb7⟩
  have H7 := Lib.hid (H6.out.later hb7)
  have B7 := Lib.hid (B6.out.trans (hb7.mono B6.out.size))
  clear hb7
  go_wp2_with fail
  refine (HP1.out x4 w7 H7.out (HS.out.later B7.out)).mono ?_
  rintro e w8 ⟨x8, rfl, h8, hb8⟩
  have H8 := Lib.hid h8
  have B8 := Lib.hid (B7.out.trans (hb8.mono B7.out.size))
  clear hb8 h8
  go_wp2_with fail
  refine (HR1.out x8 w8 H8.out).mono ?_
  rintro e w9 ⟨rfl, hb9⟩
  have B9 := Lib.hid (B8.out.trans (hb9.mono B8.out.size))
  clear hb9
  go_wp2_with fail
  refine (HQ1.out w9).mono ?_
  rintro e w10 ⟨rfl, hb10⟩
  have B10 := Lib.hid (B9.out.trans (hb10.mono B9.out.size))
  clear hb10
  go_wp2_with fail
  refine (HT1.out w10).mono ?_
  rintro e w11 ⟨rfl, hb11⟩
  have B11 := Lib.hid (B10.out.trans (hb11.mono B10.out.size))
  clear hb11
  go_wp2
  go_ret
  exact ⟨rfl, B11.out⟩
end Go.Proofs.YtohcackebmmikaaDoor
