/- trie's Under. -/
import Derived.Test.YtmpjpaomgifpcaaGreatDoorBTop
namespace Go.Proofs.YtmpjpaomgifpcaaGreatDoor
open Go.RowKit

set_option maxHeartbeats 1000000 in
theorem under_prog (k : ByteArray) (n : Int) (m : Option Tr) (x : Value) (w : World) (hk : k.size ≤ 1000) (hm : MT.wf m) (hl : (MT.pairs m).length ≤ 100000) (h : MAt w m x) :
    Calls Tryz.prog 51 #[x, .string k, .int .i64 n] w (PRes w (undL k n (MT.pairs m))) := by
  by_cases h32 : k.size = 32
  · by_cases h0 : 0 ≤ n
    · by_cases h1 : n ≤ 256
      · obtain ⟨j, rfl⟩ := Int.eq_ofNat_of_zero_le h0
        have hj : j ≤ 256 := by omega
        have e1 : undL k (j : Int) (MT.pairs m) = underL (ks k) j (MT.pairs m) := by unfold undL; rw [if_pos ⟨h32, h0, h1⟩]; rfl
        rw [e1]
        have hkI : ((k.size : Int) != 32) = false := by rw [h32]; rfl
        have hjI0 : ¬ (j : Int) < 0 := by omega
        have hjI1 : ¬ (256 : Int) < (j : Int) := by omega
        have HT := Lib.hid (top_prog h)
        have H32 := Lib.hid h32
        clear h h0 h1 e1
        cases m with
        | none =>
          clear h32
          go_enter Tryz.func51, Tryz.ntmps51
          go_wp2_with fail
          refine HT.out.mono ?_
          rintro e w1 ⟨tv, rfl, hr, rfl⟩
          obtain rfl : tv = .pointer none := hr
          go_wp2_with fail
          refine (toward_any (m := none) (tv := .pointer none) rfl trivial k j hj hk).mono ?_
          rintro e w2 ⟨tv2, rfl, hr2, hs2⟩
          obtain rfl : tv2 = .pointer none := hr2
          have HS := Lib.hid hs2
          clear hs2
          go_wp2
          go_ret
          exact ⟨_, rfl, POwn.nil _ _, HS.out.below _⟩
        | some t =>
          have hu := under_ok k h32 j hj t hm
          have hwt := tow_wf j (ks k) t hm
          have hlt : (towT j (ks k) t).pairs.length ≤ t.pairs.length ∨ True := .inr trivial
          obtain ⟨u, hu'⟩ : ∃ u, u = towT j (ks k) t := ⟨_, rfl⟩
          have HW := Lib.hid (fun (tv : Value) (W : World) (h : RepM W (some t) tv) => toward_any h hm k j hj hk)
          simp only [Option.map_some, ← hu'] at HW
          rw [← hu'] at hu hwt
          obtain ⟨C, hC⟩ : ∃ C, C = comL (ks u.key) (ks k) := ⟨_, rfl⟩
          have hcom := Lib.hid (fun W => com_prog u.key k W (Tr.wf_key hwt) h32)
          rw [← hC] at hu hcom
          have hCle : C ≤ 256 := by have := (comL_le (ks u.key) (ks k)).1; rw [← hC, ks_length, Tr.wf_key hwt] at this; omega
          show Calls _ _ _ _ (PRes w (underL (ks k) j t.pairs))
          have hlu : u.pairs.length ≤ 100000 ∨ C < j := by
            by_cases hc : C < j
            · exact .inr hc
            · rw [if_neg hc] at hu
              left
              rw [← hu]
              exact Nat.le_trans (List.length_filter_le ..) hl
          rw [hu]
          clear hu h32 hlt hwt hu' hC hl hm
          by_cases hc : C < j
          · rw [if_pos hc]
            have hcI : (C : Int) < (j : Int) := by omega
            clear hlu
            go_enter Tryz.func51, Tryz.ntmps51
            go_wp2_with fail
            refine HT.out.mono ?_
            rintro e w1 ⟨tv, rfl, hr, rfl⟩
            have HR := Lib.hid hr
            clear hr
            go_wp2_with fail
            refine (HW.out _ _ HR.out).mono ?_
            rintro e w2 ⟨tv2, rfl, ⟨d, rfl, hd⟩, hs2⟩
            obtain ⟨c2, _⟩ := Rep.cells hd
            have HS := Lib.hid hs2
            clear hd hs2
            unfold pp
            go_wp2_with fail
            refine (hcom.out _).mono ?_
            rintro e w3 ⟨rfl, hs3⟩
            have HS3 := Lib.hid hs3
            clear hs3
            go_wp2
            go_ret
            exact ⟨_, rfl, POwn.nil _ _, (HS.out.trans HS3.out).below _⟩
          · rw [if_neg hc]
            have hcI : ¬ (C : Int) < (j : Int) := by omega
            have hl2 : u.pairs.length ≤ 100000 := by rcases hlu with h | h; exact h; exact absurd h hc
            clear hlu
            go_enter Tryz.func51, Tryz.ntmps51
            go_wp2_with fail
            refine HT.out.mono ?_
            rintro e w1 ⟨tv, rfl, hr, rfl⟩
            have HR := Lib.hid hr
            clear hr
            go_wp2_with fail
            refine (HW.out _ _ HR.out).mono ?_
            rintro e w2 ⟨tv2, rfl, ⟨d, rfl, hd⟩, hs2⟩
            obtain ⟨c2, _⟩ := Rep.cells hd
            have HS := Lib.hid hs2
            have HD := Lib.hid hd
            clear hd hs2
            unfold pp
            go_wp2_with fail
            refine (hcom.out _).mono ?_
            rintro e w3 ⟨rfl, hs3⟩
            have HS3 := Lib.hid hs3
            have HD3 := Lib.hid (HD.out.same hs3)
            clear hs3
            go_wp2_with fail
            refine (gathered_any (m := some u) ⟨d, rfl, HD3.out⟩ hl2).mono ?_
            rintro e w4 ⟨v, rfl, h1, h2⟩
            have H1 := Lib.hid h1
            have H2 := Lib.hid h2
            clear h1 h2
            go_wp2
            go_ret
            have hb := (HS.out.trans HS3.out).below w.heap.size
            exact ⟨_, rfl, POwn.base H1.out hb.size, hb.trans (H2.out.mono hb.size)⟩
      · have e1 : undL k n (MT.pairs m) = [] := by unfold undL; rw [if_neg (fun h => h1 h.2.2)]
        rw [e1]
        have hkI : ((k.size : Int) != 32) = false := by rw [h32]; rfl
        have hn0 : ¬ n < 0 := by omega
        have hn1 : 256 < n := by omega
        clear e1 h h32 h0 h1
        go_enter Tryz.func51, Tryz.ntmps51
        go_wp2
        go_ret
        exact ⟨_, rfl, POwn.nil _ _, Below.refl _ _⟩
    · have e1 : undL k n (MT.pairs m) = [] := by unfold undL; rw [if_neg (fun h => h0 h.2.1)]
      rw [e1]
      have hkI : ((k.size : Int) != 32) = false := by rw [h32]; rfl
      have hn0 : n < 0 := by omega
      clear e1 h h32 h0
      go_enter Tryz.func51, Tryz.ntmps51
      go_wp2
      go_ret
      exact ⟨_, rfl, POwn.nil _ _, Below.refl _ _⟩
  · have e1 : undL k n (MT.pairs m) = [] := by unfold undL; rw [if_neg (fun h => h32 h.1)]
    rw [e1]
    have hkI : ((k.size : Int) != 32) = true := by simp; omega
    clear e1 h h32
    go_enter Tryz.func51, Tryz.ntmps51
    go_wp2
    go_ret
    exact ⟨_, rfl, POwn.nil _ _, Below.refl _ _⟩
end Go.Proofs.YtmpjpaomgifpcaaGreatDoor
