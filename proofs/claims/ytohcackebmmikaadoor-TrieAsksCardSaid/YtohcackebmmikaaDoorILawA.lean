/- TrieAsks. -/
import Derived.Test.YtohcackebmmikaaDoorIModel3
import Derived.Test.YtohcackebmmikaaDoorIRefN
import Derived.Test.YtohcackebmmikaaDoorIAwk
namespace Go.Proofs.YtohcackebmmikaaDoor
open Go.RowKit

/-- Two cells at the head of a block. -/
def Two (w : World) (g : Nat) (x y : Value) : Prop := w.cell? ⟨g, 0, none⟩ = some x ∧ w.cell? ⟨g, 1, none⟩ = some y
theorem Two.later {w w' : World} {g : Nat} {x y : Value} (h : Two w g x y) (hb : Below w.heap.size w w') : Two w' g x y := ⟨cellB hb h.1, cellB hb h.2⟩
theorem und_nil (k : ByteArray) (n : Int) : undL k n [] = [] := by unfold undL underL; split <;> rfl
theorem MT.keys32 {m : Option Tr} (hm : MT.wf m) : ∀ x ∈ MT.pairs m, x.1.size = 32 := by
  match m, hm with
  | none, _ => intro x hx; cases hx
  | some t, h => exact fun x hx => (Tr.pairs_ok h x hx).1
def AkRel (raw K : ByteArray) (M : Option Tr) (P : List Pr) (x wv : Value) (gB : Nat) (w : World) (i : Value) (wr : World) : Prop :=
  ∃ j : Nat, i = .int .i64 j ∧ j ≤ 2 ∧ Hid (MAt wr M x) ∧ Hid (PSl wr wv P) ∧ Hid (Two wr gB (.string raw) (.string K)) ∧ Below w.heap.size w wr

set_option maxRecDepth 30000 in
set_option maxHeartbeats 4000000 in
theorem asks_law (la : Option Addr) (ln lc : Nat) (raw s : ByteArray) (n : Int) (w : World) (hst : Start w) (hl : ln ≤ maxLen) (hu : ActsAt w la ln) (hr : raw.size ≤ maxLen) (hs : s.size ≤ maxLen) (_ : (Lit.int .i64 n).wf = true) :
    Calls Tryd.prog 4 #[.slice la ln lc, .agg #[.string raw, .string s], .int .i64 n] w fun e w' => e = .returned (.bool true) ∧ Below w.heap.size w w' := by
  obtain ⟨L, rfl, hL⟩ := acts_list hu
  have HL := Lib.hid hL
  have HS := Lib.hid hst
  have HA := Lib.hid (fun (W : World) (hb : Below w.heap.size w W) => awake_prog W (HS.out.later hb))
  have HSM := Lib.hid (fun (W : World) (hb : Below w.heap.size w W) => small_prog L 40 la lc W hl (by omega) (by omega) (HL.out.later hb))
  unfold maxLen at hs hr
  clear hst hu hL hl
  go_enter Tryd.func4, Tryd.ntmps4
  go_wp2_with fail
  go_quiet (fail)
  have B0 := Lib.hid (((Below.refl w.heap.size w).alloc (Nat.le_refl _) (.cells #[.string raw, .string s] 38)).trans ((drewN_below (w.alloc (.cells #[.string raw, .string s] 38)) nq).mono (by simp)))
  go_wp2_with fail
  refine (HA.out _ B0.out).mono ?_
  rintro e w1 ⟨rfl, hb1⟩
  have B1 := Lib.hid (B0.out.trans (hb1.mono B0.out.size))
  clear hb1 B0
  go_wp2_with fail
  refine (HSM.out w1 B1.out).mono ?_
  rintro e w2 ⟨b, rfl, hsm, hb2⟩
  have B2 := Lib.hid (B1.out.trans (hb2.mono B1.out.size))
  clear hb2
  cases b with
  | false =>
    clear hsm
    go_wp2_with fail
    go_ret
    exact ⟨rfl, B2.out⟩
  | true =>
    obtain ⟨hlen, hsmall⟩ := hsm rfl
    clear hsm
    by_cases h1 : 100 < raw.size
    · have hI : (100 : Int) < (raw.size : Int) := by omega
      go_wp2_with fail
      go_ret
      exact ⟨rfl, B2.out⟩
    have hI1 : ¬ (100 : Int) < (raw.size : Int) := by omega
    by_cases h2 : 100 < s.size
    · have hI : (100 : Int) < (s.size : Int) := by omega
      go_wp2_with fail
      go_ret
      exact ⟨rfl, B2.out⟩
    have hI2 : ¬ (100 : Int) < (s.size : Int) := by omega
    have HM := Lib.hid (fun (W : World) (hb : Below w.heap.size w W) => made_prog L la lc W (by omega) hsmall (HL.out.later hb) (HS.out.later hb))
    obtain ⟨hwf, hml⟩ := made_ok L hsmall
    obtain ⟨M, hM⟩ : ∃ M, M = madeT L := ⟨_, rfl⟩
    rw [← hM] at HM hwf hml
    have hmn : (MT.pairs M).length ≤ 40 := by omega
    have HK := Lib.hid (fun W => key_prog s W (by omega))
    have hk := keyB_size s
    obtain ⟨K, hK⟩ : ∃ K, K = keyB s := ⟨_, rfl⟩
    rw [← hK] at HK hk
    have hkeys := MT.keys32 hwf
    have HG := Lib.hid (fun (k : ByteArray) (hk : k.size ≤ 100) (x : Value) (W : World) (h : MAt W M x) => get_prog k M x W (by omega) hwf h)
    have HGR := Lib.hid (fun (k : ByteArray) (v : Value) (W : World) (h : PSl W v (MT.pairs M)) => get_ref k (MT.pairs M) v W (by omega) h)
    have HU := Lib.hid (fun (k : ByteArray) (hk : k.size ≤ 100) (x : Value) (W : World) (h : MAt W M x) => under_prog k n M x W (by omega) hwf (by omega) h)
    have HUR := Lib.hid (fun (k : ByteArray) (v : Value) (W : World) (h : PSl W v (MT.pairs M)) => under_ref k n (MT.pairs M) v W hkeys (by omega) h)
    have hund : ∀ k, (undL k n (MT.pairs M)).length ≤ 50000 := fun k => by
      unfold undL
      split
      · exact Nat.le_trans (List.length_filter_le ..) (by omega)
      · simp
    have HSA := Lib.hid (fun (k : ByteArray) (va vb : Value) (W : World) (h1 : PSl W va (undL k n (MT.pairs M))) (h2 : PSl W vb (undL k n (MT.pairs M))) => same_ref _ _ va vb W (hund k) h1 h2)
    have hsb : ∀ l : List Pr, sameB l l = true := fun l => by simp [sameB]
    simp only [hsb] at HSA
    have HRM := Lib.hid (fun (x : Value) (W : World) (h : MAt W M x) => root_prog h)
    have HPX := Lib.hid (fun (hne : ¬ raw.size = 32) (x : Value) (W : World) (h : MAt W M x) (hb : Below w.heap.size w W) => put_prog raw ⟨#[120]⟩ M x W (by omega) (by decide) hwf (by omega) h (HS.out.later hb))
    have HDX := Lib.hid (fun (hne : ¬ raw.size = 32) (x : Value) (W : World) (h : MAt W M x) (hb : Below w.heap.size w W) => del_prog raw M x W (by omega) hwf (by omega) h (HS.out.later hb))
    have hput : ¬ raw.size = 32 → MT.put raw ⟨#[120]⟩ M = M := fun h => by unfold MT.put; rw [if_neg h]
    have hdel : ¬ raw.size = 32 → MT.del raw M = M := fun h => by unfold MT.del; rw [if_neg h]
    have HPUT := Lib.hid hput
    have HDEL := Lib.hid hdel
    have HLN := Lib.hid (fun W => len_trie (w := W) (m := none) (x := .pointer none) (.inl ⟨rfl, rfl⟩))
    rw [show ((MT.pairs none).length : Int) = 0 from rfl] at HLN
    have HTN := Lib.hid (fun W => top_trie (w := W) (m := none) (x := .pointer none) (.inl ⟨rfl, rfl⟩))
    have HUN := Lib.hid (fun W => under_prog K 0 none (.pointer none) W (by omega) trivial (by decide) (.inl ⟨rfl, rfl⟩))
    rw [show MT.pairs none = [] from rfl, und_nil] at HUN
    have HRN := Lib.hid (fun W => root_prog (w := W) (m := none) (x := .pointer none) (.inl ⟨rfl, rfl⟩))
    rw [show MT.root none = noneH from rfl] at HRN
    have HRR := Lib.hid (fun W => root_none none 0 W)
    have HPN := Lib.hid (fun (W : World) (hb : Below w.heap.size w W) => put_prog K ⟨#[120]⟩ none (.pointer none) W (by omega) (by decide) trivial (by decide) (.inl ⟨rfl, rfl⟩) (HS.out.later hb))
    rw [show MT.put K ⟨#[120]⟩ none = some (.leaf K ⟨#[120]⟩) by unfold MT.put; rw [if_pos hk]; rfl] at HPN
    have HL1 := Lib.hid (fun (x : Value) (W : World) (h : MAt W (some (.leaf K ⟨#[120]⟩)) x) => len_trie h)
    rw [show ((MT.pairs (some (.leaf K ⟨#[120]⟩))).length : Int) = 1 from rfl] at HL1
    obtain ⟨Z, hZ⟩ : ∃ Z, Z = noneH := ⟨_, rfl⟩
    rw [← hZ] at HRN HRR
    obtain ⟨R, hR⟩ : ∃ R, R = MT.root M := ⟨_, rfl⟩
    rw [← hR] at HRM
    have hKs : K.size ≤ 100 := by omega
    have hRs : raw.size ≤ 100 := by omega
    have HKS := Lib.hid hKs
    have HRS := Lib.hid hRs
    have HLF : Hid (∀ x W, MAt W (some (.leaf K ⟨#[120]⟩)) x → MAt W (some (.leaf K ⟨#[120]⟩)) x) := Lib.hid (fun _ _ h => h)
    clear hwf hml hM hK hk hkeys hmn hund hsb hput hdel hZ hR hKs hRs hlen hsmall h1 h2 HLF
    go_wp2_with fail
    refine (HM.out w2 B2.out).mono ?_
    rintro e w3 ⟨x, wv, rfl, hx3, hw3, hb3⟩
    have X := Lib.hid hx3
    have PW := Lib.hid (POwn.sl hw3)
    have B3 := Lib.hid (B2.out.trans (hb3.mono B2.out.size))
    obtain ⟨wa, wc, rfl, hwc⟩ := POwn.shape hw3
    clear hx3 hb3 hw3
    go_wp2_with fail
    refine (HK.out w3).mono ?_
    rintro e w_1 ⟨rfl, hb1⟩
    have X_1 := Lib.hid (X.out.later hb1)
    have PW_1 := Lib.hid (PW.out.later hb1)
    have B_1 := Lib.hid (B3.out.trans (hb1.mono B3.out.size))
    clear hb1
    have HX := Lib.hid (X_1.out.later ((Below.refl _ w_1).alloc (Nat.le_refl _) (.cells #[.string raw, .string K] 9)))
    have HP := Lib.hid (PW_1.out.later ((Below.refl _ w_1).alloc (Nat.le_refl _) (.cells #[.string raw, .string K] 9)))
    have HT := Lib.hid (show Two (w_1.alloc (.cells #[.string raw, .string K] 9)) w_1.heap.size (.string raw) (.string K) from two_cells (heap_at_alloc _ _))
    have HB := Lib.hid (B_1.out.alloc B_1.out.size (.cells #[.string raw, .string K] 9))
    go_wp2_with fail
    go_loopw [47] (AkRel raw K M (MT.pairs M) x (.slice wa (MT.pairs M).length wc) w_1.heap.size w) (fun i _ => 2 - (intOf i).toNat)
    case atStart => exact ⟨0, rfl, by omega, HX, HP, HT, HB.out⟩
    case round =>
      clear X PW HX HP HT HB X_1 PW_1
      obtain ⟨j, rfl, hj, hx, hp, ht, hbw⟩ := hrel
      have HB := Lib.hid hbw
      clear hbw
      have hj0 : (0 : Int) ≤ (j : Int) := by omega
      have hj1 : (j : Int) ≤ 2 := by omega
      by_cases hlt : j < 2
      · have hltI : (j : Int) < 2 := by omega
        obtain ⟨k, hk, hck⟩ : ∃ k : ByteArray, k.size ≤ 100 ∧ wr.cell? ⟨w_1.heap.size, j, none⟩ = some (.string k) := by
          have : j = 0 ∨ j = 1 := by omega
          rcases this with rfl | rfl
          · exact ⟨raw, HRS.out, ht.out.1⟩
          · exact ⟨K, HKS.out, ht.out.2⟩
        have HGk := Lib.hid (HG.out k hk)
        have HGRk := Lib.hid (HGR.out k)
        have HUk := Lib.hid (HU.out k hk)
        have HURk := Lib.hid (HUR.out k)
        have HSAk := Lib.hid (HSA.out k)
        obtain ⟨Q, hQ⟩ : ∃ Q, Q = getL k (MT.pairs M) := ⟨_, rfl⟩
        rw [← hQ] at HGk HGRk
        obtain ⟨U, hU⟩ : ∃ U, U = undL k n (MT.pairs M) := ⟨_, rfl⟩
        rw [← hU] at HUk HURk HSAk
        clear hQ hU hk
        obtain ⟨q0, hq0⟩ : ∃ q, q = Q.getD ⟨#[]⟩ := ⟨_, rfl⟩
        obtain ⟨q1, hq1⟩ : ∃ q, q = Q.isSome := ⟨_, rfl⟩
        unfold GetRes at HGk HGRk
        rw [← hq0, ← hq1] at HGk HGRk
        clear hq0 hq1
        have hqq : (q1 != q1) = false := by simp
        go_wp2_with fail
        refine (HGk.out x wr hx.out).mono ?_
        rintro e w_1 ⟨rfl, hs1⟩
        have hb1 := hs1.below wr.heap.size
        have hx_1 := Lib.hid (hx.out.later hb1)
        have hp_1 := Lib.hid (hp.out.later hb1)
        have ht_1 := Lib.hid (ht.out.later hb1)
        have B_1 := Lib.hid (HB.out.trans (hb1.mono HB.out.size))
        clear hb1 hs1
        go_wp2_with fail
        refine (HGRk.out _ w_1 hp_1.out).mono ?_
        rintro e w_2 ⟨rfl, hs2⟩
        have hb2 := hs2.below w_1.heap.size
        have hx_2 := Lib.hid (hx_1.out.later hb2)
        have hp_2 := Lib.hid (hp_1.out.later hb2)
        have ht_2 := Lib.hid (ht_1.out.later hb2)
        have B_2 := Lib.hid (B_1.out.trans (hb2.mono B_1.out.size))
        clear hb2 hs2
        go_wp2_with fail
        refine (HUk.out x w_2 hx_2.out).mono ?_
        rintro e w_3 ⟨pa, rfl, hm3, hb3⟩
        have hx_3 := Lib.hid (hx_2.out.later hb3)
        have hp_3 := Lib.hid (hp_2.out.later hb3)
        have ht_3 := Lib.hid (ht_2.out.later hb3)
        have B_3 := Lib.hid (B_2.out.trans (hb3.mono B_2.out.size))
        have PA := Lib.hid (POwn.sl hm3)
        clear hm3 hb3
        go_wp2_with fail
        refine (HURk.out _ w_3 hp_3.out).mono ?_
        rintro e w_4 ⟨pb, rfl, hm4, hb4⟩
        have hx_4 := Lib.hid (hx_3.out.later hb4)
        have hp_4 := Lib.hid (hp_3.out.later hb4)
        have ht_4 := Lib.hid (ht_3.out.later hb4)
        have PA_4 := Lib.hid (PA.out.later hb4)
        have B_4 := Lib.hid (B_3.out.trans (hb4.mono B_3.out.size))
        have PB := Lib.hid (POwn.sl hm4)
        clear hm4 hb4
        go_wp2_with fail
        refine (HSAk.out pa pb w_4 PA_4.out PB.out).mono ?_
        rintro e w_5 ⟨rfl, hs5⟩
        have hb5 := hs5.below w_4.heap.size
        have hx_5 := Lib.hid (hx_4.out.later hb5)
        have hp_5 := Lib.hid (hp_4.out.later hb5)
        have ht_5 := Lib.hid (ht_4.out.later hb5)
        have PA_5 := Lib.hid (PA_4.out.later hb5)
        have PB_5 := Lib.hid (PB.out.later hb5)
        have B_5 := Lib.hid (B_4.out.trans (hb5.mono B_4.out.size))
        clear hb5 hs5
        go_wp2_with fail
        go_roundw
        case rel => exact ⟨j + 1, by go_num, by omega, hx_5, hp_5, ht_5, B_5.out⟩
        case measure => simp [intOf]; omega
      · have hltI : ¬ (j : Int) < 2 := by omega
        by_cases h32 : raw.size = 32
        · have hrI : ((raw.size : Int) != 32) = false := by rw [h32]; rfl
          clear h32 HPX HDX HPUT HDEL
          go_wp2_with fail
          refine (HLN.out wr).mono ?_
          rintro e wz ⟨rfl, rfl⟩
          go_wp2_with fail
          refine (HTN.out wr).mono ?_
          rintro e w_2 ⟨tv2, rfl, ht2, hb2⟩
          obtain rfl : tv2 = .pointer none := ht2
          have hx_2 := Lib.hid (hx.out.later hb2)
          have B_2 := Lib.hid (HB.out.trans (hb2.mono HB.out.size))
          clear hb2
          go_wp2_with fail
          refine (HK.out w_2).mono ?_
          rintro e w_3 ⟨rfl, hb3⟩
          have hx_3 := Lib.hid (hx_2.out.later hb3)
          have B_3 := Lib.hid (B_2.out.trans (hb3.mono B_2.out.size))
          clear hb3
          go_wp2_with fail
          refine (HUN.out w_3).mono ?_
          rintro e w_4 ⟨pv4, rfl, ho4, hb4⟩
          obtain ⟨oa4, oc4, rfl, _⟩ := POwn.shape ho4
          simp only [List.length_nil]
          have hx_4 := Lib.hid (hx_3.out.later hb4)
          have B_4 := Lib.hid (B_3.out.trans (hb4.mono B_3.out.size))
          clear hb4 ho4
          go_wp2_with fail
          refine (HRN.out w_4).mono ?_
          rintro e w_5 ⟨rfl, hb5⟩
          have hx_5 := Lib.hid (hx_4.out.later hb5)
          have B_5 := Lib.hid (B_4.out.trans (hb5.mono B_4.out.size))
          clear hb5
          go_wp2_with fail
          refine (HRR.out w_5).mono ?_
          rintro e w_6 ⟨rfl, hb6⟩
          have hx_6 := Lib.hid (hx_5.out.later hb6)
          have B_6 := Lib.hid (B_5.out.trans (hb6.mono B_5.out.size))
          clear hb6
          go_wp2_with fail
          refine (HK.out w_6).mono ?_
          rintro e w_7 ⟨rfl, hb7⟩
          have hx_7 := Lib.hid (hx_6.out.later hb7)
          have B_7 := Lib.hid (B_6.out.trans (hb7.mono B_6.out.size))
          clear hb7
          go_wp2_with fail
          refine (HPN.out w_7 B_7.out).mono ?_
          rintro e w_8 ⟨xn, rfl, hm8, hb8⟩
          have hx_8 := Lib.hid (hx_7.out.later hb8)
          have B_8 := Lib.hid (B_7.out.trans (hb8.mono B_7.out.size))
          have XN := Lib.hid hm8
          clear hm8 hb8
          go_wp2_with fail
          refine (HL1.out xn w_8 XN.out).mono ?_
          rintro e wz ⟨rfl, rfl⟩
          go_wp2
          go_ret
          exact ⟨rfl, B_8.out⟩
        · have hrI : ((raw.size : Int) != 32) = true := by simp; omega
          have HPXX := Lib.hid (HPX.out h32)
          have HDXX := Lib.hid (HDX.out h32)
          rw [HPUT.out h32] at HPXX
          rw [HDEL.out h32] at HDXX
          clear h32 HPX HDX HPUT HDEL
          go_wp2_with fail
          refine (HPXX.out x wr hx.out HB.out).mono ?_
          rintro e w_1 ⟨xp, rfl, hm1, hb1⟩
          have hx_1 := Lib.hid (hx.out.later hb1)
          have B_1 := Lib.hid (HB.out.trans (hb1.mono HB.out.size))
          have XP := Lib.hid hm1
          clear hm1 hb1
          go_wp2_with fail
          refine (HRM.out xp w_1 XP.out).mono ?_
          rintro e w_2 ⟨rfl, hb2⟩
          have hx_2 := Lib.hid (hx_1.out.later hb2)
          have XP_2 := Lib.hid (XP.out.later hb2)
          have B_2 := Lib.hid (B_1.out.trans (hb2.mono B_1.out.size))
          clear hb2
          go_wp2_with fail
          refine (HRM.out x w_2 hx_2.out).mono ?_
          rintro e w_3 ⟨rfl, hb3⟩
          have hx_3 := Lib.hid (hx_2.out.later hb3)
          have XP_3 := Lib.hid (XP_2.out.later hb3)
          have B_3 := Lib.hid (B_2.out.trans (hb3.mono B_2.out.size))
          clear hb3
          go_wp2_with fail
          refine (HDXX.out x w_3 hx_3.out B_3.out).mono ?_
          rintro e w_4 ⟨xd, rfl, hm4, hb4⟩
          have hx_4 := Lib.hid (hx_3.out.later hb4)
          have XP_4 := Lib.hid (XP_3.out.later hb4)
          have B_4 := Lib.hid (B_3.out.trans (hb4.mono B_3.out.size))
          have XD := Lib.hid hm4
          clear hm4 hb4
          go_wp2_with fail
          refine (HRM.out xd w_4 XD.out).mono ?_
          rintro e w_5 ⟨rfl, hb5⟩
          have hx_5 := Lib.hid (hx_4.out.later hb5)
          have XP_5 := Lib.hid (XP_4.out.later hb5)
          have XD_5 := Lib.hid (XD.out.later hb5)
          have B_5 := Lib.hid (B_4.out.trans (hb5.mono B_4.out.size))
          clear hb5
          go_wp2_with fail
          refine (HRM.out x w_5 hx_5.out).mono ?_
          rintro e w_6 ⟨rfl, hb6⟩
          have hx_6 := Lib.hid (hx_5.out.later hb6)
          have XP_6 := Lib.hid (XP_5.out.later hb6)
          have XD_6 := Lib.hid (XD_5.out.later hb6)
          have B_6 := Lib.hid (B_5.out.trans (hb6.mono B_5.out.size))
          clear hb6
          go_wp2_with fail
          refine (HLN.out w_6).mono ?_
          rintro e wz ⟨rfl, rfl⟩
          go_wp2_with fail
          refine (HTN.out w_6).mono ?_
          rintro e w_8 ⟨tv8, rfl, ht8, hb8⟩
          obtain rfl : tv8 = .pointer none := ht8
          have hx_8 := Lib.hid (hx_6.out.later hb8)
          have XP_8 := Lib.hid (XP_6.out.later hb8)
          have XD_8 := Lib.hid (XD_6.out.later hb8)
          have B_8 := Lib.hid (B_6.out.trans (hb8.mono B_6.out.size))
          clear hb8
          go_wp2_with fail
          refine (HK.out w_8).mono ?_
          rintro e w_9 ⟨rfl, hb9⟩
          have hx_9 := Lib.hid (hx_8.out.later hb9)
          have XP_9 := Lib.hid (XP_8.out.later hb9)
          have XD_9 := Lib.hid (XD_8.out.later hb9)
          have B_9 := Lib.hid (B_8.out.trans (hb9.mono B_8.out.size))
          clear hb9
          go_wp2_with fail
          refine (HUN.out w_9).mono ?_
          rintro e w_10 ⟨pv10, rfl, ho10, hb10⟩
          obtain ⟨oa10, oc10, rfl, _⟩ := POwn.shape ho10
          simp only [List.length_nil]
          have hx_10 := Lib.hid (hx_9.out.later hb10)
          have XP_10 := Lib.hid (XP_9.out.later hb10)
          have XD_10 := Lib.hid (XD_9.out.later hb10)
          have B_10 := Lib.hid (B_9.out.trans (hb10.mono B_9.out.size))
          clear hb10 ho10
          go_wp2_with fail
          refine (HRN.out w_10).mono ?_
          rintro e w_11 ⟨rfl, hb11⟩
          have hx_11 := Lib.hid (hx_10.out.later hb11)
          have XP_11 := Lib.hid (XP_10.out.later hb11)
          have XD_11 := Lib.hid (XD_10.out.later hb11)
          have B_11 := Lib.hid (B_10.out.trans (hb11.mono B_10.out.size))
          clear hb11
          go_wp2_with fail
          refine (HRR.out w_11).mono ?_
          rintro e w_12 ⟨rfl, hb12⟩
          have hx_12 := Lib.hid (hx_11.out.later hb12)
          have XP_12 := Lib.hid (XP_11.out.later hb12)
          have XD_12 := Lib.hid (XD_11.out.later hb12)
          have B_12 := Lib.hid (B_11.out.trans (hb12.mono B_11.out.size))
          clear hb12
          go_wp2_with fail
          refine (HK.out w_12).mono ?_
          rintro e w_13 ⟨rfl, hb13⟩
          have hx_13 := Lib.hid (hx_12.out.later hb13)
          have XP_13 := Lib.hid (XP_12.out.later hb13)
          have XD_13 := Lib.hid (XD_12.out.later hb13)
          have B_13 := Lib.hid (B_12.out.trans (hb13.mono B_12.out.size))
          clear hb13
          go_wp2_with fail
          refine (HPN.out w_13 B_13.out).mono ?_
          rintro e w_14 ⟨xn, rfl, hm14, hb14⟩
          have hx_14 := Lib.hid (hx_13.out.later hb14)
          have XP_14 := Lib.hid (XP_13.out.later hb14)
          have XD_14 := Lib.hid (XD_13.out.later hb14)
          have B_14 := Lib.hid (B_13.out.trans (hb14.mono B_13.out.size))
          have XN := Lib.hid hm14
          clear hm14 hb14
          go_wp2_with fail
          refine (HL1.out xn w_14 XN.out).mono ?_
          rintro e wz ⟨rfl, rfl⟩
          go_wp2
          go_ret
          exact ⟨rfl, B_14.out⟩
end Go.Proofs.YtohcackebmmikaaDoor
