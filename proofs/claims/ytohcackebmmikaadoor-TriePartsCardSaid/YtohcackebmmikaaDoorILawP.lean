/- TrieParts. -/
import Derived.Test.YtohcackebmmikaaDoorIBytes
import Derived.Test.YtohcackebmmikaaDoorIAwk
namespace Go.Proofs.YtohcackebmmikaaDoor
open Go.RowKit

theorem under_zero (l : List UInt8) (L : List Pr) : underL l 0 L = L := by
  unfold underL
  rw [List.filter_eq_self]
  intro x _
  simp [hasL]
theorem und_eq (l : List UInt8) (n : Nat) (hl : l.length = 32) (hn : n ≤ 256) (P : List Pr) : undL (⟨l.toArray⟩ : ByteArray) (n : Int) P = underL l n P := by
  unfold undL
  rw [if_pos ⟨by rw [mk_size, hl], by omega, by omega⟩]
  simp [ks]
theorem und_eq1 (l : List UInt8) (n : Nat) (hl : l.length = 32) (hn : n + 1 ≤ 256) (P : List Pr) : undL (⟨l.toArray⟩ : ByteArray) ((n : Int) + 1) P = underL l (n + 1) P := und_eq l (n + 1) hl hn P
theorem POwn.store {w : World} {B g i : Nat} {v x : Value} {l : List Pr} (h : POwn w B v l) (hg : g < B) : POwn (w.setCell ⟨g, i, none⟩ x) B v l :=
  ownN_mv h (fun k hk => setCell_other w g i k x (by have := POwn.low h k hk; omega))
theorem empty_own (w : World) (B : Nat) (hB : B ≤ w.heap.size) : POwn (w.alloc (.cells #[] 63)) B (.slice (some ⟨w.heap.size, 0, none⟩) 0 0) [] :=
  World.ownsRow_lit w #[] 0 hB (by decide) (by simp)

set_option maxRecDepth 30000 in
set_option maxHeartbeats 4000000 in
theorem parts_law (la : Option Addr) (ln lc : Nat) (s : ByteArray) (nb : Int) (w : World) (hst : Start w) (hl : ln ≤ maxLen) (hu : ActsAt w la ln) (hs : s.size ≤ maxLen) (hn : (Lit.int .u8 nb).wf = true) :
    Calls Tryd.prog 9 #[.slice la ln lc, .string s, .int .u8 nb] w fun e w' => e = .returned (.bool true) ∧ Below w.heap.size w w' := by
  obtain ⟨n, rfl, hn255⟩ : ∃ n : Nat, nb = (n : Int) ∧ n ≤ 255 := by
    have h4 : 0 ≤ nb ∧ nb ≤ 255 := by simpa [Lit.wf, IntKind.min, IntKind.max, IntKind.signed, IntKind.bits] using hn
    exact ⟨nb.toNat, by omega, by omega⟩
  obtain ⟨L, rfl, hL⟩ := acts_list hu
  have HL := Lib.hid hL
  have HS := Lib.hid hst
  have HA := Lib.hid (awake_prog w hst)
  have HSM := Lib.hid (fun (W : World) (hb : Below w.heap.size w W) => small_prog L 30 la lc W hl (by omega) (by omega) (HL.out.later hb))
  unfold maxLen at hs
  have hn0 : (0 : Int) ≤ (n : Int) := by omega
  have hn1 : (n : Int) ≤ 255 := by omega
  clear hst hu hL hl hn
  go_enter Tryd.func9, Tryd.ntmps9
  go_wp2_with fail
  refine HA.out.mono ?_
  rintro e w1 ⟨rfl, hb1⟩
  have B1 := Lib.hid hb1
  clear hb1
  go_wp2_with fail
  refine (HSM.out w1 B1.out).mono ?_
  rintro e w2 ⟨b, rfl, hsm, hb2⟩
  have B2 := Lib.hid (B1.out.trans (hb2.mono B1.out.size))
  clear hb2
  cases b with
  | false =>
    clear hsm
    go_wp2_with fail
    go_ret
    exact ⟨rfl, B2.out⟩
  | true =>
    obtain ⟨hlen, hsmall⟩ := hsm rfl
    clear hsm
    by_cases h1 : 100 < s.size
    · have hI : (100 : Int) < (s.size : Int) := by omega
      go_wp2_with fail
      go_ret
      exact ⟨rfl, B2.out⟩
    have hI1 : ¬ (100 : Int) < (s.size : Int) := by omega
    have HM := Lib.hid (fun (W : World) (hb : Below w.heap.size w W) => made_prog L la lc W (by omega) hsmall (HL.out.later hb) (HS.out.later hb))
    obtain ⟨hwf, hml⟩ := made_ok L hsmall
    obtain ⟨M, hM⟩ : ∃ M, M = madeT L := ⟨_, rfl⟩
    rw [← hM] at HM hwf hml
    have hmn : (MT.pairs M).length ≤ 30 := by omega
    have HK := Lib.hid (fun W => key_prog s W (by omega))
    have hk := keyB_size s
    obtain ⟨K, hK⟩ : ∃ K, K = keyB s := ⟨_, rfl⟩
    rw [← hK] at HK hk
    obtain ⟨l, hl⟩ : ∃ l, l = ks K := ⟨_, rfl⟩
    have hll : l.length = 32 := by rw [hl, ks_length, hk]
    have hKl : K = ⟨l.toArray⟩ := by rw [hl]
    obtain ⟨q, hq⟩ : ∃ q, q = n / 8 := ⟨_, rfl⟩
    obtain ⟨r, hr⟩ : ∃ r, r = n % 8 := ⟨_, rfl⟩
    have hqI : (n : Int) / 8 = (q : Int) := by omega
    have hrI : (n : Int) % 8 = (r : Int) := by omega
    have hr8 : r < 8 := by omega
    have hq32 : q < 32 := by omega
    have hqL : q < l.length := by omega
    have hc := clr_bits l n (by omega)
    rw [← hq, ← hr] at hc
    obtain ⟨y0, hy0⟩ : ∃ y, y = clrU (l.getD q 0) r := ⟨_, rfl⟩
    obtain ⟨l0, hl0⟩ : ∃ l0, l0 = l.set q y0 := ⟨_, rfl⟩
    rw [← hy0, ← hl0] at hc
    have hl0l : l0.length = 32 := by rw [hl0, List.length_set, hll]
    have hd := set_bits l0 n (by omega)
    rw [← hq, ← hr] at hd
    obtain ⟨y1, hy1⟩ : ∃ y, y = setU (l0.getD q 0) r := ⟨_, rfl⟩
    obtain ⟨l1, hl1⟩ : ∃ l1, l1 = l0.set q y1 := ⟨_, rfl⟩
    rw [← hy1, ← hl1] at hd
    have hl1l : l1.length = 32 := by rw [hl1, List.length_set, hl0l]
    have hand := (clr_ok (l.getD q 0) r hr8).1
    rw [← hy0] at hand
    have hor := (set_ok (l0.getD q 0) r hr8).1
    rw [← hy1] at hor
    have hkeys : ∀ x ∈ MT.pairs M, x.1.size = 32 := by
      match M, hwf with
      | none, _ => intro x hx; cases hx
      | some t, h => exact fun x hx => (Tr.pairs_ok h x hx).1
    have hparts := under_parts l l0 l1 n (by omega) hc.1 (fun i hi => (hd.1 i hi).trans (hc.1 i hi)) hc.2 hd.2 (MT.pairs M) (MT.sorted hwf) hkeys
    have HU := Lib.hid (fun (x : Value) (W : World) (h : MAt W M x) => under_prog (⟨l.toArray⟩ : ByteArray) (n : Int) M x W (by rw [mk_size]; omega) hwf (by omega) h)
    rw [und_eq l n hll (by omega)] at HU
    have HU0 := Lib.hid (fun (x : Value) (W : World) (h : MAt W M x) => under_prog (⟨l0.toArray⟩ : ByteArray) ((n : Int) + 1) M x W (by rw [mk_size]; omega) hwf (by omega) h)
    rw [und_eq1 l0 n hl0l (by omega)] at HU0
    have HU1 := Lib.hid (fun (x : Value) (W : World) (h : MAt W M x) => under_prog (⟨l1.toArray⟩ : ByteArray) ((n : Int) + 1) M x W (by rw [mk_size]; omega) hwf (by omega) h)
    rw [und_eq1 l1 n hl1l (by omega)] at HU1
    have HUA := Lib.hid (fun (x : Value) (W : World) (h : MAt W M x) => under_prog (⟨l1.toArray⟩ : ByteArray) (0 : Int) M x W (by rw [mk_size]; omega) hwf (by omega) h)
    rw [show undL (⟨l1.toArray⟩ : ByteArray) (0 : Int) (MT.pairs M) = MT.pairs M from (und_eq l1 0 hl1l (by omega) _).trans (under_zero _ _)] at HUA
    obtain ⟨PP, hPP⟩ : ∃ P, P = MT.pairs M := ⟨_, rfl⟩
    rw [← hPP] at HUA hmn hparts HU HU0 HU1
    have HPP := Lib.hid hPP
    obtain ⟨A, hA⟩ : ∃ A, A = underL l n PP := ⟨_, rfl⟩
    obtain ⟨A0, hA0⟩ : ∃ A, A = underL l0 (n + 1) PP := ⟨_, rfl⟩
    obtain ⟨A1, hA1⟩ : ∃ A, A = underL l1 (n + 1) PP := ⟨_, rfl⟩
    have hAl : A.length ≤ 30 := by rw [hA]; exact Nat.le_trans (List.length_filter_le ..) hmn
    have hA0l : A0.length ≤ 30 := by rw [hA0]; exact Nat.le_trans (List.length_filter_le ..) hmn
    have hA1l : A1.length ≤ 30 := by rw [hA1]; exact Nat.le_trans (List.length_filter_le ..) hmn
    rw [← hA, ← hA0, ← hA1] at hparts
    rw [← hA] at HU
    rw [← hA0] at HU0
    rw [← hA1] at HU1
    have HSA := Lib.hid (fun (va vb : Value) (W : World) (h1 : PSl W va A) (h2 : PSl W vb ([] ++ A0 ++ A1)) => same_ref _ _ va vb W (by omega) h1 h2)
    rw [show sameB A ([] ++ A0 ++ A1) = true by rw [hparts]; simp [sameB]] at HSA
    have HSP := Lib.hid (fun (va vb : Value) (W : World) (h1 : PSl W va PP) (h2 : PSl W vb PP) => same_ref _ _ va vb W (by omega) h1 h2)
    rw [show sameB PP PP = true by simp [sameB]] at HSP
    have HL1 := Lib.hid (show ([] ++ A0 : List Pr).length + A1.length ≤ 100000 by simp; omega)
    have HL0 := Lib.hid (show ([] : List Pr).length + A0.length ≤ 100000 by simp; omega)
    have HKL := Lib.hid hKl
    have Hl := Lib.hid hl
    have Hl0 := Lib.hid hl0
    have Hl1 := Lib.hid hl1
    have hll2 := Lib.hid hll
    have hl0l2 := Lib.hid hl0l
    have hl1l2 := Lib.hid hl1l
    obtain ⟨x0, hx0⟩ : ∃ x, x = l.getD q 0 := ⟨_, rfl⟩
    obtain ⟨x1, hx1⟩ : ∃ x, x = l0.getD q 0 := ⟨_, rfl⟩
    rw [← hx0] at hand
    rw [← hx1] at hor
    have Hx0 := Lib.hid hx0
    have Hx1 := Lib.hid hx1
    have hqk : q < K.size := by omega
    have Hk := Lib.hid hk
    have hqI0 : (0 : Int) ≤ (q : Int) := by omega
    have hqI1 : (q : Int) ≤ 31 := by omega
    have hqI2 : (q : Int) < 32 := by omega
    have hqI3 : (q : Int).toNat = q := by omega
    have HQ := Lib.hid hqL
    clear hwf hml hM hK hk hKl hl hll hl0 hl1 hl0l hl1l hq hr hc hd hy0 hy1 hkeys hparts hPP hA hA0 hA1 hmn hAl hA0l hA1l hlen hsmall h1 hx0 hx1 hqL
    go_wp2_with fail
    refine (HM.out w2 B2.out).mono ?_
    rintro e w3 ⟨x, wv, rfl, hx3, hw3, hb3⟩
    have X := Lib.hid hx3
    have PW := Lib.hid (show PSl w3 wv PP by rw [HPP.out]; exact POwn.sl hw3)
    have D := Lib.hid (Below.refl w3.heap.size w3)
    have B3 := Lib.hid (B2.out.trans (hb3.mono B2.out.size))
    clear hx3 hb3 hw3
    go_wp2_with fail
    refine (HK.out w3).mono ?_
    rintro e w_1 ⟨rfl, hb1⟩
    have D_1 := Lib.hid (D.out.trans (hb1.mono D.out.size))
    have B_1 := Lib.hid (B3.out.trans (hb1.mono B3.out.size))
    clear hb1
    go_wp2_with (first
      | (refine list_bytes (e := 5) Tryd.underlying9 Tryd.underlying58 Tryd.underlying5 rfl _ rfl K rfl ?_))
    intro cap w_2 hby5 hb5
    have D_2 := Lib.hid (D_1.out.trans (hb5.mono D_1.out.size))
    have B_2 := Lib.hid (B_1.out.trans (hb5.mono B_1.out.size))
    obtain ⟨g, hg⟩ : ∃ g, g = w_1.heap.size := ⟨_, rfl⟩
    rw [← hg] at hby5
    rw [← hg]
    rw [← Hl.out] at hby5
    have HGW := Lib.hid (show w.heap.size ≤ g by rw [hg]; exact B_1.out.size)
    have HGW3 := Lib.hid (show w3.heap.size ≤ g by rw [hg]; exact D_1.out.size)
    have hks : K.size = 32 := Hk.out
    rw [hks]
    have BY := Lib.hid hby5
    have hst5 := BytesAt.str hby5 cap
    rw [hll2.out] at hst5
    clear hby5 hb5 hg hks
    have hg3 : g < (w_2).heap.size := BY.out.1
    go_wp2_with fail
    refine (HU.out x w_2 (X.out.later D_2.out)).mono ?_
    rintro e w_3 ⟨pa, rfl, hm3, hb3⟩
    have D_3 := Lib.hid (D_2.out.trans (hb3.mono D_2.out.size))
    have BY_3 := Lib.hid (BY.out.later hb3)
    have B_3 := Lib.hid (B_2.out.trans (hb3.mono B_2.out.size))
    have PA := Lib.hid hm3
    clear hm3 hb3
    clear hst5
    have c4 := (BY_3.out.2 q (by rw [hll2.out]; exact hq32)).1
    have f4 := (BY_3.out.2 q (by rw [hll2.out]; exact hq32)).2
    rw [← Hx0.out] at c4
    unfold byteV at c4
    have NB4 := Lib.hid (show BytesAt (w_3.setCell ⟨g, q, none⟩ (.int .u8 (y0.toNat : Int))) g l0 by rw [Hl0.out]; exact BY_3.out.set q (by rw [hll2.out]; exact hq32) y0)
    have hstr4 := BytesAt.str NB4.out cap
    rw [hl0l2.out] at hstr4
    have Bs4 := Lib.hid (B_3.out.setCell (p := ⟨g, q, none⟩) HGW.out (.int .u8 (y0.toNat : Int)))
    have Ds4 := Lib.hid (D_3.out.setCell (p := ⟨g, q, none⟩) HGW3.out (.int .u8 (y0.toNat : Int)))
    have PA_s4 := Lib.hid (POwn.store (i := q) (x := .int .u8 (y0.toNat : Int)) PA.out hg3)
    have hg5 : g < ((w_3.setCell ⟨g, q, none⟩ (.int .u8 (y0.toNat : Int)))).heap.size := NB4.out.1
    go_wp2_with fail
    refine (HU0.out x (w_3.setCell ⟨g, q, none⟩ (.int .u8 (y0.toNat : Int))) (X.out.later Ds4.out)).mono ?_
    rintro e w_5 ⟨pz, rfl, hm5, hb5⟩
    have D_5 := Lib.hid (Ds4.out.trans (hb5.mono Ds4.out.size))
    have BY_5 := Lib.hid (NB4.out.later hb5)
    have PA_5 := Lib.hid (POwn.later PA_s4.out hb5)
    have B_5 := Lib.hid (Bs4.out.trans (hb5.mono Bs4.out.size))
    have PZ := Lib.hid hm5
    clear hm5 hb5
    clear c4 f4 hstr4
    have c6 := (BY_5.out.2 q (by rw [hl0l2.out]; exact hq32)).1
    have f6 := (BY_5.out.2 q (by rw [hl0l2.out]; exact hq32)).2
    rw [← Hx1.out] at c6
    unfold byteV at c6
    have NB6 := Lib.hid (show BytesAt (w_5.setCell ⟨g, q, none⟩ (.int .u8 (y1.toNat : Int))) g l1 by rw [Hl1.out]; exact BY_5.out.set q (by rw [hl0l2.out]; exact hq32) y1)
    have hstr6 := BytesAt.str NB6.out cap
    rw [hl1l2.out] at hstr6
    have Bs6 := Lib.hid (B_5.out.setCell (p := ⟨g, q, none⟩) HGW.out (.int .u8 (y1.toNat : Int)))
    have Ds6 := Lib.hid (D_5.out.setCell (p := ⟨g, q, none⟩) HGW3.out (.int .u8 (y1.toNat : Int)))
    have PA_s6 := Lib.hid (POwn.store (i := q) (x := .int .u8 (y1.toNat : Int)) PA_5.out hg3)
    have PZ_s6 := Lib.hid (POwn.store (i := q) (x := .int .u8 (y1.toNat : Int)) PZ.out hg5)
    have hg7 : g < ((w_5.setCell ⟨g, q, none⟩ (.int .u8 (y1.toNat : Int)))).heap.size := NB6.out.1
    go_wp2_with fail
    refine (HU1.out x (w_5.setCell ⟨g, q, none⟩ (.int .u8 (y1.toNat : Int))) (X.out.later Ds6.out)).mono ?_
    rintro e w_7 ⟨po, rfl, hm7, hb7⟩
    have D_7 := Lib.hid (Ds6.out.trans (hb7.mono Ds6.out.size))
    have BY_7 := Lib.hid (NB6.out.later hb7)
    have PA_7 := Lib.hid (POwn.later PA_s6.out hb7)
    have PZ_7 := Lib.hid (POwn.later PZ_s6.out hb7)
    have B_7 := Lib.hid (Bs6.out.trans (hb7.mono Bs6.out.size))
    have PO := Lib.hid hm7
    clear hm7 hb7
    clear c6 f6 hstr6
    go_wp2_with (at_builtin; first
      | (refine list_appP rfl _ _ rfl w_7.heap.size _ ([] ++ A0) rfl hown8.out po A1 rfl ((POwn.sl PO.out).later hb8.out) HL1.out hb8.out.size ?_; intro v9 w9 hown9' hgr9; have hown9 := Lib.hid hown9'; have hb9' : Below w_7.heap.size w_7 w9 := hb8.out.trans (hgr9.below hb8.out.size (POwn.low hown8.out)))
      | (refine list_appP rfl _ _ rfl w_7.heap.size _ [] rfl (empty_own w_7 _ (Nat.le_refl _)) pz A0 rfl ((POwn.sl PZ_7.out).later ((Below.refl _ w_7).alloc (Nat.le_refl _) _)) HL0.out (by simp) ?_; intro v8 w8 hown8' hgr8; have hown8 := Lib.hid hown8'; have hb8 := Lib.hid (((Below.refl _ w_7).alloc (Nat.le_refl _) _).trans (hgr8.below (by simp) (POwn.low (empty_own w_7 _ (Nat.le_refl _)))))))
    have hb9 := hb9'
    have D_9 := Lib.hid (D_7.out.trans (hb9.mono D_7.out.size))
    have BY_9 := Lib.hid (BY_7.out.later hb9)
    have PA_9 := Lib.hid (POwn.later PA_7.out hb9)
    have PZ_9 := Lib.hid (POwn.later PZ_7.out hb9)
    have PO_9 := Lib.hid (POwn.later PO.out hb9)
    have B_9 := Lib.hid (B_7.out.trans (hb9.mono B_7.out.size))
    clear hb9 hb9' hown9' hown8' hgr8 hgr9
    have P9 := Lib.hid (POwn.sl hown9.out)
    refine (HSA.out pa v9 w9 (POwn.sl PA_9.out) P9.out).mono ?_
    rintro e w_10 ⟨rfl, hs10⟩
    have hb10 := hs10.below w9.heap.size
    have D_10 := Lib.hid (D_9.out.trans (hb10.mono D_9.out.size))
    have BY_10 := Lib.hid (BY_9.out.later hb10)
    have PA_10 := Lib.hid (POwn.later PA_9.out hb10)
    have PZ_10 := Lib.hid (POwn.later PZ_9.out hb10)
    have PO_10 := Lib.hid (POwn.later PO_9.out hb10)
    have P9_10 := Lib.hid (P9.out.later hb10)
    have B_10 := Lib.hid (B_9.out.trans (hb10.mono B_9.out.size))
    clear hb10 hs10
    have hstE := BytesAt.str BY_10.out cap
    rw [hl1l2.out] at hstE
    go_wp2_with fail
    refine (HUA.out x w_10 (X.out.later D_10.out)).mono ?_
    rintro e w_11 ⟨pe, rfl, hm11, hb11⟩
    have D_11 := Lib.hid (D_10.out.trans (hb11.mono D_10.out.size))
    have BY_11 := Lib.hid (BY_10.out.later hb11)
    have PA_11 := Lib.hid (POwn.later PA_10.out hb11)
    have PZ_11 := Lib.hid (POwn.later PZ_10.out hb11)
    have PO_11 := Lib.hid (POwn.later PO_10.out hb11)
    have P9_11 := Lib.hid (P9_10.out.later hb11)
    have B_11 := Lib.hid (B_10.out.trans (hb11.mono B_10.out.size))
    have PE := Lib.hid (POwn.sl hm11)
    clear hm11 hb11
    clear hstE
    go_wp2_with fail
    refine (HSP.out pe wv w_11 PE.out (PW.out.later D_11.out)).mono ?_
    rintro e wq ⟨rfl, hsq⟩
    have Bq := Lib.hid (B_11.out.trans (hsq.below _))
    clear hsq
    go_wp2
    go_ret
    exact ⟨rfl, Bq.out⟩
end Go.Proofs.YtohcackebmmikaaDoor
