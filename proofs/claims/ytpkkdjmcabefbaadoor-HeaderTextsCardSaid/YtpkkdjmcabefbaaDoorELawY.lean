/- HeaderTexts' walk. -/
import Derived.Test.YtpkkdjmcabefbaaDoorETxU
import Derived.Test.YtpkkdjmcabefbaaDoorEMade
namespace Go.Proofs.YtpkkdjmcabefbaaDoor
open Go.RowKit
open Cod (nodeL)
theorem madeR_some13 {key : ByteArray} {n : Int} {l : List Stp} {m : List Sg} (h : madeR key n l = some m) : l.length ≤ 20 ∧ madeO key (firstS key n) l = some m := by
  unfold madeR at h
  split at h
  · rename_i e; exact ⟨e.1, h⟩
  · cases h
theorem madeO_len13 (key : ByteArray) : ∀ (l : List Stp) (f : Sg) (m : List Sg), madeO key f l = some m → m.length = l.length
  | [], f, m, h => by
    injection h with h
    subst h; rfl
  | x :: l, f, m, h => by
    unfold madeO at h
    split at h
    · split at h
      · obtain ⟨t, ht, rfl⟩ := Option.map_eq_some_iff.1 h
        rw [List.length_cons, List.length_cons, madeO_len13 key l _ t ht]
      · cases h
    · cases h
theorem madeO_good13 (key : ByteArray) : ∀ (l : List Stp) (f : Sg) (m : List Sg), Good f → (∀ x ∈ l, x.Fit) → madeO key f l = some m → ∀ s ∈ m, Good s
  | [], f, m, hf, _, h => by
    injection h with h
    rw [← h]; intro s hs; cases hs
  | x :: l, f, m, hf, hx, h => by
    unfold madeO at h
    split at h
    · split at h
      · rename_i k
        obtain ⟨t, ht, rfl⟩ := Option.map_eq_some_iff.1 h
        have hxf := hx x (by simp)
        have hg := turnS_good x.bad (next_good (key := key) (a := x.who) (b := x.stamp) hf k hxf.2.1 hxf.2.2.1)
        intro s hs
        rcases List.mem_cons.1 hs with rfl | hs
        · exact hg
        · exact madeO_good13 key l _ t hg (fun y hy => hx y (by simp [hy])) ht s hs
      · cases h
    · cases h
theorem text_len {m : Nat} (hm : m < 16384) (l : List Sg) (h : ∀ s ∈ l, s.Ok m) (hl : l.length < 268435456) : (textB l).length ≤ l.length * (3 * m + 51) + 5 := by
  have h1 := sgs_len hm l h
  have h2 := Cod.szL_len l.length hl
  unfold textB nodeL
  rw [if_neg (by decide), if_neg (by decide)]
  simp
  omega
set_option maxHeartbeats 8000000 in
set_option maxRecDepth 100000 in
theorem texts_law (key : ByteArray) (hkey : key.size ≤ maxLen) (l : List Stp) (hl : l.length ≤ maxLen) (hx : ∀ x ∈ l, x.Fit) (v : Value) (s : ByteArray) (hs : s.size ≤ maxLen) (w : World) (hv : StpSl w v l) (hst : Start w) :
    Calls Tryd.prog 3 #[.string key, v, .string s] w fun e w' => e = .returned (.bool true) ∧ Below w.heap.size w w' := by
  have HST := Lib.hid hst
  have KW := Lib.hid (fun W (hS : Start W) => awake_prog W hS)
  have KM := Lib.hid (fun u W (hW : StpSl W u l) => made_prog key hkey 1 ⟨by decide, by decide⟩ l hl hx u W hW)
  have HV := Lib.hid hv
  have HX := Lib.hid hx
  have bs : (s.size : Int) ≤ 9223372036854775807 := by unfold maxLen at hs; omega
  obtain ⟨va, vc, rfl⟩ := hv.shape
  obtain ⟨NL, hNL⟩ : ∃ n, l.length = n := ⟨_, rfl⟩
  rw [hNL] at HV ⊢
  clear hst hkey hl hx hv hs hNL
  go_enter Tryd.func3, Tryd.ntmps3
  go_wp2_with fail
  refine (KW.out _ HST.out).mono ?_
  rintro e w1 ⟨rfl, hb1⟩
  have HB1 := Lib.hid hb1
  clear hb1 KW
  go_wp2_with fail
  refine (KM.out _ _ (HV.out.later HB1.out)).mono ?_
  rintro e w3 ⟨u, rfl, hu, hb3⟩
  have HB3 := Lib.hid (HB1.out.trans (hb3.mono HB1.out.size))
  have HU := Lib.hid hu.out.sl
  clear hu hb3 KM
  obtain ⟨R, hR⟩ : ∃ R, madeR key 1 l = R := ⟨_, rfl⟩
  rw [hR] at HU ⊢
  cases R with
  | none =>
    dsimp only [Option.isSome]
    clear hR
    go_wp2_with fail
    go_ret
    exact ⟨rfl, HB3.out⟩
  | some m =>
    obtain ⟨hl20, hmo⟩ := madeR_some13 hR
    have HGF := Lib.hid (first_good key 1 ⟨by decide, by decide⟩)
    have hgm := madeO_good13 key _ _ m HGF.out HX.out hmo
    have hml : m.length ≤ 20 := by rw [madeO_len13 key _ _ m hmo]; exact hl20
    have hok : ∀ x ∈ m, x.Ok 32 := fun x hx => ⟨(hgm x hx).1, Nat.le_of_eq (hgm x hx).2.2⟩
    have his : ∀ x ∈ m, x.h.is = true := fun x hx => (hgm x hx).2.1
    have htl := text_len (by decide) m hok (by omega)
    have htl2 : (textB m).length ≤ 3000 := by
      have : m.length * (3 * 32 + 51) ≤ 20 * (3 * 32 + 51) := Nat.mul_le_mul_right _ hml
      omega
    have HU3 : Hid (SSl w3 u m) := HU
    obtain ⟨ua, uc, rfl⟩ := HU3.out.shape
    dsimp only [Option.isSome]
    have KT := Lib.hid (fun W (hW : SSl W (.slice ua m.length uc) m) => ptext_prog m 32 hok (by decide) his (by omega) (by omega) _ W hW)
    have KRT := Lib.hid (fun W (hW : SSl W (.slice ua m.length uc) m) => rtext_prog m 32 hok (by decide) (by omega) (by omega) _ W hW)
    obtain ⟨T, hT⟩ : ∃ T : ByteArray, ⟨(textB m).toArray⟩ = T := ⟨_, rfl⟩
    rw [hT] at KT KRT
    have hTs : T.size ≤ 100000 := by rw [← hT, mk_size]; omega
    have hTr : readS T.data.toList = some m := by rw [← hT]; exact readS_text (by decide) hok his (by omega)
    have KR := Lib.hid (fun W => pread_prog T hTs W)
    rw [hTr] at KR
    dsimp only [Option.isSome, Option.getD] at KR
    have KS := Lib.hid (fun u W (h1 : SSl W u m) (h2 : SSl W (.slice ua m.length uc) m) => rsame_prog m (by omega) u _ W h1 h2)
    obtain ⟨n, hn⟩ : ∃ n, m.length = n := ⟨_, rfl⟩
    rw [hn] at HU3 KT KRT KS ⊢
    have HN := Lib.hid hn
    have q0 : (T.toList == T.toList) = true := by simp
    clear hR hl20 hmo hgm hml hok his htl htl2 hT hTs hTr hn HU HGF
    by_cases h3 : s.size ≤ 3000
    · have i3 : ¬ (3000 : Int) < (s.size : Int) := by omega
      have H3 := Lib.hid h3
      clear h3
      go_wp2_with fail
      refine (KT.out _ HU3.out).mono ?_
      rintro e w4 ⟨rfl, hb4⟩
      have HB4 := Lib.hid (HB3.out.trans (hb4.mono HB3.out.size))
      have HU4 := Lib.hid (HU3.out.later hb4)
      clear hb4 KT
      go_wp2_with fail
      refine (KR.out _).mono ?_
      rintro e w5 ⟨r, rfl, hr, hb5⟩
      have HB5 := Lib.hid (HB4.out.trans (hb5.mono HB4.out.size))
      have HU5 := Lib.hid (HU4.out.later hb5)
      have HR5 := Lib.hid hr.out.sl
      obtain ⟨ra, rc, rfl⟩ := HR5.out.shape
      rw [HN.out] at HR5 ⊢
      clear hb5 KR hr
      go_wp2_with fail
      refine (KRT.out _ HU5.out).mono ?_
      rintro e w6 ⟨rfl, hb6⟩
      have HB6 := Lib.hid (HB5.out.trans (hb6.mono HB5.out.size))
      have HU6 := Lib.hid (HU5.out.later hb6)
      have HR6 := Lib.hid (HR5.out.later hb6)
      clear hb6 KRT
      go_wp2_with fail
      refine (KS.out _ _ HR6.out HU6.out).mono ?_
      rintro e w7 ⟨rfl, hb7⟩
      have HB7 := Lib.hid (HB6.out.trans (hb7.mono HB6.out.size))
      clear hb7 KS HU3 HU4 HU5 HU6 HR5 HR6
      have KR2 := Lib.hid (fun W => pread_prog s (by have := H3.out; omega) W)
      obtain ⟨O, hO⟩ : ∃ O, readS s.data.toList = O := ⟨_, rfl⟩
      rw [hO] at KR2
      have HO := Lib.hid hO
      clear hO
      go_wp2_with fail
      refine (KR2.out _).mono ?_
      rintro e w8 ⟨x, rfl, hx8, hb8⟩
      have HB8 := Lib.hid (HB7.out.trans (hb8.mono HB7.out.size))
      have HX8 := Lib.hid hx8.out.sl
      clear hb8 KR2 hx8
      cases O with
      | none =>
        obtain ⟨xa, xc, rfl⟩ := HX8.out.shape
        dsimp only [Option.isSome, Option.getD, List.length_nil]
        go_wp2_with fail
        go_ret
        exact ⟨rfl, HB8.out⟩
      | some m2 =>
        have hlen : s.data.toList.length ≤ 3000 := by have := H3.out; simpa using this
        obtain ⟨e2, his2⟩ := readS_some HO.out
        have hok2 := readS_ok HO.out hlen (by decide) (by decide)
        have hml2 := len_le_text m2
        rw [← e2] at hml2
        have hS : (⟨(textB m2).toArray⟩ : ByteArray) = s := by rw [← e2]
        have KT2 := Lib.hid (fun (u : Value) W (hW : SSl W u m2) => ptext_prog m2 3000 hok2 (by decide) his2 (by omega) (by rw [← e2]; omega) u W hW)
        rw [hS] at KT2
        have HX9 : Hid (SSl w8 x m2) := HX8
        obtain ⟨xa, xc, rfl⟩ := HX9.out.shape
        dsimp only [Option.isSome, Option.getD]
        have q1 : (s.toList == s.toList) = true := by simp
        clear hlen e2 his2 hok2 hml2 hS HX8 HO
        go_wp2_with fail
        refine (KT2.out _ _ HX9.out).mono ?_
        rintro e w9 ⟨rfl, hb9⟩
        have HB9 := Lib.hid (HB8.out.trans (hb9.mono HB8.out.size))
        clear hb9 KT2
        go_wp2_with fail
        go_ret
        exact ⟨rfl, HB9.out⟩
    · have i3 : (3000 : Int) < (s.size : Int) := by omega
      clear h3
      go_wp2_with fail
      go_ret
      exact ⟨rfl, HB3.out⟩
end Go.Proofs.YtpkkdjmcabefbaaDoor
