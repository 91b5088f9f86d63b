/- The document's Roots, walked. -/
import Derived.Test.YtohjnhekkifhbaaDoorNumT
import Derived.Test.YtohjnhekkifhbaaDoorNumK
import Derived.Test.YtohjnhekkifhbaaDoorShaRef
namespace Go.Proofs.YtohjnhekkifhbaaDoor
open Go.RowKit

theorem small1 {p i : Nat} (hp : p ≤ 320) (hi : i ≤ 3) : p * 4294967296 ^ i < 10000 ^ 100 := by
  have h1 : 4294967296 ^ i ≤ 4294967296 ^ 3 := Nat.pow_le_pow_right (by decide) hi
  exact Nat.lt_of_le_of_lt (Nat.mul_le_mul hp h1) (by decide +kernel)
theorem small2 {y i : Nat} (hy : y ≤ 274877906944) (hi : i ≤ 3) : y ^ i < 10000 ^ 100 := by
  have h1 : y ^ i ≤ 274877906944 ^ i := Nat.pow_le_pow_left hy i
  have h2 : 274877906944 ^ i ≤ 274877906944 ^ 3 := Nat.pow_le_pow_right (by decide) hi
  exact Nat.lt_of_le_of_lt (Nat.le_trans h1 h2) (by decide +kernel)
theorem outF_len (w : Nat) : ∀ k, (outF w k).length ≤ k
  | 0 => by simp [outF]
  | k + 1 => by
    have ih := outF_len w k
    unfold outF
    split
    · simp; omega
    · omega
def u32N (x : Nat) : Value := .int .u32 (x : Int)
theorem allG_next {p d : Nat} (h2 : 2 ≤ d) : allG p (d + 1 - 2) = (allG p (d - 2) && decide (0 < p % d)) := by
  obtain ⟨k, rfl⟩ : ∃ k, d = k + 2 := ⟨d - 2, by omega⟩
  rfl
theorem outF_next {w p : Nat} (h2 : 2 ≤ p) : outF w (p + 1 - 2) = if allG p (p - 2) then outF w (p - 2) ++ [root p w % 4294967296] else outF w (p - 2) := by
  obtain ⟨k, rfl⟩ : ∃ k, p = k + 2 := ⟨p - 2, by omega⟩
  rfl
theorem outF_below {w k kx n : Nat} (hn : (outF w kx).length = n) (hk : (outF w k).length < n) : k < kx := by
  by_cases h : k < kx
  · exact h
  · have := outF_mono w kx k (by omega)
    omega

theorem Owns.down {w : World} {B B' : Nat} {e : TypeId} {v : Value} {xs : List Value} (h : Owns w B e v xs) (hb : B' ≤ B) : Owns w B' e v xs := by
  refine ⟨h.1, ?_⟩
  rcases h.2 with h0 | ⟨g, cap, cur, hv, hB, rest⟩
  · exact .inl h0
  · exact .inr ⟨g, cap, cur, hv, Nat.le_trans hb hB, rest⟩
set_option maxRecDepth 100000 in
set_option maxHeartbeats 8000000 in
theorem Roots_ref (n pw kx : Nat) (w : World) (hpw : pw ≤ 3) (hpw1 : 1 ≤ pw) (hkx : kx ≤ 310) (hn : (outF pw kx).length = n) :
    Calls Tryd.prog 14 #[.int .i64 n, .int .i64 pw] w fun e w' => ∃ v, e = .returned v ∧ Owns w' w.heap.size 35 v ((outF pw kx).map u32N) ∧ Below w.heap.size w w' := by
  have HN := Lib.hid hn
  clear hn
  go_enter Tryd.func14, Tryd.ntmps14
  go_wp2_with (first | (go_at_call 30; refine (digits_ref 4294967296 _ (by decide) (by decide)).mono ?_))
  rintro e w1 ⟨lo, go, co, rfl, hno, hco, hvo, hlo, hb1⟩
  have HVO := Lib.hid hvo
  have HLO : lo.length ≤ 100 := len_le hco hvo (by decide +kernel)
  clear hvo
  go_wp2_with fail
  go_loopw [5, 7] (fun ov pv WX => ∃ (p : Nat) (v : Value), v = ov ∧ pv = .int .u64 p ∧ 2 ≤ p ∧ p ≤ kx + 2 ∧ Owns WX w1.heap.size 35 v ((outF pw (p - 2)).map u32N) ∧ Below w.heap.size w WX ∧ Below w1.heap.size w1 WX) (fun _ pv _ => kx + 3 - (intOf pv).toNat)
  case atStart => exact ⟨2, _, rfl, rfl, by omega, by omega, Owns.nil _ _ _, hb1, Below.refl _ _⟩
  case round =>
    obtain ⟨p, v, rfl, rfl, hp2, hpk, hown, hb, hbo⟩ := hrel
    obtain ⟨a0, cp, rfl⟩ := hown.shape
    obtain ⟨c, hc⟩ : ∃ c, ((outF pw (p - 2)).map u32N).length = c := ⟨_, rfl⟩
    rw [hc] at hown ⊢
    have hcl : c ≤ 310 := by
      have := outF_len pw (p - 2)
      rw [← hc, List.length_map]; omega
    have HC : Hid ((outF pw (p - 2)).length = c) := Lib.hid (by simpa using hc)
    have HC2 := Lib.hid hc
    clear hc
    by_cases hcn : c < n
    · have hpx : p - 2 < kx := outF_below HN.out (by rw [HC.out]; exact hcn)
      have dc : decide ((c : Int) < (n : Int)) = true := by simp; omega
      go_wp2_with fail
      go_loopw [8, 9] (fun wv dv WX => ∃ d : Nat, 2 ≤ d ∧ d ≤ p ∧ dv = .int .u64 d ∧ wv = .bool (allG p (d - 2)) ∧ Same wr WX) (fun _ dv _ => p - (intOf dv).toNat)
      case atStart => exact ⟨2, by omega, by omega, rfl, rfl, Same.refl _⟩
      case round =>
        obtain ⟨wo, hwo⟩ : ∃ x, x = wr := ⟨_, rfl⟩
        subst hwo
        obtain ⟨d, hd2, hdp, rfl, rfl, hsm⟩ := hrel
        by_cases hdl : d < p
        · obtain ⟨r, hr⟩ : ∃ r, p % d = r := ⟨_, rfl⟩
          have e0 : (p : Int).tmod (d : Int) = (r : Int) := by rw [← hr]; rfl
          have hrl : r < d := by rw [← hr]; exact Nat.mod_lt _ (by omega)
          have HR := Lib.hid hr
          clear hr
          have d0 : ((d : Int) == 0) = false := by
            have : (d : Int) ≠ 0 := by omega
            simpa using this
          have d1 : (d : Int) ≠ 0 := by omega
          have d2 : d ≠ 0 := by omega
          have wr0 : IntKind.u64.wrap (r : Int) = (r : Int) := by rw [IntKind.wrap_u64]; omega
          have HA : Hid (allG p (d + 1 - 2) = (allG p (d - 2) && decide (0 < p % d))) := Lib.hid (allG_next hd2)
          have HH : Hid (allG p (d - 2) = allG p (d - 2)) := Lib.hid rfl
          revert HA
          generalize allG p (d - 2) = bb
          intro HA
          cases bb
          · go_wp2_with fail
            go_roundw
            case rel => exact ⟨d + 1, by omega, by omega, by go_num, by rw [HA.out]; rfl, hsm⟩
            case measure => simp [intOf]; omega
          · go_wp2_with fail
            go_roundw
            case rel => exact ⟨d + 1, by omega, by omega, by go_num, by rw [HA.out, HR.out]; rfl, hsm⟩
            case measure => simp [intOf]; omega
        · obtain rfl : d = p := by omega
          have hown2 := hown.same hsm
          have hbm : Below w.heap.size w wo := hb.trans (hsm.below _)
          have hbom : Below w1.heap.size w1 wo := hbo.trans (hsm.below _)
          have HX : Hid (outF pw (d + 1 - 2) = if allG d (d - 2) then outF pw (d - 2) ++ [root d pw % 4294967296] else outF pw (d - 2)) := Lib.hid (outF_next hp2)
          clear hown hb hbo hsm
          revert HX
          generalize allG d (d - 2) = bb
          intro HX
          cases bb
          · go_wp2_with fail
            go_roundw
            case rel => exact ⟨d + 1, _, rfl, by go_num, by omega, by omega, by rw [HX.out]; exact hown2, hbm, hbom⟩
            case measure => simp [intOf]; omega
          · go_wp2_with (first | (go_at_call 30; refine (digits_ref d _ (by omega) (by omega)).mono ?_))
            rintro e w2 ⟨l, g, cm, rfl, hnl, hcl2, hvl, hl0, hb2⟩
            have hl100 : l.length ≤ 100 := len_le hcl2 hvl (Nat.lt_of_lt_of_le (show d < 10000 by omega) (by decide +kernel))
            have HVL : Hid (val l = d * 4294967296 ^ 0) := Lib.hid (by rw [hvl]; simp)
            clear hvl
            go_wp2_with fail
            go_loopw [10, 11] (fun mv iv WX => ∃ (i : Nat) (l : List Nat) (g cm : Nat), i ≤ pw ∧ iv = .int .i64 i ∧ mv = .slice (some ⟨g, 0, none⟩) l.length cm ∧ Num WX g l ∧ Canon l ∧ Hid (val l = d * 4294967296 ^ i) ∧ 0 < l.length ∧ l.length ≤ 100 ∧ Below wo.heap.size wo WX) (fun _ iv _ => pw - (intOf iv).toNat)
            case atStart => exact ⟨0, l, g, cm, by omega, rfl, rfl, hnl, hcl2, HVL, hl0, hl100, hb2⟩
            case round =>
              clear hnl hcl2 HVL hl0 hl100 hb2
              obtain ⟨W2, hW2⟩ : ∃ x, x = wr := ⟨_, rfl⟩
              subst hW2
              obtain ⟨i, l, g, cm, hi, rfl, rfl, hnl, hcl2, HVL, hl0, hl100, hb2⟩ := hrel
              by_cases hil : i < pw
              · have di : decide ((i : Int) < (pw : Int)) = true := by simp; omega
                have hno2 : Num W2 go lo := (hno.later hbom).later hb2
                have hvp : 0 < val l := by rw [HVL.out]; exact Nat.mul_pos (by omega) (Nat.pow_pos (by decide))
                have hvp2 : 0 < val lo := by rw [HVO.out]; decide
                go_wp2_with (first | (go_at_call 31; refine (times_ref _ _ _ _ _ _ l lo _ rfl rfl hcl2 hco hnl hno2 hl100 HLO hvp hvp2).mono ?_))
                rintro e w3 ⟨l3, g3, cm3, rfl, hnl3, hcl3, hvl3, hl03, hb3⟩
                have hv3 : val l3 = d * 4294967296 ^ (i + 1) := by rw [hvl3, HVL.out, HVO.out, Nat.pow_succ, Nat.mul_assoc]
                have hl3 : l3.length ≤ 100 := len_le hcl3 hv3 (small1 (by omega) (by omega))
                have HV3 := Lib.hid hv3
                clear hv3 hvl3
                go_wp2_with fail
                go_roundw
                case rel => exact ⟨i + 1, l3, g3, cm3, by omega, by go_num, rfl, hnl3, hcl3, HV3, hl03, hl3, hb2.trans (hb3.mono hb2.size)⟩
                case measure => simp [intOf]; omega
              · obtain rfl : i = pw := by omega
                have hby : Below w.heap.size w W2 := hbm.trans (hb2.mono hbm.size)
                have hboy : Below w1.heap.size w1 W2 := hbom.trans (hb2.mono hbom.size)
                have hown3 := hown2.later hb2
                obtain ⟨M, hM⟩ : ∃ M, M = d * 4294967296 ^ i := ⟨_, rfl⟩
                rw [← hM] at HVL
                have HM := Lib.hid hM
                clear hM hb2 hbm hbom hown2
                go_wp2_with fail
                go_loopw [12, 13] (fun xv tv WX => ∃ (b x t : Nat), b ≤ 37 ∧ xv = .int .u64 x ∧ tv = .int .u64 t ∧ Hid (b = 0 → t = 0) ∧ Hid (∀ c, b = c + 1 → t = 2 ^ c) ∧ x + 2 * t ≤ 137438953472 ∧ Hid (gr M i b x = root d i) ∧ Below W2.heap.size W2 WX) (fun _ tv _ => (intOf tv).toNat)
                case atStart => exact ⟨37, 0, 68719476736, by omega, rfl, rfl, Lib.hid (by omega), Lib.hid (fun c hc => by
                  have e : c = 36 := by omega
                  subst e
                  rfl), by omega, Lib.hid (by rw [HM.out]; rfl), Below.refl _ _⟩
                case round =>
                  obtain ⟨W4, hW4⟩ : ∃ x, x = wr := ⟨_, rfl⟩
                  subst hW4
                  obtain ⟨b, x, t, hb37, rfl, rfl, HT0, HTS, hxt, HG, hb4⟩ := hrel
                  by_cases htp : 0 < t
                  · obtain ⟨c0, rfl⟩ : ∃ c0, b = c0 + 1 := ⟨b - 1, by
                      have := HT0.out
                      omega⟩
                    have HTC : Hid (t = 2 ^ c0) := Lib.hid (HTS.out c0 rfl)
                    have dt : decide ((0 : Int) < (t : Int)) = true := by simp; omega
                    obtain ⟨y, hy⟩ : ∃ y, x + t = y := ⟨_, rfl⟩
                    have ey : (x : Int) + (t : Int) = (y : Int) := by omega
                    have hyl : y ≤ 274877906944 := by omega
                    have hy0 : 0 < y := by omega
                    have wy : IntKind.u64.wrap (y : Int) = (y : Int) := by rw [IntKind.wrap_u64]; omega
                    have HY := Lib.hid hy
                    clear hy
                    go_wp2_with (first | (go_at_call 30; refine (digits_ref y _ (by omega) (by omega)).mono ?_))
                    rintro e w5 ⟨ly, gy, cy, rfl, hny, hcy, hvy, hly0, hb5⟩
                    have hly : ly.length ≤ 100 := len_le hcy hvy (by have := small2 (i := 1) hyl (by decide); simpa using this)
                    have HVY := Lib.hid hvy
                    have HV1 : Hid (val ly = y ^ 1) := Lib.hid (by rw [hvy, Nat.pow_one])
                    clear hvy
                    go_wp2_with fail
                    go_loopw [15, 16] (fun zv jv WX => ∃ (j : Nat) (z : List Nat) (gz cz : Nat), 1 ≤ j ∧ j ≤ i ∧ jv = .int .i64 j ∧ zv = .slice (some ⟨gz, 0, none⟩) z.length cz ∧ Num WX gz z ∧ Canon z ∧ Hid (val z = y ^ j) ∧ 0 < z.length ∧ z.length ≤ 100 ∧ Below w5.heap.size w5 WX) (fun _ jv _ => i - (intOf jv).toNat)
                    case atStart => exact ⟨1, ly, gy, cy, by omega, by omega, rfl, rfl, hny, hcy, HV1, hly0, hly, Below.refl _ _⟩
                    case round =>
                      obtain ⟨W6, hW6⟩ : ∃ x, x = wr := ⟨_, rfl⟩
                      subst hW6
                      obtain ⟨j, z, gz, cz, hj1, hji, rfl, rfl, hnz, hcz, HVZ, hz0, hz100, hb6⟩ := hrel
                      have hny6 : Num W6 gy ly := hny.later hb6
                      by_cases hjl : j < i
                      · have dj : decide ((j : Int) < (i : Int)) = true := by simp; omega
                        have hvp : 0 < val z := by rw [HVZ.out]; exact Nat.pow_pos hy0
                        have hvp2 : 0 < val ly := by rw [HVY.out]; exact hy0
                        go_wp2_with (first | (go_at_call 31; refine (times_ref _ _ _ _ _ _ z ly _ rfl rfl hcz hcy hnz hny6 hz100 hly hvp hvp2).mono ?_))
                        rintro e w7 ⟨l7, g7, cm7, rfl, hnl7, hcl7, hvl7, hl07, hb7⟩
                        have hv7 : val l7 = y ^ (j + 1) := by rw [hvl7, HVZ.out, HVY.out, Nat.pow_succ]
                        have hl7 : l7.length ≤ 100 := len_le hcl7 hv7 (small2 hyl (by omega))
                        have HV7 := Lib.hid hv7
                        clear hv7 hvl7
                        go_wp2_with fail
                        go_roundw
                        case rel => exact ⟨j + 1, l7, g7, cm7, by omega, by omega, by go_num, rfl, hnl7, hcl7, HV7, hl07, hl7, hb6.trans (hb7.mono hb6.size)⟩
                        case measure => simp [intOf]; omega
                      · obtain rfl : j = i := by omega
                        have hb46 : Below W2.heap.size W2 W6 := (hb4.trans (hb5.mono hb4.size)).trans (hb6.mono (Nat.le_trans hb4.size hb5.size))
                        have hnl6 : Num W6 g l := hnl.later hb46
                        obtain ⟨t2, ht2⟩ : ∃ t2, t / 2 = t2 := ⟨_, rfl⟩
                        have et2 : (t : Int).tdiv 2 = (t2 : Int) := by rw [Int.tdiv_eq_ediv_of_nonneg (by omega)]; omega
                        have hty : t2 < t := by omega
                        have ht22 : 2 * t2 ≤ t := by omega
                        have wt2 : IntKind.u64.wrap (t2 : Int) = (t2 : Int) := by rw [IntKind.wrap_u64]; omega
                        have HA0 : Hid (c0 = 0 → t2 = 0) := Lib.hid (fun h => by
                          have := HTC.out
                          subst h
                          simp at this
                          omega)
                        have HAS : Hid (∀ c, c0 = c + 1 → t2 = 2 ^ c) := Lib.hid (fun c h => by
                          have := HTC.out
                          subst h
                          rw [Nat.pow_succ] at this
                          omega)
                        have HGR : Hid (gr M j (c0 + 1) x = gr M j c0 (if y ^ j ≤ M then y else x)) := Lib.hid (by
                          show gr M j c0 (if (x + 2 ^ c0) ^ j ≤ M then x + 2 ^ c0 else x) = _
                          rw [← HTC.out, HY.out])
                        by_cases hle : y ^ j ≤ M
                        · have HQ : Hid (decide (val l < val z) = false) := Lib.hid (by rw [HVL.out, HVZ.out]; simpa using hle)
                          have HGN : Hid (gr M j c0 y = root d j) := Lib.hid (by rw [← HG.out, HGR.out, if_pos hle])
                          clear hle ht2
                          go_wp2_with (first | (go_at_call 32; refine (less_ref g gz cm cz l z _ hcl2 hcz hnl6 hnz hl100 hz100).mono ?_))
                          rintro e w8 ⟨rfl, hb8⟩
                          rw [HQ.out]
                          go_wp2_with fail
                          go_roundw
                          case rel => exact ⟨c0, y, t2, by omega, rfl, rfl, HA0, HAS, by omega, HGN, hb46.trans (hb8.mono hb46.size)⟩
                          case measure => simp [intOf]; omega
                        · have HQ : Hid (decide (val l < val z) = true) := Lib.hid (by rw [HVL.out, HVZ.out]; simp; omega)
                          have HGN : Hid (gr M j c0 x = root d j) := Lib.hid (by rw [← HG.out, HGR.out, if_neg hle])
                          clear hle ht2
                          go_wp2_with (first | (go_at_call 32; refine (less_ref g gz cm cz l z _ hcl2 hcz hnl6 hnz hl100 hz100).mono ?_))
                          rintro e w8 ⟨rfl, hb8⟩
                          rw [HQ.out]
                          go_wp2_with fail
                          go_roundw
                          case rel => exact ⟨c0, x, t2, by omega, rfl, rfl, HA0, HAS, by omega, HGN, hb46.trans (hb8.mono hb46.size)⟩
                          case measure => simp [intOf]; omega
                  · have hb0 : b = 0 := by
                      cases b with
                      | zero => rfl
                      | succ c =>
                        have h1 := HTS.out c rfl
                        have h2 : 0 < 2 ^ c := Nat.pow_pos (by decide)
                        omega
                    have HXR : Hid (x = root d i) := Lib.hid (by rw [← HG.out, hb0]; rfl)
                    have hown4 := hown3.later hb4
                    have hby4 : Below w.heap.size w W4 := hby.trans (hb4.mono hby.size)
                    have hboy4 : Below w1.heap.size w1 W4 := hboy.trans (hb4.mono hboy.size)
                    obtain ⟨xr, hxr⟩ : ∃ xr, x % 4294967296 = xr := ⟨_, rfl⟩
                    have ex : (x : Int).tmod 4294967296 = (xr : Int) := by rw [Int.tmod_eq_emod_of_nonneg (by omega)]; omega
                    have hxl : xr < 4294967296 := by omega
                    have wx0 : IntKind.u64.wrap (xr : Int) = (xr : Int) := by rw [IntKind.wrap_u64]; omega
                    have wx1 : IntKind.u32.wrap (xr : Int) = (xr : Int) := by rw [IntKind.wrap_u32]; omega
                    have HO : Hid ((outF i (d + 1 - 2)).map u32N = (outF i (d - 2)).map u32N ++ [.int .u32 (xr : Int)]) := Lib.hid (by
                      rw [HX.out, ← HXR.out, hxr]
                      simp [u32N])
                    have hle : ((outF i (d - 2)).map u32N).length ≤ 310 := by rw [HC2.out]; exact hcl
                    have htz : (t : Int) ≤ 0 := by omega
                    clear hb0 hxr hb4 hown3 hby hboy
                    go_wp2_with (first
                      | (at_builtin; refine list_app Tryd.u32Sl rfl _ _ rfl w1.heap.size _ _ rfl (hown4.alloc _) W4.heap.size _ rfl (heap_at_alloc W4 _) (by simp [Value.oneCell']) (by simp) (by simp at hle ⊢; unfold maxLen; omega) (by simp at hle ⊢; omega) (by have := hboy4.size; simp; omega) ?_))
                    intro v2 w9 hown9 hb9
                    have hbz := (hby4.alloc hby4.size _).trans (hb9.mono hb1.size)
                    have hbz1 := (hboy4.alloc hboy4.size _).trans hb9
                    have hown10 : Owns w9 w1.heap.size 35 v2 ((outF i (d + 1 - 2)).map u32N) := by rw [HO.out]; exact hown9
                    clear hown9 hown4 hb9 hby4 hboy4
                    go_wp2_with fail
                    go_roundw
                    case rel => exact ⟨d + 1, v2, rfl, by go_num, by omega, by omega, hown10, hbz, hbz1⟩
                    case measure => simp [intOf]; omega
    · have hEq : Hid (outF pw (p - 2) = outF pw kx) := Lib.hid (by
        refine outF_same _ _ _ ?_
        have h1 := outF_mono pw (p - 2) kx (by omega)
        have h2 := HN.out
        have h3 := HC.out
        omega)
      have dc : decide ((c : Int) < (n : Int)) = false := by simp; omega
      go_wp2_with fail
      go_ret
      exact ⟨.slice a0 c cp, by simp [Array.getD], by rw [← hEq.out]; exact Owns.down hown hb1.size, hb⟩
end Go.Proofs.YtohjnhekkifhbaaDoor
