/- The document's block under a key, walked. -/
import Derived.Test.YtohjnhekkifhbabAesRefD
namespace Go.Proofs.Ytohjnhekkifhbab
open Go.RowKit

/-- The state ahead of round r. -/
def stt (KW B : Nat → UInt8) : Nat → Nat → UInt8
  | 0 => B
  | r + 1 => if r < 10 then rnds KW B r else enc KW B
theorem stt_first (KW B : Nat → UInt8) : ad KW 0 B = stt KW B (0 + 1) := rfl
theorem stt_mid (KW B : Nat → UInt8) (r : Nat) (h0 : 0 < r) (h : r < 10) : ad KW r (mx (sh (stt KW B r))) = stt KW B (r + 1) := by
  obtain ⟨q, rfl⟩ : ∃ q, r = q + 1 := ⟨r - 1, by omega⟩
  show ad KW (q + 1) (mx (sh (if q < 10 then rnds KW B q else enc KW B))) = if q + 1 < 10 then rnds KW B (q + 1) else enc KW B
  rw [if_pos (by omega), if_pos h]; rfl
theorem stt_last (KW B : Nat → UInt8) : ad KW 10 (sh (stt KW B 10)) = stt KW B (10 + 1) := rfl

set_option maxRecDepth 100000 in
set_option maxHeartbeats 8000000 in
theorem block_ref (key b : ByteArray) (gb cb : Nat) (w : World) (hk : key.size = 16) (hb16 : b.size = 16) (hbox : Reads w gb 256 boxT) :
    Calls Try.prog 14 #[.string key, .string b, .slice (some ⟨gb, 0, none⟩) 256 cb] w fun e w' => e = .returned (.string (encT key b)) ∧ Below w.heap.size w w' := by
  have hwords := words_ref key gb cb w hk hbox
  obtain ⟨KW, hKW⟩ : ∃ KW, KWf key.data.toList = KW := ⟨_, rfl⟩
  obtain ⟨B, hB⟩ : ∃ B, blk b = B := ⟨_, rfl⟩
  have HT : Hid (encT key b = txt (enc KW B)) := Lib.hid (by unfold encT; rw [hKW, hB])
  rw [hKW] at hwords
  have HW := Lib.hid hwords
  have HB := Lib.hid hB
  have HBS := Lib.hid hb16
  have hgb := hbox.lt
  clear hwords hKW hB hk hb16
  go_enter Try.func14, Try.ntmps14
  go_wp2_with fail
  refine HW.out.mono ?_
  rintro e w1 ⟨L, gv, cv, rfl, hL, hown, hrows, hb1⟩
  have hbox1 : Reads w1 gb 256 boxT := hbox.later hb1
  go_wp2_with (first
    | (refine list_bytes (e := 5) Try.underlying9 Try.underlying29 Try.underlying5 rfl _ rfl b rfl ?_))
  intro cap w2 hp2 hb2
  rw [HBS.out, HB.out] at hp2
  rw [HBS.out]
  go_wp2_with fail
  go_loopw [8, 9] (fun sv rv WX => ∃ (r gs cs : Nat), r ≤ 11 ∧ rv = .int .i64 r ∧ sv = .slice (some ⟨gs, 0, none⟩) 16 cs ∧ w1.heap.size ≤ gs ∧ Part WX gs 16 (stt KW B r) ∧ Below w1.heap.size w1 WX) (fun _ rv _ => 11 - (intOf rv).toNat)
  case atStart => exact ⟨0, w1.heap.size, cap, by omega, rfl, rfl, Nat.le_refl _, hp2, hb2⟩
  case round =>
    clear hp2 hb2
    obtain ⟨r, gs, cs, hr, rfl, rfl, hgs, hps, hbs⟩ := hrel
    obtain ⟨wo, hwo⟩ : ∃ x : World, x = wr := ⟨_, rfl⟩
    subst hwo
    by_cases hlt : r ≤ 10
    · have d10 : decide ((r : Int) ≤ 10) = true := by simp; omega
      by_cases hr0 : 0 < r
      · have d0 : decide ((0 : Int) < (r : Int)) = true := by simp; omega
        obtain ⟨S, hS⟩ : ∃ S, stt KW B r = S := ⟨_, rfl⟩
        rw [hS] at hps
        have HS : Hid (S = stt KW B r) := Lib.hid hS.symm
        clear hS
        have hgl := hps.lt
        go_wp2_with (first
            | (at_make; refine list_makeN Try.bytesSl rfl _ _ rfl 16 _ _ rfl rfl rfl rfl (by omega) (by unfold maxLen; omega) rfl ?_))
        intro w5 hrow hb5
        obtain ⟨gt, hgt⟩ : ∃ g, wo.heap.size = g := ⟨_, rfl⟩
        have hgtl : w1.heap.size ≤ gt := by rw [← hgt]; exact hbs.size
        rw [hgt] at hrow hgl ⊢
        have hbf : Below w1.heap.size w1 w5 := belowNext hbs hb5
        have hps5 := hps.later hb5
        have hbx5 : Reads w5 gb 256 boxT := hbox1.later hbf
        clear hb5 hgt hps hbs
        go_wp2_with fail
        go_loopw [11] (fun cv WX => ∃ c : Nat, c ≤ 4 ∧ cv = .int .i64 c ∧ WX.rowIs gt 5 16 (fun j => if j < 4 * c then byteV (sh S j) else byteV 0) ∧ Part WX gs 16 S ∧ Below w1.heap.size w1 WX) (fun cv _ => 4 - (intOf cv).toNat)
        case atStart => exact ⟨0, by omega, rfl, hrow.congr (fun j _ => by simp; rfl), hps5, hbf⟩
        case round =>
          clear hrow hps5 hbx5 hbf
          obtain ⟨c, hc, rfl, hrow, hps, hbs⟩ := hrel
          by_cases hlc : c < 4
          · have dc : decide ((c : Int) < 4) = true := by simp; omega
            have hrow2 : wr.rowIs gt 5 16 (fun j => if j < 4 * c + 0 then byteV (sh S j) else byteV 0) := hrow
            clear hrow
            go_wp2_with fail
            go_loopw [12] (fun qv WX => ∃ q : Nat, q ≤ 4 ∧ qv = .int .i64 q ∧ WX.rowIs gt 5 16 (fun j => if j < 4 * c + q then byteV (sh S j) else byteV 0) ∧ Part WX gs 16 S ∧ Below w1.heap.size w1 WX) (fun qv _ => 4 - (intOf qv).toNat)
            case atStart => exact ⟨0, by omega, rfl, hrow2, hps, hbs⟩
            case round =>
              clear hrow2 hps hbs
              obtain ⟨q, hq, rfl, hrow, hps, hbs⟩ := hrel
              by_cases hlq : q < 4
              · have c1 := hps.cell (4 * ((c + q) % 4) + q) (by omega)
                obtain ⟨x, hx⟩ : ∃ x, S (4 * ((c + q) % 4) + q) = x := ⟨_, rfl⟩
                rw [hx] at c1
                have c2 := (hbox1.later hbs).box x
                obtain ⟨z, hz⟩ : ∃ z, sb x = z := ⟨_, rfl⟩
                rw [hz] at c2
                have HZ : Hid (sh S (4 * c + q) = z) := Lib.hid (by
                  unfold sh; rw [show (4 * c + q + 4 * ((4 * c + q) % 4)) % 16 = 4 * ((c + q) % 4) + q by omega, hx, hz])
                have lx := x.toNat_lt
                have x0 : (0 : Int) ≤ (x.toNat : Int) := by omega
                have x1 : (x.toNat : Int) < 256 := by omega
                have c3 := hrow.cell (i := 4 * c + q) (by omega)
                have f3 := hrow.frozen (4 * c + q)
                simp only [Nat.lt_irrefl, if_false, byteV] at c3
                have a0 : (0 : Int) ≤ 4 * (c : Int) + (q : Int) := by omega
                have a1 : 4 * (c : Int) + (q : Int) < 16 := by omega
                have n1 : (4 * (c : Int) + (q : Int)).toNat = 4 * c + q := by omega
                have a2 : (0 : Int) ≤ 4 * (((c : Int) + (q : Int)) % 4) + (q : Int) := by omega
                have a3 : 4 * (((c : Int) + (q : Int)) % 4) + (q : Int) < 16 := by omega
                have n2 : (4 * (((c : Int) + (q : Int)) % 4) + (q : Int)).toNat = 4 * ((c + q) % 4) + q := by omega
                clear hx hz lx
                go_wp2_with fail
                go_roundw
                case rel =>
                  refine ⟨q + 1, by omega, by go_num, row_put hrow _ _ (fun j _ => ?_), hps.setOther (by simp; omega) _, hbs.setCell hgtl _⟩
                  by_cases hj : j = 4 * c + q
                  · subst hj; rw [if_pos (by omega), if_pos rfl, HZ.out]; rfl
                  · rw [if_neg hj]
                    by_cases hl : j < 4 * c + q
                    · rw [if_pos hl, if_pos (by omega)]
                    · rw [if_neg hl, if_neg (by omega)]
                case measure => simp [intOf]; omega
              · have hge : (4 : Int) ≤ (q : Int) := by omega
                have hrow3 : wr.rowIs gt 5 16 (fun j => if j < 4 * (c + 1) then byteV (sh S j) else byteV 0) := by
                  rw [show 4 * (c + 1) = 4 * c + q by omega]; exact hrow
                clear hrow hlq
                go_wp2_with fail
                go_roundw
                case rel => exact ⟨c + 1, by omega, by go_num, hrow3, hps, hbs⟩
                case measure => simp [intOf]; omega
          · have hge : (4 : Int) ≤ (c : Int) := by omega
            have hrow3 : wr.rowIs gt 5 16 (fun j => byteV (sh S j)) := hrow.congr (fun j hj => by rw [if_pos (by omega)])
            clear hrow hlc hps
            by_cases hr9 : r < 10
            · have d9 : decide ((r : Int) < 10) = true := by simp; omega
              go_wp2_with fail
              refine (mixed_ref gt 16 (sh S) wr (Part.of_row hrow3)).mono ?_
              rintro e w6 ⟨rfl, hrow6, hb6⟩
              have hbs6 := belowNext hbs hb6
              have hsz6 := hbs.size
              obtain ⟨M, hMe⟩ : ∃ M, mx (sh S) = M := ⟨_, rfl⟩
              rw [hMe] at hrow6
              have HM : Hid (ad KW r M = stt KW B (r + 1)) := Lib.hid (by rw [← hMe, HS.out]; exact stt_mid KW B r hr0 hr9)
              obtain ⟨wy, hwy⟩ : ∃ x : World, x = wr := ⟨_, rfl⟩
              subst hwy
              obtain ⟨gs, hgse⟩ : ∃ g, wy.heap.size = g := ⟨_, rfl⟩
              have hps := Part.of_row hrow6
              rw [hgse] at hps hsz6 ⊢
              have hgs := hsz6
              have hbs := hbs6
              clear hMe hrow6 hb6 hbs6 hgse hge hrow3 hsz6
              go_wp2_with fail
              go_loopw [13] (fun cv WX => ∃ c : Nat, c ≤ 4 ∧ cv = .int .i64 c ∧ Part WX gs 16 (fun j => if j < 4 * c then ad KW r M j else M j) ∧ Below w1.heap.size w1 WX) (fun cv _ => 4 - (intOf cv).toNat)
              case atStart => exact ⟨0, by omega, rfl, hps.congr (fun j _ => by simp), hbs⟩
              case round =>
                clear hps hbs
                obtain ⟨c, hc, rfl, hps, hbs⟩ := hrel
                by_cases hlc : c < 4
                · have dc : decide ((c : Int) < 4) = true := by simp; omega
                  have hps2 : Part wr gs 16 (fun j => if j < 4 * c + 0 then ad KW r M j else M j) := hps
                  clear hps
                  go_wp2_with fail
                  go_loopw [14] (fun qv WX => ∃ q : Nat, q ≤ 4 ∧ qv = .int .i64 q ∧ Part WX gs 16 (fun j => if j < 4 * c + q then ad KW r M j else M j) ∧ Below w1.heap.size w1 WX) (fun qv _ => 4 - (intOf qv).toNat)
                  case atStart => exact ⟨0, by omega, rfl, hps2, hbs⟩
                  case round =>
                    clear hps2 hbs
                    obtain ⟨q, hq, rfl, hps, hbs⟩ := hrel
                    by_cases hlq : q < 4
                    · have c1 := hps.cell (4 * c + q) (by omega)
                      have f1 := hps.frozen (4 * c + q) (by omega)
                      simp only [Nat.lt_irrefl, if_false] at c1
                      obtain ⟨p, hp⟩ := get_some (L := L) (k := 4 * r + c) (by omega)
                      have cw := (hown.later hbs).cellg (4 * r + c) _ (rowVs_get hp)
                      have c2 := ((hrows.later hbs).row (4 * r + c) p hp).cell q hlq
                      obtain ⟨x, hx, ex⟩ := xname (M (4 * c + q)) (KW (4 * (4 * r + c) + q))
                      have HX : Hid (ad KW r M (4 * c + q) = x) := Lib.hid (by unfold ad; rw [show 16 * r + (4 * c + q) = 4 * (4 * r + c) + q by omega, hx])
                      clear hx hp
                      have q0 : IntKind.i64.wrap (4 * (c : Int)) = 4 * (c : Int) := IntWalk.i64_in _ (by omega)
                      have q1 : IntKind.i64.wrap (4 * (c : Int) + (q : Int)) = 4 * (c : Int) + (q : Int) := IntWalk.i64_in _ (by omega)
                      have q2 : IntKind.i64.wrap (4 * (r : Int)) = 4 * (r : Int) := IntWalk.i64_in _ (by omega)
                      have q3 : IntKind.i64.wrap (4 * (r : Int) + (c : Int)) = 4 * (r : Int) + (c : Int) := IntWalk.i64_in _ (by omega)
                      have a0 : (0 : Int) ≤ 4 * (c : Int) + (q : Int) := by omega
                      have a1 : 4 * (c : Int) + (q : Int) < 16 := by omega
                      have a2 : (0 : Int) ≤ 4 * (r : Int) + (c : Int) := by omega
                      have a3 : 4 * (r : Int) + (c : Int) < 44 := by omega
                      have a4 : (0 : Int) ≤ (q : Int) := by omega
                      have a5 : (q : Int) < 4 := by omega
                      have n1 : (4 * (c : Int) + (q : Int)).toNat = 4 * c + q := by omega
                      have n2 : (4 * (r : Int) + (c : Int)).toNat = 4 * r + c := by omega
                      go_wp2_with fail
                      go_still_tail 24, (by kernel_rfl)
                      go_wp2
                      go_roundw
                      case rel =>
                        refine ⟨q + 1, by omega, by go_num, Part.drew (hps.set (4 * c + q) x _ (fun m _ => ?_)), (hbs.setCell hgs _).drew⟩
                        by_cases hm : m = 4 * c + q
                        · subst hm; rw [if_pos (by omega), if_pos rfl, HX.out]
                        · rw [if_neg hm]
                          by_cases hl : m < 4 * c + q
                          · rw [if_pos hl, if_pos (by omega)]
                          · rw [if_neg hl, if_neg (by omega)]
                      case measure => simp [intOf]; omega
                    · have hge : (4 : Int) ≤ (q : Int) := by omega
                      have hps3 : Part wr gs 16 (fun j => if j < 4 * (c + 1) then ad KW r M j else M j) := by
                        rw [show 4 * (c + 1) = 4 * c + q by omega]; exact hps
                      clear hps hlq
                      go_wp2_with fail
                      go_roundw
                      case rel => exact ⟨c + 1, by omega, by go_num, hps3, hbs⟩
                      case measure => simp [intOf]; omega
                · have hge : (4 : Int) ≤ (c : Int) := by omega
                  have hps3 : Part wr gs 16 (stt KW B (r + 1)) := hps.congr (fun j hj => by rw [if_pos (by omega), ← HM.out])
                  clear hps hlc
                  go_wp2_with fail
                  go_roundw
                  case rel => exact ⟨r + 1, gs, 16, by omega, by go_num, rfl, hgs, hps3, hbs⟩
                  case measure => simp [intOf]; omega

            · have hr10 : r = 10 := by omega
              obtain ⟨M, hMe⟩ : ∃ M, sh S = M := ⟨_, rfl⟩
              rw [hMe] at hrow3
              have HM : Hid (ad KW r M = stt KW B (r + 1)) := Lib.hid (by rw [← hMe, HS.out]; subst hr10; exact stt_last KW B)
              have hps := Part.of_row hrow3
              have hgs := hgtl
              have hnr : (10 : Int) ≤ (r : Int) := by omega
              have d9 : decide ((r : Int) < 10) = false := by simp; omega
              clear hMe hrow3 hr10 hr9
              go_wp2_with fail
              go_loopw [13] (fun cv WX => ∃ c : Nat, c ≤ 4 ∧ cv = .int .i64 c ∧ Part WX gt 16 (fun j => if j < 4 * c then ad KW r M j else M j) ∧ Below w1.heap.size w1 WX) (fun cv _ => 4 - (intOf cv).toNat)
              case atStart => exact ⟨0, by omega, rfl, hps.congr (fun j _ => by simp), hbs⟩
              case round =>
                clear hps hbs
                obtain ⟨c, hc, rfl, hps, hbs⟩ := hrel
                by_cases hlc : c < 4
                · have dc : decide ((c : Int) < 4) = true := by simp; omega
                  have hps2 : Part wr gt 16 (fun j => if j < 4 * c + 0 then ad KW r M j else M j) := hps
                  clear hps
                  go_wp2_with fail
                  go_loopw [14] (fun qv WX => ∃ q : Nat, q ≤ 4 ∧ qv = .int .i64 q ∧ Part WX gt 16 (fun j => if j < 4 * c + q then ad KW r M j else M j) ∧ Below w1.heap.size w1 WX) (fun qv _ => 4 - (intOf qv).toNat)
                  case atStart => exact ⟨0, by omega, rfl, hps2, hbs⟩
                  case round =>
                    clear hps2 hbs
                    obtain ⟨q, hq, rfl, hps, hbs⟩ := hrel
                    by_cases hlq : q < 4
                    · have c1 := hps.cell (4 * c + q) (by omega)
                      have f1 := hps.frozen (4 * c + q) (by omega)
                      simp only [Nat.lt_irrefl, if_false] at c1
                      obtain ⟨p, hp⟩ := get_some (L := L) (k := 4 * r + c) (by omega)
                      have cw := (hown.later hbs).cellg (4 * r + c) _ (rowVs_get hp)
                      have c2 := ((hrows.later hbs).row (4 * r + c) p hp).cell q hlq
                      obtain ⟨x, hx, ex⟩ := xname (M (4 * c + q)) (KW (4 * (4 * r + c) + q))
                      have HX : Hid (ad KW r M (4 * c + q) = x) := Lib.hid (by unfold ad; rw [show 16 * r + (4 * c + q) = 4 * (4 * r + c) + q by omega, hx])
                      clear hx hp
                      have q0 : IntKind.i64.wrap (4 * (c : Int)) = 4 * (c : Int) := IntWalk.i64_in _ (by omega)
                      have q1 : IntKind.i64.wrap (4 * (c : Int) + (q : Int)) = 4 * (c : Int) + (q : Int) := IntWalk.i64_in _ (by omega)
                      have q2 : IntKind.i64.wrap (4 * (r : Int)) = 4 * (r : Int) := IntWalk.i64_in _ (by omega)
                      have q3 : IntKind.i64.wrap (4 * (r : Int) + (c : Int)) = 4 * (r : Int) + (c : Int) := IntWalk.i64_in _ (by omega)
                      have a0 : (0 : Int) ≤ 4 * (c : Int) + (q : Int) := by omega
                      have a1 : 4 * (c : Int) + (q : Int) < 16 := by omega
                      have a2 : (0 : Int) ≤ 4 * (r : Int) + (c : Int) := by omega
                      have a3 : 4 * (r : Int) + (c : Int) < 44 := by omega
                      have a4 : (0 : Int) ≤ (q : Int) := by omega
                      have a5 : (q : Int) < 4 := by omega
                      have n1 : (4 * (c : Int) + (q : Int)).toNat = 4 * c + q := by omega
                      have n2 : (4 * (r : Int) + (c : Int)).toNat = 4 * r + c := by omega
                      go_wp2_with fail
                      go_still_tail 24, (by kernel_rfl)
                      go_wp2
                      go_roundw
                      case rel =>
                        refine ⟨q + 1, by omega, by go_num, Part.drew (hps.set (4 * c + q) x _ (fun m _ => ?_)), (hbs.setCell hgs _).drew⟩
                        by_cases hm : m = 4 * c + q
                        · subst hm; rw [if_pos (by omega), if_pos rfl, HX.out]
                        · rw [if_neg hm]
                          by_cases hl : m < 4 * c + q
                          · rw [if_pos hl, if_pos (by omega)]
                          · rw [if_neg hl, if_neg (by omega)]
                      case measure => simp [intOf]; omega
                    · have hge : (4 : Int) ≤ (q : Int) := by omega
                      have hps3 : Part wr gt 16 (fun j => if j < 4 * (c + 1) then ad KW r M j else M j) := by
                        rw [show 4 * (c + 1) = 4 * c + q by omega]; exact hps
                      clear hps hlq
                      go_wp2_with fail
                      go_roundw
                      case rel => exact ⟨c + 1, by omega, by go_num, hps3, hbs⟩
                      case measure => simp [intOf]; omega
                · have hge : (4 : Int) ≤ (c : Int) := by omega
                  have hps3 : Part wr gt 16 (stt KW B (r + 1)) := hps.congr (fun j hj => by rw [if_pos (by omega), ← HM.out])
                  clear hps hlc
                  go_wp2_with fail
                  go_roundw
                  case rel => exact ⟨r + 1, gt, 16, by omega, by go_num, rfl, hgs, hps3, hbs⟩
                  case measure => simp [intOf]; omega


      · have d0 : decide ((0 : Int) < (r : Int)) = false := by simp; omega
        have hr00 : r = 0 := by omega
        obtain ⟨M, hMe⟩ : ∃ M, stt KW B r = M := ⟨_, rfl⟩
        rw [hMe] at hps
        have HM : Hid (ad KW r M = stt KW B (r + 1)) := Lib.hid (by rw [← hMe]; subst hr00; rfl)
        have hnr : (r : Int) ≤ 0 := by omega
        clear hMe hr00
        go_wp2_with fail
        go_loopw [13] (fun cv WX => ∃ c : Nat, c ≤ 4 ∧ cv = .int .i64 c ∧ Part WX gs 16 (fun j => if j < 4 * c then ad KW r M j else M j) ∧ Below w1.heap.size w1 WX) (fun cv _ => 4 - (intOf cv).toNat)
        case atStart => exact ⟨0, by omega, rfl, hps.congr (fun j _ => by simp), hbs⟩
        case round =>
          clear hps hbs
          obtain ⟨c, hc, rfl, hps, hbs⟩ := hrel
          by_cases hlc : c < 4
          · have dc : decide ((c : Int) < 4) = true := by simp; omega
            have hps2 : Part wr gs 16 (fun j => if j < 4 * c + 0 then ad KW r M j else M j) := hps
            clear hps
            go_wp2_with fail
            go_loopw [14] (fun qv WX => ∃ q : Nat, q ≤ 4 ∧ qv = .int .i64 q ∧ Part WX gs 16 (fun j => if j < 4 * c + q then ad KW r M j else M j) ∧ Below w1.heap.size w1 WX) (fun qv _ => 4 - (intOf qv).toNat)
            case atStart => exact ⟨0, by omega, rfl, hps2, hbs⟩
            case round =>
              clear hps2 hbs
              obtain ⟨q, hq, rfl, hps, hbs⟩ := hrel
              by_cases hlq : q < 4
              · have c1 := hps.cell (4 * c + q) (by omega)
                have f1 := hps.frozen (4 * c + q) (by omega)
                simp only [Nat.lt_irrefl, if_false] at c1
                obtain ⟨p, hp⟩ := get_some (L := L) (k := 4 * r + c) (by omega)
                have cw := (hown.later hbs).cellg (4 * r + c) _ (rowVs_get hp)
                have c2 := ((hrows.later hbs).row (4 * r + c) p hp).cell q hlq
                obtain ⟨x, hx, ex⟩ := xname (M (4 * c + q)) (KW (4 * (4 * r + c) + q))
                have HX : Hid (ad KW r M (4 * c + q) = x) := Lib.hid (by unfold ad; rw [show 16 * r + (4 * c + q) = 4 * (4 * r + c) + q by omega, hx])
                clear hx hp
                have q0 : IntKind.i64.wrap (4 * (c : Int)) = 4 * (c : Int) := IntWalk.i64_in _ (by omega)
                have q1 : IntKind.i64.wrap (4 * (c : Int) + (q : Int)) = 4 * (c : Int) + (q : Int) := IntWalk.i64_in _ (by omega)
                have q2 : IntKind.i64.wrap (4 * (r : Int)) = 4 * (r : Int) := IntWalk.i64_in _ (by omega)
                have q3 : IntKind.i64.wrap (4 * (r : Int) + (c : Int)) = 4 * (r : Int) + (c : Int) := IntWalk.i64_in _ (by omega)
                have a0 : (0 : Int) ≤ 4 * (c : Int) + (q : Int) := by omega
                have a1 : 4 * (c : Int) + (q : Int) < 16 := by omega
                have a2 : (0 : Int) ≤ 4 * (r : Int) + (c : Int) := by omega
                have a3 : 4 * (r : Int) + (c : Int) < 44 := by omega
                have a4 : (0 : Int) ≤ (q : Int) := by omega
                have a5 : (q : Int) < 4 := by omega
                have n1 : (4 * (c : Int) + (q : Int)).toNat = 4 * c + q := by omega
                have n2 : (4 * (r : Int) + (c : Int)).toNat = 4 * r + c := by omega
                go_wp2_with fail
                go_still_tail 24, (by kernel_rfl)
                go_wp2
                go_roundw
                case rel =>
                  refine ⟨q + 1, by omega, by go_num, Part.drew (hps.set (4 * c + q) x _ (fun m _ => ?_)), (hbs.setCell hgs _).drew⟩
                  by_cases hm : m = 4 * c + q
                  · subst hm; rw [if_pos (by omega), if_pos rfl, HX.out]
                  · rw [if_neg hm]
                    by_cases hl : m < 4 * c + q
                    · rw [if_pos hl, if_pos (by omega)]
                    · rw [if_neg hl, if_neg (by omega)]
                case measure => simp [intOf]; omega
              · have hge : (4 : Int) ≤ (q : Int) := by omega
                have hps3 : Part wr gs 16 (fun j => if j < 4 * (c + 1) then ad KW r M j else M j) := by
                  rw [show 4 * (c + 1) = 4 * c + q by omega]; exact hps
                clear hps hlq
                go_wp2_with fail
                go_roundw
                case rel => exact ⟨c + 1, by omega, by go_num, hps3, hbs⟩
                case measure => simp [intOf]; omega
          · have hge : (4 : Int) ≤ (c : Int) := by omega
            have hps3 : Part wr gs 16 (stt KW B (r + 1)) := hps.congr (fun j hj => by rw [if_pos (by omega), ← HM.out])
            clear hps hlc
            go_wp2_with fail
            go_roundw
            case rel => exact ⟨r + 1, gs, cs, by omega, by go_num, rfl, hgs, hps3, hbs⟩
            case measure => simp [intOf]; omega

    · have hr11 : r = 11 := by omega
      have hnr : (10 : Int) < (r : Int) := by omega
      have hcv := run_convert_bytes_back (P := Try.prog) wo 29 9 5 ⟨gs, 0, none⟩ cs ((List.range 16).map (enc KW B)) Try.underlying29 Try.underlying5 Try.underlying9 (fun j hj => by
        have hj2 : j < 16 := by simpa using hj
        rw [Addr.add_mid, Nat.zero_add, hps.cell j hj2]
        subst hr11
        simp [stt])
      rw [List.length_map, List.length_range] at hcv
      replace hcv : (convert 29 9 (.slice (some ⟨gs, 0, none⟩) 16 cs)).run Try.prog wo = .ok (.string (txt (enc KW B))) wo := hcv
      clear hlt hr11 hps
      go_wp2_with fail
      go_ret
      exact ⟨by rw [HT.out]; rfl, belowNext hb1 hbs⟩
end Go.Proofs.Ytohjnhekkifhbab
