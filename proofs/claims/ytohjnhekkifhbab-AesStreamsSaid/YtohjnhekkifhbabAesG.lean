/- The program's schedule of a key, walked. -/
import Derived.Test.YtohjnhekkifhbabAesF
namespace Go.Proofs.Ytohjnhekkifhbab
open Go.RowKit

set_option maxRecDepth 100000 in
set_option maxHeartbeats 4000000 in
theorem scheduled_prog (s : ByteArray) (w : World) (hs : s.size = 16) :
    Calls Try.prog 20 #[.string s] w fun e w' =>
      e = .returned (.agg (arrL 432 (schV (KWf s.data.toList) 176)).toArray) ∧ Below w.heap.size w w' := by
  obtain ⟨KW, hKW⟩ : ∃ KW, KW = KWf s.data.toList := ⟨_, rfl⟩
  have HK := Lib.hid hKW
  have HKA : Hid (∀ n, n < 16 → KW n = blk s n) := Lib.hid (fun n hn => by rw [hKW]; exact key_at s hs n hn)
  have hs1 : 16 ≤ s.size := by omega
  have hs2 : s.size ≤ 16 := by omega
  rw [← hKW]
  clear hKW hs
  have hz := zero_sched
  have hbs := built_sched KW
  go_enter Try.func20, Try.ntmps20
  go_wp2_with fail
  refine (boxBytes_at _).mono ?_
  rintro e w1 ⟨rfl, hb1⟩
  have rr1 : w1.rowIs w.heap.size 47 432 (fun _ => byteV 0) := rowIs_later (rowIs_of_block (heap_at_alloc w _)) hb1
  have z1 := hb1.size
  have hq1 : Below w.heap.size w w1 := ((Below.refl _ _).alloc (Nat.le_refl _) _).trans (hb1.mono (by simp))
  clear hb1
  go_wp2_with (first
    | (refine list_build_arr rfl _ _ rfl (arrL 432 (schV KW 0)).toArray (by kernel_rfl) ?_)
    | (refine list_store_arr (ty := 47) (n := 432) (by kernel_rfl) rfl _ _ rfl w1.heap.size 47 (fun _ => byteV 0) _ rfl rfl (rowIs_of_block (heap_at_alloc w1 _)) (sch_one KW 0) ?_))
  intro w2 hr2 ho2
  simp at z1
  have rr2 : w2.rowIs w.heap.size 47 432 (fun _ => byteV 0) := ho2.row (World.rowIs.alloc rr1 _) (by omega)
  obtain ⟨g, hg⟩ : ∃ g, g = w1.heap.size := ⟨_, rfl⟩
  have hqq : Below w.heap.size w w2 := (hq1.alloc hq1.size _).trans (ho2.below (by omega) (by simp; omega))
  rw [← hg] at hr2 z1 ⊢
  have hz2 : g < w2.heap.size := hr2.lt
  clear ho2 rr1 hq1 hg hz hbs
  go_wp2_with fail
  go_loopw [11] (fun i wr => ∃ k : Nat, k ≤ 4 ∧ i = .int .i64 k ∧ wr.rowIs g 47 432 (schV KW (4 * k)) ∧ wr.rowIs w.heap.size 47 432 (fun _ => byteV 0) ∧ Below w.heap.size w wr) (fun i _ => 4 - (intOf i).toNat)
  case atStart => exact ⟨0, by omega, rfl, hr2, rr2, hqq⟩
  case round =>
    clear hr2 rr2 hqq
    obtain ⟨k, hk, rfl, hr, hr0, hb⟩ := hrel
    by_cases hlt : k < 4
    · have i0 : (0 : Int) ≤ (k : Int) := by omega
      have i1 : (k : Int) < 4 := by omega
      have i2 : (k : Int) < 44 := by omega
      have q0 : IntKind.i64.wrap (4 * (k : Int)) = 4 * (k : Int) := IntWalk.i64_in _ (by omega)
      have a0 : (0 : Int) ≤ 4 * (k : Int) := by omega
      have a1 : 4 * (k : Int) ≤ (s.size : Int) := by omega
      have n1 : (4 * (k : Int)).toNat = 4 * k := by omega
      have f := hr.frozen (256 + k * 4)
      go_wp2_with fail
      go_still_tail 8, (by kernel_rfl)
      refine list_copy_str_mid (e := 5) Try.underlying29 (by kernel_rfl) rfl _ _ rfl g (256 + k * 4) 4 4 432 rfl _ rfl (by simp; omega) 47 (schV KW (4 * k)) hr.drew (by omega) ?_
      intro w3 hr3 ho3
      have hr4 : w3.rowIs g 47 432 (schV KW (4 * (k + 1))) := hr3.congr (fun j _ => (sch_put4 (X := fun r => byteV ((s.extract (4 * k) s.size).data[r]?.getD 0)) (fun r hr => by rw [blk_extract _ _ _ (by omega), HKA.out _ (by omega)])).symm)
      have hr05 := ho3.row hr0.drew (by omega)
      have hb3 := hb.drew.trans (ho3.below (by omega) (by show _ ≤ wr.heap.size; exact hb.size))
      clear hr hr0 hb hr3 ho3
      go_wp2
      go_roundw
      case rel => exact ⟨k + 1, by omega, by go_num, hr4, hr05, hb3⟩
      case measure => simp [intOf]; omega
    · have hk4 : k = 4 := by omega
      have hr16 : wr.rowIs g 47 432 (schV KW (4 * 4)) := by rw [hk4] at hr; exact hr
      have hge : (4 : Int) ≤ (k : Int) := by omega
      clear hlt hk hk4 hr
      go_wp2_with fail
      clear hge
      go_loopw [5, 6] (fun pv iv wr => ∃ (i : Nat) (p : UInt8), 4 ≤ i ∧ i ≤ 44 ∧ iv = .int .i64 i ∧ pv = .int .u8 (p.toNat : Int) ∧ Hid (p = rc ((i + 3) / 4 - 1)) ∧ wr.rowIs g 47 432 (schV KW (4 * i)) ∧ wr.rowIs w.heap.size 47 432 (fun _ => byteV 0) ∧ Below w.heap.size w wr) (fun _ iv _ => 44 - (intOf iv).toNat)
      case atStart => exact ⟨4, 1, by omega, by omega, rfl, rfl, Lib.hid rfl, hr16, hr0, hb⟩
      case round =>
        clear hr16 hr0 hb
        obtain ⟨i, p, hi4, hi44, rfl, rfl, hp, hr, hr0, hb⟩ := hrel
        by_cases hlt : i < 44
        · have i0 : (0 : Int) ≤ (i : Int) := by omega
          have i1 : (i : Int) < 44 := by omega
          have i4 : (1 : Int) ≤ (i : Int) := by omega
          have n1 : ((i : Int) - 1).toNat = i - 1 := by omega
          obtain ⟨T, hT⟩ : ∃ T : Nat → UInt8, T = fun r => KW (4 * (i - 1) + r) := ⟨_, rfl⟩
          have HT := Lib.hid hT
          clear hT
          have hz44 : ∀ W, (zeroValue 44).run Try.prog W = .ok (.agg (arrL 4 (fun _ => byteV 0)).toArray) W := fun W => by kernel_rfl
          have hpart : ∀ r, r < 4 → schV KW (4 * i) (256 + (i - 1) * 4 + r) = byteV (T r) := fun r hr => by
            unfold schV; rw [HT.out, if_neg (by omega), if_pos (by omega), show 256 + (i - 1) * 4 + r - 256 = 4 * (i - 1) + r by omega]
          go_wp2_with (first
            | (refine list_load_part (d := .array 4 5) (n := 4) Try.underlying44 rfl (by kernel_rfl) rfl _ rfl g (256 + (i - 1) * 4) 432 47 (fun r => byteV (T r)) (schV KW (4 * i)) rfl hr (by omega) hpart ?_)
            | (refine list_store_arr (ty := 44) (n := 4) (by kernel_rfl) rfl _ _ rfl wr.heap.size 44 (fun _ => byteV 0) (fun r => byteV (T r)) rfl rfl (rowIs_of_block (heap_at_alloc wr _)) (fun _ => rfl) ?_))
          intro w3 hh ho3
          have hgw := hr.lt
          have hww := hr0.lt
          obtain ⟨h, hhe⟩ : ∃ h, wr.heap.size = h := ⟨_, rfl⟩
          have hb3 := (hb.alloc hb.size (.cells (arrL 4 (fun _ => byteV 0)).toArray 44)).trans (ho3.below hb.size (by have := hb.size; simp; omega))
          have hr3 := ho3.row (hr.alloc _) (by omega)
          have hr03 := ho3.row (hr0.alloc _) (by omega)
          rw [hhe] at hh hgw hww ⊢
          have hz3 := hh.lt
          clear hr hr0 hb ho3 hhe hpart hz44
          by_cases h4 : i % 4 = 0
          · have ht : ((i : Int) % 4 == 0) = true := by
              have : (i : Int) % 4 = 0 := by omega
              rw [this]; rfl
            have H4 := Lib.hid h4
            clear h4
            have c0 := hh.cell (i := 0) (by omega)
            have c1 := hh.cell (i := 1) (by omega)
            have c2 := hh.cell (i := 2) (by omega)
            have c3 := hh.cell (i := 3) (by omega)
            simp only [byteV] at c0 c1 c2 c3
            have b0 := sch_box hr3 (T 0)
            have b1 := sch_box hr3 (T 1)
            have b2 := sch_box hr3 (T 2)
            have b3 := sch_box hr3 (T 3)
            have l0 := (T 0).toNat_lt
            have l1 := (T 1).toNat_lt
            have l2 := (T 2).toNat_lt
            have l3 := (T 3).toNat_lt
            have v0 : ((T 0).toNat : Int) < 256 := by omega
            have v1 : ((T 1).toNat : Int) < 256 := by omega
            have v2 : ((T 2).toNat : Int) < 256 := by omega
            have v3 : ((T 3).toNat : Int) < 256 := by omega
            have u0 : (0 : Int) ≤ ((T 0).toNat : Int) := by omega
            have u1 : (0 : Int) ≤ ((T 1).toNat : Int) := by omega
            have u2 : (0 : Int) ≤ ((T 2).toNat : Int) := by omega
            have u3 : (0 : Int) ≤ ((T 3).toNat : Int) := by omega
            obtain ⟨y, hy, ey⟩ := xname (sb (T 1)) p
            have HY := Lib.hid hy
            clear hy
            go_wp2_with fail
            go_still_tail 23, (by kernel_rfl)
            obtain ⟨T2, hT2⟩ : ∃ T2 : Nat → UInt8, T2 = fun r => if r = 0 then y else sb (T ((r + 1) % 4)) := ⟨_, rfl⟩
            have HT2 : Hid (∀ r, r < 4 → KW (4 * i + r) = KW (4 * (i - 4) + r) ^^^ T2 r) := Lib.hid (fun r hr => by
              have hn := KW_new s.data.toList (by simp; omega) i r hi4 hlt hr
              rw [← HK.out, if_pos H4.out] at hn
              have e2 : T2 r = if r = 0 then y else sb (T ((r + 1) % 4)) := by rw [hT2]
              rw [hn, e2]
              by_cases h0 : r = 0
              · rw [if_pos h0, if_pos h0, ← HY.out, HT.out, hp.out, show (i + 3) / 4 - 1 = i / 4 - 1 by have := H4.out; omega]
              · rw [if_neg h0, if_neg h0, HT.out])
            refine list_store_arr (ty := 44) (n := 4) (by kernel_rfl) rfl _ _ rfl h 44 (fun r => byteV (T r)) (fun r => byteV (T2 r)) rfl (by rw [hT2]; rfl) hh.drew (fun _ => rfl) ?_
            intro w4 hh4 ho4
            have hr4 := ho4.row hr3.drew (by omega)
            have hr04 := ho4.row hr03.drew (by omega)
            have hb4 := hb3.drew.trans (ho4.below (by omega) hb3.size)
            have hww4 : w.heap.size < w4.heap.size := hr04.lt
            clear hT2 c0 c1 c2 c3 b0 b1 b2 b3 l0 l1 l2 l3 v0 v1 v2 v3 u0 u1 u2 u3 ey hh hr3 hr03 hb3 ho4 ht
            obtain ⟨p2, hp2⟩ : ∃ p2, dbl p = p2 := ⟨_, rfl⟩
            have HD := Lib.hid hp2
            have HP2 : Hid (p2 = rc ((i + 1 + 3) / 4 - 1)) := Lib.hid (by rw [← hp2, hp.out, show (i + 1 + 3) / 4 - 1 = ((i + 3) / 4 - 1) + 1 by have := H4.out; omega]; rfl)
            clear hp2 hp
            go_wp2_with fail
            refine (double_at p p2 _ HD.out).mono ?_
            rintro e w5 ⟨rfl, rfl⟩
            have hr := hr4
            have hr0 := hr04
            have hh := hh4
            have hb := hb4
            clear hr4 hr04 hh4 hb4
            go_wp2_with fail
            go_loopw [61] (fun jv wr => ∃ j : Nat, j ≤ 4 ∧ jv = .int .i64 j ∧ wr.rowIs g 47 432 (schV KW (4 * i + j)) ∧ wr.rowIs w.heap.size 47 432 (fun _ => byteV 0) ∧ wr.rowIs h 44 4 (fun r => byteV (T2 r)) ∧ Below w.heap.size w wr) (fun jv _ => 4 - (intOf jv).toNat)
            case atStart => exact ⟨0, by omega, rfl, hr, hr0, hh, hb⟩
            case round =>
              clear hr hr0 hh hb
              obtain ⟨j, hj, rfl, hr, hr0, hh, hb⟩ := hrel
              by_cases hlj : j < 4
              · have j0 : (0 : Int) ≤ (j : Int) := by omega
                have j1 : (j : Int) < 4 := by omega
                have q0 : IntKind.i64.wrap ((i : Int) - 4) = (i : Int) - 4 := IntWalk.i64_in _ (by omega)
                have a0 : (0 : Int) ≤ (i : Int) - 4 := by omega
                have a1 : (i : Int) - 4 < 44 := by omega
                have a2 : (4 : Int) ≤ (i : Int) := by omega
                have n1 : ((i : Int) - 4).toNat = i - 4 := by omega
                have c1 : wr.cell? ⟨g, 256 + (i - 4) * 4 + j, none⟩ = some (.int .u8 ((KW (4 * (i - 4) + j)).toNat : Int)) := by
                  have := sch_word hr (4 * (i - 4) + j) (by omega) (by omega)
                  rwa [show 256 + (4 * (i - 4) + j) = 256 + (i - 4) * 4 + j by omega] at this
                have c2 := hh.cell (i := j) hlj
                simp only [byteV] at c2
                have c3 : wr.cell? ⟨g, 256 + i * 4 + j, none⟩ = some (schV KW (4 * i + j) (256 + i * 4 + j)) := hr.cell (by omega)
                have f3 := hr.frozen (256 + i * 4 + j)
                obtain ⟨x, hx, ex⟩ := xname (KW (4 * (i - 4) + j)) (T2 j)
                have HX : Hid (KW (4 * i + j) = x) := Lib.hid (by rw [HT2.out j hlj, hx])
                clear hx
                go_wp2_with fail
                go_still_tail 16, (by kernel_rfl)
                go_wp2
                go_roundw
                case rel =>
                  refine ⟨j + 1, by omega, by go_num, World.rowIs.drew (row_put hr _ _ (fun m _ => ?_)), World.rowIs.drew (hr0.setOther (by simp; omega) _), World.rowIs.drew (hh.setOther (by simp; omega) _), (hb.setCell (by simp; omega) _).drew⟩
                  rw [show 4 * i + (j + 1) = 4 * i + j + 1 by omega, sch_put, HX.out, show 256 + (4 * i + j) = 256 + i * 4 + j by omega]; rfl
                case measure => simp [intOf]; omega
              · have hte : j = 4 := by omega
                have hge : (4 : Int) ≤ (j : Int) := by omega
                have hr4 : wr.rowIs g 47 432 (schV KW (4 * (i + 1))) := by rw [show 4 * (i + 1) = 4 * i + j by omega]; exact hr
                clear hr hte
                go_wp2_with fail
                go_roundw
                case rel => exact ⟨i + 1, p2, by omega, by omega, by go_num, rfl, HP2, hr4, hr0, hb⟩
                case measure => simp [intOf]; omega
          · have ht : ((i : Int) % 4 == 0) = false := by
              have : (i : Int) % 4 ≠ 0 := by omega
              simpa using this
            obtain ⟨T2, hT2⟩ : ∃ T2 : Nat → UInt8, T2 = T := ⟨_, rfl⟩
            have HT2 : Hid (∀ r, r < 4 → KW (4 * i + r) = KW (4 * (i - 4) + r) ^^^ T2 r) := Lib.hid (fun r hr => by
              have hn := KW_new s.data.toList (by simp; omega) i r hi4 hlt hr
              rw [← HK.out, if_neg h4] at hn
              rw [hn, hT2, HT.out])
            rw [← hT2] at hh
            obtain ⟨p2, hp2⟩ : ∃ p2, p = p2 := ⟨_, rfl⟩
            have HP2 : Hid (p2 = rc ((i + 1 + 3) / 4 - 1)) := Lib.hid (by rw [← hp2, hp.out, show (i + 1 + 3) / 4 - 1 = (i + 3) / 4 - 1 by omega])
            rw [hp2]
            have H4 := Lib.hid h4
            clear hp2 hp hT2 h4
            have hr := hr3
            have hr0 := hr03
            have hb := hb3
            have hww4 := hr0.lt
            clear hr3 hr03 hb3
            go_wp2_with fail
            go_loopw [61] (fun jv wr => ∃ j : Nat, j ≤ 4 ∧ jv = .int .i64 j ∧ wr.rowIs g 47 432 (schV KW (4 * i + j)) ∧ wr.rowIs w.heap.size 47 432 (fun _ => byteV 0) ∧ wr.rowIs h 44 4 (fun r => byteV (T2 r)) ∧ Below w.heap.size w wr) (fun jv _ => 4 - (intOf jv).toNat)
            case atStart => exact ⟨0, by omega, rfl, hr, hr0, hh, hb⟩
            case round =>
              clear hr hr0 hh hb
              obtain ⟨j, hj, rfl, hr, hr0, hh, hb⟩ := hrel
              by_cases hlj : j < 4
              · have j0 : (0 : Int) ≤ (j : Int) := by omega
                have j1 : (j : Int) < 4 := by omega
                have q0 : IntKind.i64.wrap ((i : Int) - 4) = (i : Int) - 4 := IntWalk.i64_in _ (by omega)
                have a0 : (0 : Int) ≤ (i : Int) - 4 := by omega
                have a1 : (i : Int) - 4 < 44 := by omega
                have a2 : (4 : Int) ≤ (i : Int) := by omega
                have n1 : ((i : Int) - 4).toNat = i - 4 := by omega
                have c1 : wr.cell? ⟨g, 256 + (i - 4) * 4 + j, none⟩ = some (.int .u8 ((KW (4 * (i - 4) + j)).toNat : Int)) := by
                  have := sch_word hr (4 * (i - 4) + j) (by omega) (by omega)
                  rwa [show 256 + (4 * (i - 4) + j) = 256 + (i - 4) * 4 + j by omega] at this
                have c2 := hh.cell (i := j) hlj
                simp only [byteV] at c2
                have c3 : wr.cell? ⟨g, 256 + i * 4 + j, none⟩ = some (schV KW (4 * i + j) (256 + i * 4 + j)) := hr.cell (by omega)
                have f3 := hr.frozen (256 + i * 4 + j)
                obtain ⟨x, hx, ex⟩ := xname (KW (4 * (i - 4) + j)) (T2 j)
                have HX : Hid (KW (4 * i + j) = x) := Lib.hid (by rw [HT2.out j hlj, hx])
                clear hx
                go_wp2_with fail
                go_still_tail 16, (by kernel_rfl)
                go_wp2
                go_roundw
                case rel =>
                  refine ⟨j + 1, by omega, by go_num, World.rowIs.drew (row_put hr _ _ (fun m _ => ?_)), World.rowIs.drew (hr0.setOther (by simp; omega) _), World.rowIs.drew (hh.setOther (by simp; omega) _), (hb.setCell (by simp; omega) _).drew⟩
                  rw [show 4 * i + (j + 1) = 4 * i + j + 1 by omega, sch_put, HX.out, show 256 + (4 * i + j) = 256 + i * 4 + j by omega]; rfl
                case measure => simp [intOf]; omega
              · have hte : j = 4 := by omega
                have hge : (4 : Int) ≤ (j : Int) := by omega
                have hr4 : wr.rowIs g 47 432 (schV KW (4 * (i + 1))) := by rw [show 4 * (i + 1) = 4 * i + j by omega]; exact hr
                clear hr hte
                go_wp2_with fail
                go_roundw
                case rel => exact ⟨i + 1, p2, by omega, by omega, by go_num, rfl, HP2, hr4, hr0, hb⟩
                case measure => simp [intOf]; omega
        · obtain rfl : i = 44 := by omega
          clear hlt hi4 hi44 hp
          go_wp2_with (first
            | (refine list_load_whole (d := TypeDesc.struct _) (n := 432) Try.underlying47 rfl (by kernel_rfl) rfl _ rfl g 47 _ rfl hr ?_)
            | (refine list_store_arr (ty := 47) (n := 432) (by kernel_rfl) rfl _ _ rfl w.heap.size 47 _ _ rfl rfl hr0 (sch_one KW 176) ?_))
          intro w5 hr5 ho5
          go_wp2
          refine ret_whole (d := TypeDesc.struct _) (n := 432) rfl Try.underlying47 rfl (by kernel_rfl) rfl hr5 rfl ⟨rfl, ?_⟩
          exact hb.trans (ho5.below (Nat.le_refl _) hb.size)
end Go.Proofs.Ytohjnhekkifhbab
