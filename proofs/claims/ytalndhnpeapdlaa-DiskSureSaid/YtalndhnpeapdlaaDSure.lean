/- DiskSure: the walk. -/
import Derived.Test.YtalndhnpeapdlaaDAwk
import Derived.Test.YtalndhnpeapdlaaDArgs
namespace Go.Proofs.Ytalndhnpeapdlaa
open Go.RowKit

theorem empty_app2 (s : ByteArray) : (⟨#[]⟩ : ByteArray) ++ s = s := by ext1; simp [ByteArray.data_append]
theorem extract_all (s : ByteArray) : s.extract 0 s.size = s := by ext1; simp
theorem extract_head (s t : ByteArray) : (s ++ t).extract 0 s.size = s := by
  ext1
  simp [ByteArray.data_extract, ByteArray.data_append]

set_option maxRecDepth 30000 in
set_option maxHeartbeats 2000000 in
theorem sure_law (a b c : ByteArray) (x : Int) (w : World) (ha : a.size ≤ maxLen) (hb : b.size ≤ maxLen) (hc : c.size ≤ maxLen) (hx : -9223372036854775808 ≤ x ∧ x ≤ 9223372036854775807) :
    Calls Try.prog 4 #[.agg #[.string a, .string b, .string c], .int .i64 x] w fun e w' => e = .returned (.bool true) ∧ Below w.heap.size w w' := by
  unfold maxLen at ha hb hc
  obtain ⟨wA, hwA⟩ : ∃ wA, w.alloc (.cells #[.string a, .string b, .string c] 41) = wA := ⟨_, rfl⟩
  have hblk : wA.heap[w.heap.size]? = some (.cells #[.string a, .string b, .string c] 41 (0, 0)) := by rw [← hwA]; exact heap_at_alloc w _
  have x0 : wA.cell? ⟨w.heap.size, 0, none⟩ = some (.string a) := by simp [World.cell?, hblk]
  have x1 : wA.cell? ⟨w.heap.size, 1, none⟩ = some (.string b) := by simp [World.cell?, hblk]
  have x2 : wA.cell? ⟨w.heap.size, 2, none⟩ = some (.string c) := by simp [World.cell?, hblk]
  have HBA : Hid (Below w.heap.size w wA) := Lib.hid (by rw [← hwA]; exact (Below.refl _ w).alloc (Nat.le_refl _) _)
  go_enter Try.func4, Try.ntmps4
  go_wp2_with fail
  try rw [hwA]
  go_quiet (fail)
  clear hwA hblk x0 x1 x2
  go_wp2_with fail
  refine (awake_prog _).mono ?_
  rintro e w1 ⟨rfl, hb1⟩
  have HB1 : Hid (Below w.heap.size w w1) := Lib.hid ((HBA.out.trans ((Same.of wA nq).below _)).trans (hb1.mono HBA.out.size))
  clear hb1 HBA
  by_cases h1 : 200 < a.size
  · have hI : (200 : Int) < (a.size : Int) := by omega
    go_wp2_with fail
    go_ret
    exact ⟨rfl, HB1.out⟩
  have hI1 : ¬ (200 : Int) < (a.size : Int) := by omega
  by_cases h2 : 200 < b.size
  · have hI : (200 : Int) < (b.size : Int) := by omega
    go_wp2_with fail
    go_ret
    exact ⟨rfl, HB1.out⟩
  have hI2 : ¬ (200 : Int) < (b.size : Int) := by omega
  by_cases h3 : 200 < c.size
  · have hI : (200 : Int) < (c.size : Int) := by omega
    go_wp2_with fail
    go_ret
    exact ⟨rfl, HB1.out⟩
  have hI3 : ¬ (200 : Int) < (c.size : Int) := by omega
  have H1 := Lib.hid h1
  have H2 := Lib.hid h2
  have H3 := Lib.hid h3
  clear h1 h2 h3 ha hb hc
  go_wp2_with fail
  refine (new_prog w1).mono ?_
  rintro e w2 ⟨rfl, hd2, hb2⟩
  obtain ⟨g, hg⟩ : ∃ g, w1.heap.size = g := ⟨_, rfl⟩
  have HG : Hid (w.heap.size ≤ g) := Lib.hid (by have := HB1.out.size; omega)
  have HB2 : Hid (Below w.heap.size w w2) := Lib.hid (HB1.out.trans (hb2.mono HB1.out.size))
  rw [hg] at hd2 ⊢
  clear hb2 hg HB1
  have hsz0 : (ByteArray.mk #[]).size = 0 := rfl
  have A1 := append_free hd2 a (by have := H1.out; omega)
  rw [empty_app2] at A1
  have A1 := Lib.hid A1
  clear hsz0
  go_wp2_with fail
  refine A1.out.mono ?_
  rintro e w3 ⟨rfl, v3, hd3, hc3⟩
  have A2 := Lib.hid (sync_free hd3)
  clear A1 hd2
  go_wp2_with fail
  refine A2.out.mono ?_
  rintro e w4 ⟨rfl, hd4, hc4⟩
  have A3 := Lib.hid (append_free hd4 b (by have := H1.out; have := H2.out; omega))
  clear A2 hd3
  go_wp2_with fail
  refine A3.out.mono ?_
  rintro e w5 ⟨rfl, v5, hd5, hc5⟩
  obtain ⟨AB, hAB⟩ : ∃ AB, a ++ b = AB := ⟨_, rfl⟩
  have hABs : Hid (AB.size = a.size + b.size) := Lib.hid (by rw [← hAB, ByteArray.size_append])
  rw [hAB] at hd5
  have A4 := Lib.hid (append_free hd5 c (by have := H1.out; have := H2.out; have := H3.out; have := hABs.out; omega))
  clear A3 hd4
  go_wp2_with fail
  refine A4.out.mono ?_
  rintro e w6 ⟨rfl, v6, hd6, hc6⟩
  obtain ⟨U, hU⟩ : ∃ U, AB ++ c = U := ⟨_, rfl⟩
  have hUs : Hid (U.size = a.size + b.size + c.size) := Lib.hid (by rw [← hU, ByteArray.size_append, hABs.out])
  have hUhead : Hid (U.extract 0 a.size = a) := Lib.hid (by
    rw [← hU, ← hAB, ByteArray.append_assoc]
    exact extract_head _ _)
  rw [hU] at hd6
  have A5 := Lib.hid (crash_prog hd6 (by have := hUs.out; omega) (by have := hUs.out; have := H1.out; have := H2.out; have := H3.out; omega) x)
  obtain ⟨p, hp⟩ : ∃ p, a.size + min x.toNat (U.size - a.size) = p := ⟨_, rfl⟩
  rw [hp] at A5
  have HP : Hid (a.size + min x.toNat (U.size - a.size) = p) := Lib.hid hp
  have HC : Hid (Ch g (.slice none 0 0) w2 w6 v6) := Lib.hid (((hc3.trans hc4).trans hc5).trans hc6)
  clear A4 hd5 hp hc3 hc4 hc5 hc6
  go_wp2_with fail
  refine A5.out.mono ?_
  rintro e w7 ⟨rfl, v7, hd7, hc7⟩
  have A6 := read_free hd7
  obtain ⟨R, hR⟩ : ∃ R, U.extract 0 p = R := ⟨_, rfl⟩
  rw [hR] at A6
  have A6 := Lib.hid A6
  have HB7 : Hid (Below w.heap.size w w7) := Lib.hid (HB2.out.trans ((HC.out.trans hc7).below HG.out (fun j hj => by cases hj) HB2.out.size))
  have hpU : p ≤ U.size := by have := HP.out; have := hUs.out; omega
  have hpa : a.size ≤ p := by have := HP.out; omega
  have hRs : R.size = p := by rw [← hR]; exact extract_size U p hpU
  have hRlo : Hid (x ≤ 0 → R = a) := Lib.hid (fun h => by
    have : p = a.size := by have := HP.out; omega
    rw [← hR, this]; exact hUhead.out)
  have hRhi : Hid (((b.size : Int) + (c.size : Int) ≤ x) → R = U) := Lib.hid (fun h => by
    have : p = U.size := by have := HP.out; have := hUs.out; omega
    rw [← hR, this]; exact extract_all U)
  clear A5 hd6 hd7 hc7 HC HB2 HG
  go_wp2_with fail
  refine A6.out.mono ?_
  rintro e w8 ⟨rfl, rfl⟩
  have hadd1 : ¬ (9223372036854775807 < a.size + b.size) := by have := H1.out; have := H2.out; omega
  have hadd2 : ¬ (9223372036854775807 < AB.size + c.size) := by have := H1.out; have := H2.out; have := H3.out; have := hABs.out; omega
  clear A6
  go_upto_region 12 with fail
  have hpaI : (a.size : Int) ≤ (p : Int) := by omega
  have hpUI : (p : Int) ≤ (U.size : Int) := by omega
  have hp0 : (0 : Int) ≤ (p : Int) := by omega
  have hbc : IntKind.i64.wrap ((b.size : Int) + (c.size : Int)) = (b.size : Int) + (c.size : Int) := IntWalk.i64_in _ (by have := H2.out; have := H3.out; omega)
  clear hpU hpa hAB hU hadd1 hadd2
  by_cases hlo : x ≤ 0
  · have hRa := hRlo.out hlo
    have hxI : ¬ (0 : Int) < x := by omega
    by_cases hhi : x < (b.size : Int) + (c.size : Int)
    · subst hRa
      clear hlo hRlo hRhi
      go_wp2_with fail
      go_ret
      exact ⟨rfl, HB7.out⟩
    · have hRU := hRhi.out (by omega)
      have haU : a = U := by rw [← hRa, hRU]
      subst hRa
      subst haU
      clear hlo hRlo hRhi
      go_wp2_with fail
      go_ret
      exact ⟨rfl, HB7.out⟩
  · have hxI : (0 : Int) < x := by omega
    by_cases hhi : x < (b.size : Int) + (c.size : Int)
    · clear hlo hRlo hRhi
      go_wp2_with fail
      go_ret
      exact ⟨rfl, HB7.out⟩
    · have hRU := hRhi.out (by omega)
      subst hRU
      clear hlo hRlo hRhi
      go_wp2_with fail
      go_ret
      exact ⟨rfl, HB7.out⟩
end Go.Proofs.Ytalndhnpeapdlaa
