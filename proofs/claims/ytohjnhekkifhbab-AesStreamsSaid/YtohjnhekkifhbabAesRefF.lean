/- The document's text under a key and a number, walked. -/
import Derived.Test.YtohjnhekkifhbabAesLawF
import Derived.Test.YtohjnhekkifhbabAesC
namespace Go.Proofs.Ytohjnhekkifhbab
open Go.RowKit

set_option maxRecDepth 100000 in
set_option maxHeartbeats 2000000 in
theorem next_ref (n : ByteArray) (w : World) (hn : n.size = 16) :
    Calls Try.prog 26 #[.string n] w fun e w' => e = .returned (.string (txt (nxt (blk n)))) ∧ Below w.heap.size w w' := by
  obtain ⟨B, hB⟩ : ∃ B, blk n = B := ⟨_, rfl⟩
  have HB := Lib.hid hB
  have HN := Lib.hid hn
  rw [hB]
  clear hB hn
  go_enter Try.func26, Try.ntmps26
  go_wp2_with (first
    | (refine list_bytes (e := 5) Try.underlying9 Try.underlying29 Try.underlying5 rfl _ rfl n rfl ?_))
  intro cap w1 hp1 hb1
  rw [HB.out, HN.out] at hp1
  rw [HN.out]
  go_wp2_with fail
  go_loopw [4] (fun iv WX => ∃ (v : Int) (k : Nat), iv = .int .i64 v ∧ v + 1 ≤ (k : Int) ∧ (k : Int) ≤ v + 1 ∧ k ≤ 16 ∧ Hid (went B k) ∧ Part WX w.heap.size 16 (fun j => if j < k then B j else 0) ∧ Below w.heap.size w WX) (fun iv _ => (intOf iv + 1).toNat)
  case atStart => exact ⟨15, 16, rfl, by omega, by omega, by omega, Lib.hid (fun i h1 h2 => by omega), hp1.congr (fun j hj => by rw [if_pos hj]), hb1⟩
  case round =>
    clear hp1 hb1
    obtain ⟨v, k, rfl, hk1, hk2, hk3, hw, hp, hb⟩ := hrel
    by_cases hlt : 0 < k
    · obtain ⟨m, rfl⟩ := Int.eq_ofNat_of_zero_le (show 0 ≤ v by omega)
      obtain rfl : k = m + 1 := by omega
      have c := hp.cell m (by omega)
      have f := hp.frozen m (by omega)
      simp only [Nat.lt_succ_self, if_true] at c
      have i0 : (0 : Int) ≤ (m : Int) := by omega
      have i1 : (m : Int) < 16 := by omega
      obtain ⟨y, hy⟩ : ∃ y, B m + 1 = y := ⟨_, rfl⟩
      have e1 := byte_one (B m)
      rw [hy] at e1
      have e2 : IntKind.u8.wrap (((B m).toNat : Int) + 1) = (y.toNat : Int) := by rw [IntKind.wrap_u8]; exact e1
      have HY := Lib.hid hy
      clear hy
      by_cases h0 : y = 0
      · have H0 := Lib.hid h0
        have hz : ((y.toNat : Int) != 0) = false := by rw [h0]; rfl
        clear h0
        go_wp2_with fail
        go_roundw
        case rel =>
          refine ⟨(m : Int) - 1, m, rfl, by omega, by omega, by omega, Lib.hid (fun i h1 h2 => ?_), hp.set m y _ (fun j _ => ?_), hb.setCell (Nat.le_refl _) _⟩
          · by_cases him : i = m
            · subst him; exact (byte_255 _).1 (HY.out.trans H0.out)
            · exact hw.out i h1 (by omega)
          · by_cases hjk : j = m
            · subst hjk; rw [if_neg (by omega), if_pos rfl, H0.out]
            · rw [if_neg hjk]
              by_cases hl : j < m
              · rw [if_pos hl, if_pos (by omega)]
              · rw [if_neg hl, if_neg (by omega)]
        case measure => simp [intOf]
      · have hz : ((y.toNat : Int) != 0) = true := by
          have : y.toNat ≠ 0 := fun e => h0 (UInt8.toNat_inj.1 e)
          have : (y.toNat : Int) ≠ 0 := by omega
          simpa using this
        have H0 := Lib.hid h0
        clear h0
        have hps : Part (wr.setCell ⟨w.heap.size, m, none⟩ (.int .u8 (y.toNat : Int))) w.heap.size 16 (nxt B) := hp.set m y _ (fun j hj => by
          rw [nxt_at (by omega) hw.out (by rw [HY.out]; exact H0.out) hj, HY.out]
          by_cases hjk : j = m
          · rw [if_pos hjk, if_pos hjk]
          · rw [if_neg hjk, if_neg hjk]
            by_cases hl : j < m
            · rw [if_pos hl, if_pos (by omega)]
            · rw [if_neg hl, if_neg (by omega)])
        have hcv := run_convert_bytes_back (P := Try.prog) (wr.setCell ⟨w.heap.size, m, none⟩ (.int .u8 (y.toNat : Int))) 29 9 5 ⟨w.heap.size, 0, none⟩ cap ((List.range 16).map (nxt B)) Try.underlying29 Try.underlying5 Try.underlying9 (fun j hj => by
          have hj2 : j < 16 := by simpa using hj
          rw [Addr.add_mid, Nat.zero_add, hps.cell j hj2]
          simp)
        rw [List.length_map, List.length_range] at hcv
        replace hcv : (convert 29 9 (.slice (some ⟨w.heap.size, 0, none⟩) 16 cap)).run Try.prog (wr.setCell ⟨w.heap.size, m, none⟩ (.int .u8 (y.toNat : Int))) = .ok (.string (txt (nxt B))) (wr.setCell ⟨w.heap.size, m, none⟩ (.int .u8 (y.toNat : Int))) := hcv
        have hbs := hb.setCell (p := ⟨w.heap.size, m, none⟩) (Nat.le_refl _) (.int .u8 (y.toNat : Int))
        clear hps hp
        go_wp2_with fail
        go_ret
        exact ⟨rfl, hbs⟩
    · obtain rfl : k = 0 := by omega
      have hv : v < 0 := by omega
      have hcv := run_convert_bytes_back (P := Try.prog) wr 29 9 5 ⟨w.heap.size, 0, none⟩ cap ((List.range 16).map (nxt B)) Try.underlying29 Try.underlying5 Try.underlying9 (fun j hj => by
        have hj2 : j < 16 := by simpa using hj
        rw [Addr.add_mid, Nat.zero_add, hp.cell j hj2, if_neg (by omega)]
        simp [nxt_round hw.out hj2])
      rw [List.length_map, List.length_range] at hcv
      replace hcv : (convert 29 9 (.slice (some ⟨w.heap.size, 0, none⟩) 16 cap)).run Try.prog wr = .ok (.string (txt (nxt B))) wr := hcv
      clear hp
      go_wp2
      go_ret
      exact ⟨rfl, hb⟩
end Go.Proofs.Ytohjnhekkifhbab
