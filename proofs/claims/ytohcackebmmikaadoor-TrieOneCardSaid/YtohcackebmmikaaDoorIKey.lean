/- The laws' keys. -/
import Derived.Test.YtohcackebmmikaaDoorITop3
namespace Go.Proofs.YtohcackebmmikaaDoor
open Go.RowKit

/-- The bytes of a key of a few letters, behind n letters. -/
def kF (s : ByteArray) (n j : Nat) : UInt8 := if j / 8 < n then (if j % 8 = 0 then (ks s).getD (j / 8) 0 else if j % 8 = 7 then UInt8.ofNat (((ks s).getD (j / 8) 0).toNat / 16) else 0) else 0
def keyB (s : ByteArray) : ByteArray := if 32 ≤ s.size then s.extract 0 32 else ⟨((List.range 32).map (kF s (min s.size 4))).toArray⟩
theorem keyB_size (s : ByteArray) : (keyB s).size = 32 := by
  unfold keyB
  split
  · simp; omega
  · rw [mk_size]; simp

theorem intOf_int (k : IntKind) (x : Int) : intOf (.int k x) = x := rfl
def KeyRel (s : ByteArray) (w : World) (g : Nat) (i : Value) (wr : World) : Prop := ∃ n : Nat, i = .int .i64 n ∧ n ≤ 4 ∧ n ≤ s.size ∧ wr.rowIs g 5 32 (fun j => byteV (kF s n j)) ∧ Below w.heap.size w wr

set_option maxRecDepth 30000 in
set_option maxHeartbeats 1000000 in
theorem key_prog (s : ByteArray) (w : World) (hs : s.size ≤ 1000) : Calls Tryd.prog 20 #[.string s] w (StrRes w (keyB s)) := by
  by_cases hbig : 32 ≤ s.size
  · have e : keyB s = s.extract 0 32 := by unfold keyB; rw [if_pos hbig]
    rw [e]
    have hI : (32 : Int) ≤ (s.size : Int) := by omega
    have hI2 : ¬ (s.size : Int) < 32 := by omega
    clear e
    go_enter Tryd.func20, Tryd.ntmps20
    go_wp2
    go_ret
    exact ⟨rfl, Below.refl _ _⟩
  · have hI : ¬ (32 : Int) ≤ (s.size : Int) := by omega
    have hI2 : (s.size : Int) < 32 := by omega
    obtain ⟨m, hm⟩ : ∃ m, m = min s.size 4 := ⟨_, rfl⟩
    have e : keyB s = ⟨((List.range 32).map (kF s m)).toArray⟩ := by unfold keyB; rw [if_neg hbig, hm]
    rw [e]
    have HM := Lib.hid hm
    clear e hm hbig
    go_enter Tryd.func20, Tryd.ntmps20
    go_wp2_with (refine list_makeN Tryd.bytesSl rfl _ _ rfl 32 32 32 rfl rfl rfl rfl (by omega) (by unfold maxLen; omega) rfl ?_)
    intro w1 hr1 hb1
    have hg : w.heap.size < w1.heap.size := hr1.lt
    have HR1 : Hid (w1.rowIs w.heap.size 5 32 (fun j => byteV (kF s 0 j))) := Lib.hid (hr1.congr (fun j _ => by simp [kF, byteV]))
    have HB1 := Lib.hid hb1
    clear hr1 hb1
    go_wp2_with fail
    go_loopw [4] (KeyRel s w w.heap.size) (fun i _ => 4 - (intOf i).toNat)
    case atStart => exact ⟨0, rfl, by omega, by omega, HR1.out, HB1.out⟩
    case round =>
      obtain ⟨n, rfl, hn4, hns, hrow, hbw⟩ := hrel
      have hn0 : (0 : Int) ≤ (n : Int) := by omega
      have hn1 : (n : Int) ≤ 4 := by omega
      by_cases hlt : n < m
      · have hm1 : n < s.size := by have := HM.out; omega
        have hm2 : n < 4 := by have := HM.out; omega
        have hI3 : (n : Int) < (s.size : Int) := by omega
        have hI4 : (n : Int) < 4 := by omega
        have hx := (s[n]'hm1).toNat_lt
        have hx0 : (0 : Int) ≤ ((s[n]'hm1).toNat : Int) := by omega
        have hx1 : ((s[n]'hm1).toNat : Int) ≤ 255 := by omega
        have c0 := hrow.cell (i := 8 * n) (by omega)
        have f0 := hrow.frozen (8 * n)
        have hrow1 := row_put (f' := fun j => if j = 8 * n then byteV (s[n]'hm1) else byteV (kF s n j)) hrow (8 * n) (byteV (s[n]'hm1)) (fun j _ => rfl)
        have c1 := hrow1.cell (i := 8 * n + 7) (by omega)
        have f1 := hrow1.frozen (8 * n + 7)
        have hne87 : ¬ (8 * n + 7 = 8 * n) := by omega
        simp only [if_neg hne87] at c1
        have hrow2 := row_put (f' := fun j => byteV (kF s (n + 1) j)) hrow1 (8 * n + 7) (.int .u8 (((s[n]'hm1).toNat : Int) / 16)) (fun j hj => by
          have hg : (ks s).getD n 0 = s[n]'hm1 := ks_getD s n hm1
          have h16 : ((s[n]'hm1).toNat / 16) < 256 := by omega
          by_cases h1 : j = 8 * n + 7
          · subst h1
            have e1 : (8 * n + 7) / 8 = n := by omega
            have e2 : (8 * n + 7) % 8 = 7 := by omega
            simp only [kF, e1, e2, if_true, hg, byteV]
            simp; omega
          · rw [if_neg h1]
            by_cases h2 : j = 8 * n
            · subst h2
              have e1 : (8 * n) / 8 = n := by omega
              have e2 : (8 * n) % 8 = 0 := by omega
              simp only [kF, e1, e2, if_true, hg]
              simp
            · rw [if_neg h2]
              congr 1
              unfold kF
              by_cases h3 : j / 8 < n
              · rw [if_pos h3, if_pos (by omega)]
              · rw [if_neg h3]
                split
                · rw [if_neg (by omega), if_neg (by omega)]
                · rfl)
        have HROW := Lib.hid hrow2
        have HB2 := Lib.hid ((hbw.setCell (p := ⟨w.heap.size, 8 * n, none⟩) (Nat.le_refl _) (byteV (s[n]'hm1))).setCell (p := ⟨w.heap.size, 8 * n + 7, none⟩) (Nat.le_refl _) (.int .u8 (((s[n]'hm1).toNat : Int) / 16)))
        clear hrow hrow1 hrow2 hbw
        unfold byteV at c0 c1 f1 HROW HB2
        go_wp2_with fail
        go_roundw
        case rel => exact ⟨n + 1, by simp, by omega, by omega, HROW.out, HB2.out⟩
        case measure => rw [intOf_int, intOf_int]; omega
      · have hnm : n = m := by have := HM.out; omega
        have hge : ¬ ((n : Int) < (s.size : Int)) ∨ ((n : Int) < (s.size : Int) ∧ ¬ ((n : Int) < 4)) := by have := HM.out; omega
        have hc := rowIs_block hrow
        have hcells : arrL 32 (fun j => Value.int .u8 ((kF s n j).toNat : Int)) = ((List.range 32).map (kF s n)).map byteV := by simp [arrL, byteV]
        have hc2 : wr.heap[w.heap.size]? = some (.cells (((List.range 32).map (kF s n)).map byteV).toArray 5 (0, 0)) := by rw [hc, ← hcells]; rfl
        have hcv := run_string_row (src := 58) (dst := 9) Tryd.underlying58 Tryd.underlying5 Tryd.underlying9 w.heap.size 32 ((List.range 32).map (kF s n)) (P := Tryd.prog) (e := 5) (w := wr) hc2
        rw [show ((List.range 32).map (kF s n)).length = 32 by simp] at hcv
        have HNM := Lib.hid hnm
        have HB2 := Lib.hid hbw
        clear hc hcells hc2 hrow hbw hnm
        rcases hge with h1 | ⟨h1, h2⟩
        · go_wp2
          go_ret
          exact ⟨by rw [HNM.out]; rfl, HB2.out⟩
        · go_wp2
          go_ret
          exact ⟨by rw [HNM.out]; rfl, HB2.out⟩
end Go.Proofs.YtohcackebmmikaaDoor
