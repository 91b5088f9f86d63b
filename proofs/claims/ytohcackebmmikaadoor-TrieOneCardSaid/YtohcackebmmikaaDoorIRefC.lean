/- The reference's Place, First. -/
import Derived.Test.YtohcackebmmikaaDoorIRefB
import Derived.Test.YtohcackebmmikaaDoorIBytes
namespace Go.Proofs.YtohcackebmmikaaDoor
open Go.RowKit

def PlRel (p : Nat) (w : World) (i : Value) (wr : World) : Prop := ∃ j : Nat, i = .int .i64 j ∧ j ≤ p ∧ Same w wr
set_option maxHeartbeats 1000000 in
theorem place_ref (a b : ByteArray) (l : List Pr) (lv : Value) (p : Nat) (w : World) (hp : p < 256) (ha : a.size = 32) (hb : b.size = 32) (hs : ∀ i, i < p → bitL (ks a) i = bitL (ks b) i) (hd : bitL (ks a) p ≠ bitL (ks b) p)
    (m : Nat) (hm : l.length = m + 1) (hm2 : m ≤ 1000) (hfst : ∃ v, l[0]? = some (a, v)) (hlst : ∃ v, l[m]? = some (b, v)) (h : PSl w lv l) :
    Calls Tryd.prog 36 #[lv] w fun e w' => e = .returned (.int .i64 (p : Int)) ∧ Same w w' := by
  obtain ⟨aa, c, rfl, hc, hcells⟩ := h
  obtain ⟨g, o, rfl, hg, hcs⟩ := hcells (by intro e; rw [e] at hm; simp at hm)
  obtain ⟨va, hva⟩ := hfst
  obtain ⟨vb, hvb⟩ := hlst
  obtain ⟨d1, _⟩ := hcs 0 _ hva
  obtain ⟨d2, _⟩ := hcs m _ hvb
  rw [Nat.zero_mul, Nat.add_zero] at d1
  simp only at d1 d2
  rw [hm]
  have hm0 : (0 : Int) ≤ (m : Int) := by omega
  have hm1 : (m : Int) ≤ 1000 := by omega
  have D1 := Lib.hid d1
  have D2 := Lib.hid d2
  have HS := Lib.hid hs
  have HD := Lib.hid hd
  clear hcells hcs hva hvb hc hs hd hm d1 d2
  go_enter Tryd.func36, Tryd.ntmps36
  go_wp2_with fail
  go_loopw [3] (PlRel p w) (fun i _ => 256 - (intOf i).toNat)
  case atStart => exact ⟨0, rfl, by omega, Same.refl _⟩
  case round =>
    obtain ⟨j, rfl, hj, hsm⟩ := hrel
    have hj0 : (0 : Int) ≤ (j : Int) := by omega
    have hj1 : (j : Int) ≤ 255 := by omega
    have hj2 : (j : Int) < 256 := by omega
    have c1 : wr.cell? ⟨g, o, none⟩ = some (.string a) := by rw [(hsm.below w.heap.size).cell (p := ⟨g, o, none⟩) hg]; exact D1.out
    have c2 : wr.cell? ⟨g, o + m * 2, none⟩ = some (.string b) := by rw [(hsm.below w.heap.size).cell (p := ⟨g, o + m * 2, none⟩) hg]; exact D2.out
    have H1 := Lib.hid (fun W => bit_ref a j W (by omega) ha)
    have H2 := Lib.hid (fun W => bit_ref b j W (by omega) hb)
    have HSM := Lib.hid hsm
    have hmm : IntKind.i64.wrap (((m + 1 : Nat) : Int) - 1) = (m : Int) := by
      rw [show ((m + 1 : Nat) : Int) - 1 = (m : Int) by omega]; exact IntWalk.i64_in _ (by omega)
    clear hsm
    by_cases hlt : j < p
    · have hI : (bitN (bitL (ks a) j) != bitN (bitL (ks b) j)) = false := by rw [bitN_ne, HS.out j hlt]; simp
      obtain ⟨x, hx⟩ : ∃ x, x = bitN (bitL (ks a) j) := ⟨_, rfl⟩
      obtain ⟨y, hy⟩ : ∃ y, y = bitN (bitL (ks b) j) := ⟨_, rfl⟩
      rw [← hx] at H1 hI
      rw [← hy] at H2 hI
      clear hx hy
      go_wp2_with fail
      go_quiet ((first | (go_at_call 37; (with_reducible exact quietE (H1.out _))) | (go_at_call 37; (with_reducible exact quietE (H2.out _)))))
      go_wp2_with fail
      go_roundw
      case rel => exact ⟨j + 1, by go_num, by omega, HSM.out.trans ⟨_, rfl⟩⟩
      case measure => simp [intOf]; omega
    · have hjp : j = p := by omega
      have hI : (bitN (bitL (ks a) j) != bitN (bitL (ks b) j)) = true := by rw [bitN_ne, hjp]; simpa using HD.out
      have HJ := Lib.hid hjp
      obtain ⟨x, hx⟩ : ∃ x, x = bitN (bitL (ks a) j) := ⟨_, rfl⟩
      obtain ⟨y, hy⟩ : ∃ y, y = bitN (bitL (ks b) j) := ⟨_, rfl⟩
      rw [← hx] at H1 hI
      rw [← hy] at H2 hI
      clear hx hy hjp
      go_wp2_with fail
      go_quiet ((first | (go_at_call 37; (with_reducible exact quietE (H1.out _))) | (go_at_call 37; (with_reducible exact quietE (H2.out _)))))
      go_wp2_with fail
      go_ret
      exact ⟨by rw [← HJ.out]; rfl, HSM.out.trans ⟨_, rfl⟩⟩

/-- The first n + 1 bits, by the first n. -/
theorem first_step (l : List UInt8) (n : Nat) (hn : n / 8 < l.length) : firstL l (n + 1) = if bitL l n then (firstL l n).set (n / 8) (setU ((firstL l n).getD (n / 8) 0) (n % 8)) else firstL l n := by
  have hlen := firstL_length l n
  refine bits_ext _ _ (by split <;> simp [firstL_length]) (fun i _ => ?_)
  rw [firstL_bit]
  by_cases hb : bitL l n = true
  · rw [if_pos hb]
    rw [bitL_set _ _ _ (by omega), firstL_bit]
    have h := (set_ok ((firstL l n).getD (n / 8) 0) (n % 8) (by omega)).2
    split
    · rename_i he
      rw [h _ (by omega)]
      by_cases h2 : i % 8 = n % 8
      · have : i = n := by omega
        subst this; simp [hb]
      · have e1 : bitU ((firstL l n).getD (n / 8) 0) (i % 8) = bitL (firstL l n) i := by rw [bitL, he]
        rw [e1, firstL_bit]
        have : (i < n + 1) = (i < n) := by simp; omega
        simp [h2, this]
    · have : (i < n + 1) = (i < n) := by simp; omega
      simp only [this]
  · rw [if_neg hb, firstL_bit]
    by_cases h2 : i = n
    · subst h2; simp [hb]
    · have : (i < n + 1) = (i < n) := by simp; omega
      simp only [this]
def FsRel (k : ByteArray) (n g : Nat) (w : World) (i : Value) (wr : World) : Prop := ∃ j : Nat, i = .int .i64 j ∧ j ≤ n ∧ Hid (wr.rowIs g 5 32 (fun i => byteV ((firstL (ks k) j).getD i 0))) ∧ Below w.heap.size w wr
set_option maxRecDepth 30000 in
set_option maxHeartbeats 1000000 in
theorem first_ref (k : ByteArray) (n : Nat) (w : World) (hk : k.size = 32) (hn : n ≤ 256) :
    Calls Tryd.prog 38 #[.string k, .int .i64 n] w (StrRes w (firstB k n)) := by
  have hn0 : (0 : Int) ≤ (n : Int) := by omega
  have hn1 : (n : Int) ≤ 256 := by omega
  go_enter Tryd.func38, Tryd.ntmps38
  go_wp2_with (refine list_makeN Tryd.bytesSl rfl _ _ rfl 32 32 32 rfl rfl rfl rfl (by omega) (by unfold maxLen; omega) rfl ?_)
  intro w1 hr1 hb1
  have HR1 : Hid (w1.rowIs w.heap.size 5 32 (fun i => byteV ((firstL (ks k) 0).getD i 0))) := Lib.hid (hr1.congr (fun i _ => by
    rw [firstL_zero, List.getD_eq_getElem?_getD, List.getElem?_replicate]; split <;> simp [byteV]))
  have HB1 := Lib.hid hb1
  clear hr1 hb1
  go_wp2_with fail
  go_loopw [6] (FsRel k n w.heap.size w) (fun i _ => 256 - (intOf i).toNat)
  case atStart => exact ⟨0, rfl, by omega, HR1, HB1.out⟩
  case round =>
    obtain ⟨j, rfl, hj, hrow, hb⟩ := hrel
    have hj0 : (0 : Int) ≤ (j : Int) := by omega
    have hj1 : (j : Int) ≤ 256 := by omega
    have HB := Lib.hid hb
    clear hb
    by_cases hlt : j < n
    · have hltI : (j : Int) < (n : Int) := by omega
      have H1 := Lib.hid (fun W => bit_ref k j W (by omega) hk)
      have hstep := first_step (ks k) j (by simp; omega)
      cases hbit : bitL (ks k) j with
      | false =>
        rw [hbit, if_neg (by simp)] at hstep
        rw [hbit] at H1
        have HR2 := Lib.hid (show wr.rowIs w.heap.size 5 32 (fun i => byteV ((firstL (ks k) (j + 1)).getD i 0)) by rw [hstep]; exact hrow.out)
        have hz : (bitN false == 1) = false := rfl
        clear hstep hbit
        go_wp2_with fail
        refine (H1.out _).mono ?_
        rintro e w2 ⟨rfl, rfl⟩
        go_wp2_with fail
        go_roundw
        case rel => exact ⟨j + 1, by go_num, by omega, HR2, HB.out⟩
        case measure => simp [intOf]; omega
      | true =>
        rw [hbit, if_pos rfl] at hstep
        rw [hbit] at H1
        have hz : (bitN true == 1) = true := rfl
        obtain ⟨q, hq⟩ : ∃ q, q = j / 8 := ⟨_, rfl⟩
        obtain ⟨r, hr⟩ : ∃ r, r = j % 8 := ⟨_, rfl⟩
        have hqI : (j : Int) / 8 = (q : Int) := by omega
        have hrI : (j : Int) % 8 = (r : Int) := by omega
        have hr8 : r < 8 := by omega
        have hq32 : q < 32 := by omega
        obtain ⟨x, hx⟩ : ∃ x, x = (firstL (ks k) j).getD q 0 := ⟨_, rfl⟩
        have hor := (set_ok x r hr8).1
        have c := hrow.out.cell (i := q) hq32
        have f := hrow.out.frozen q
        rw [← hq, ← hr, ← hx] at hstep
        simp only [← hx] at c
        obtain ⟨y, hy⟩ : ∃ y, y = setU x r := ⟨_, rfl⟩
        rw [← hy] at hor hstep
        have hfl := firstL_length (ks k) j
        have hks : (ks k).length = 32 := by rw [ks_length, hk]
        have hrow2 := row_put (f' := fun i => byteV ((firstL (ks k) (j + 1)).getD i 0)) hrow.out q (.int .u8 (y.toNat : Int)) (fun i _ => by
          rw [hstep]
          by_cases h1 : i = q
          · subst h1
            rw [if_pos rfl, List.getD_eq_getElem?_getD, List.getElem?_set_self (by omega)]; rfl
          · rw [if_neg h1, List.getD_eq_getElem?_getD, List.getElem?_set_ne (by omega), ← List.getD_eq_getElem?_getD])
        have HR2 := Lib.hid hrow2
        have HB2 := Lib.hid (HB.out.setCell (p := ⟨w.heap.size, q, none⟩) (Nat.le_refl _) (.int .u8 (y.toNat : Int)))
        have hqI0 : (0 : Int) ≤ (q : Int) := by omega
        have hqI1 : (q : Int) ≤ 31 := by omega
        have hqI2 : (q : Int) < 32 := by omega
        have hqI3 : (q : Int).toNat = q := by omega
        obtain ⟨s, hs⟩ : ∃ s, s = 7 - r := ⟨_, rfl⟩
        have t1 : IntKind.i64.wrap (q : Int) = (q : Int) := IntWalk.i64_in _ (by omega)
        have t2 : IntKind.i64.wrap (r : Int) = (r : Int) := IntWalk.i64_in _ (by omega)
        have t3 : IntKind.i64.wrap (7 - (r : Int)) = (s : Int) := by rw [show (7 : Int) - (r : Int) = (s : Int) by omega]; exact IntWalk.i64_in _ (by omega)
        have t7 : (j : Int).tmod 8 = (r : Int) := by rw [Int.tmod_eq_emod_of_nonneg hj0]; exact hrI
        have t4 : ¬ (s : Int) < 0 := by omega
        have t5 : min s 8 = s := by omega
        have t6 : IntKind.u8.wrap (2 ^ s) = 128 / 2 ^ r := by
          have : ∀ r : Fin 8, IntKind.u8.wrap (2 ^ (7 - r.val)) = 128 / 2 ^ r.val := by decide
          rw [hs]; exact this ⟨r, hr8⟩
        unfold byteV at c
        clear hs
        clear hstep hbit hq hr hx hy hfl hks hrow2
        go_wp2_with fail
        refine (H1.out _).mono ?_
        rintro e w2 ⟨rfl, rfl⟩
        go_wp2_with fail
        go_still_tail 14, (by kernel_rfl)
        go_wp2_with fail
        go_roundw
        case rel => exact ⟨j + 1, by go_num, by omega, HR2, HB2.out.drew⟩
        case measure => simp [intOf]; omega
    · have hltI : ¬ (j : Int) < (n : Int) := by omega
      have hjn : j = n := by omega
      have hl32 : (firstL (ks k) j).length = 32 := by rw [firstL_length, ks_length, hk]
      have hcells := cells_map 32 (firstL (ks k) j) (fun i => (firstL (ks k) j).getD i 0) hl32 (fun _ _ => rfl)
      have hc := rowIs_block hrow.out
      rw [hcells] at hc
      have hcv := run_string_row (src := 58) (dst := 9) Tryd.underlying58 Tryd.underlying5 Tryd.underlying9 w.heap.size 32 (firstL (ks k) j) (P := Tryd.prog) (e := 5) (w := wr) hc
      rw [hl32] at hcv
      have HJ := Lib.hid hjn
      clear hc hcells hl32 hjn
      go_wp2
      go_ret
      exact ⟨by rw [← HJ.out]; rfl, HB.out⟩
end Go.Proofs.YtohcackebmmikaaDoor
