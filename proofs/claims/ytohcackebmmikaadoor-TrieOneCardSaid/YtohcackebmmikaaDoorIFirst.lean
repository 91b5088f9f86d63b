/- trie.First; the texts that are hashed. -/
import Derived.Test.YtohcackebmmikaaDoorIPure
namespace Go.Proofs.YtohcackebmmikaaDoor
open Go.RowKit

theorem firstL_get : ∀ (l : List UInt8) (n j : Nat), j < l.length → (firstL l n).getD j 0 = if 8 * j + 8 ≤ n then l.getD j 0 else if 8 * j < n then maskU (l.getD j 0) (n - 8 * j) else 0
  | [], _, _, h => by simp at h
  | x :: xs, n, 0, _ => by
    unfold firstL
    by_cases h0 : n = 0
    · simp [h0]
    · by_cases h8 : n < 8
      · have : ¬ 8 ≤ n := by omega
        have h1 : 0 < n := by omega
        simp [h0, h8, this, h1]
      · have : 8 ≤ n := by omega
        simp [h0, h8, this]
  | x :: xs, n, j + 1, h => by
    have ih := fun m => firstL_get xs m j (by simpa using h)
    unfold firstL
    by_cases h0 : n = 0
    · rw [if_pos h0, List.getD_cons_succ, ih, h0, if_neg (by omega), if_neg (by omega), if_neg (by omega), if_neg (by omega)]
    · rw [if_neg h0]
      by_cases h8 : n < 8
      · rw [if_pos h8, List.getD_cons_succ, ih, if_neg (by omega), if_neg (by omega), if_neg (by omega), if_neg (by omega)]
      · rw [if_neg h8, List.getD_cons_succ, ih, List.getD_cons_succ]
        by_cases h1 : 8 * (j + 1) + 8 ≤ n
        · rw [if_pos h1, if_pos (by omega)]
        · rw [if_neg h1, if_neg (by omega)]
          by_cases h2 : 8 * (j + 1) < n
          · rw [if_pos h2, if_pos (by omega), show n - 8 - 8 * j = n - 8 * (j + 1) by omega]
          · rw [if_neg h2, if_neg (by omega)]

theorem andNot_all : ∀ n : Fin 256, ∀ r : Fin 8, bits BinOp.andNot IntKind.u8 (n.val : Int) (255 / 2 ^ r.val) = ((maskU (UInt8.ofNat n.val) r.val).toNat : Int) := by decide +kernel
theorem andNot_mask (x : UInt8) (r : Nat) (hr : r < 8) : bits BinOp.andNot IntKind.u8 (x.toNat : Int) (255 / 2 ^ r) = ((maskU x r).toNat : Int) := by
  have hx := x.toNat_lt
  have := andNot_all ⟨x.toNat, by omega⟩ ⟨r, hr⟩
  simpa only [UInt8.ofNat_toNat] using this

/-- The first n bits of a key, as a text. -/
def firstB (k : ByteArray) (n : Nat) : ByteArray := ⟨(firstL (ks k) n).toArray⟩

theorem cells_map (n : Nat) (R : List UInt8) (F : Nat → UInt8) (hl : R.length = n) (h : ∀ j, j < n → R.getD j 0 = F j) : arrL n (fun j => byteV (F j)) = R.map byteV := by
  apply List.ext_getElem (by rw [arrL_length, List.length_map, hl])
  intro j h1 h2
  have hj : j < n := by simpa [arrL] using h1
  have h3 := h j hj
  have h4 : j < R.length := by rw [hl]; exact hj
  simp only [List.getD, List.getElem?_eq_getElem h4, Option.getD_some] at h3
  simp [arrL, h3]

set_option maxRecDepth 100000 in
set_option maxHeartbeats 1000000 in
theorem first_prog (k : ByteArray) (n : Nat) (w : World) (hk : k.size = 32) (hn : n ≤ 256) :
    Calls Tryd.prog 60 #[.string k, .int .i64 n] w fun e w' => e = .returned (.string (firstB k n)) ∧ Below w.heap.size w w' := by
  have hlen : (firstL (ks k) n).length = 32 := by rw [firstL_length]; simpa using hk
  have hget : ∀ j, j < 32 → (firstL (ks k) n).getD j 0 = if 8 * j + 8 ≤ n then (ks k).getD j 0 else if 8 * j < n then maskU ((ks k).getD j 0) (n - 8 * j) else 0 := fun j hj => firstL_get (ks k) n j (by simp; omega)
  obtain ⟨R, hR⟩ : ∃ R, R = firstL (ks k) n := ⟨_, rfl⟩
  unfold firstB
  rw [← hR] at hlen hget ⊢
  have HG := Lib.hid hget
  have HL := Lib.hid hlen
  clear hget hlen hR
  have hn0 : (0 : Int) ≤ (n : Int) := by omega
  have hn1 : (n : Int) ≤ 256 := by omega
  obtain ⟨q, hq⟩ : ∃ q, q = n / 8 := ⟨_, rfl⟩
  obtain ⟨r, hr⟩ : ∃ r, r = n % 8 := ⟨_, rfl⟩
  have hqI : (n : Int) / 8 = (q : Int) := by omega
  have hrI : (n : Int) % 8 = (r : Int) := by omega
  have hr8 : r < 8 := by omega
  have hq32 : q ≤ 32 := by omega
  have hqk : q ≤ k.size := by omega
  have hQ0 : (0 : Int) ≤ (q : Int) := by omega
  have hQ1 : (q : Int) ≤ 32 := by omega
  have HQ := Lib.hid hq
  have HRR := Lib.hid hr
  clear hq hr
  have hsz : (k.extract 0 q).size = q := by simp; omega
  go_enter Tryd.func60, Tryd.ntmps60
  go_wp2_with fail
  go_still_tail 4, (by kernel_rfl)
  go_wp2_with (refine list_copy_str (e := 5) Tryd.underlying58 (by kernel_rfl) rfl _ _ rfl w.heap.size 32 rfl (k.extract 0 q) rfl 98 (fun _ => .int .u8 0) (World.rowIs.drew (rowIs_rep (by rfl))) ?_)
  intro w1 hr1 ho1
  have hb1 : Below w.heap.size w w1 := (((Below.refl w.heap.size w).alloc (Nat.le_refl _) _).drew).trans (ho1.below (Nat.le_refl _) (by simp))
  clear ho1
  have hr2 : w1.rowIs w.heap.size 98 32 (fun j => byteV (if j < q then (ks k).getD j 0 else 0)) := hr1.congr (fun j hj => by
    by_cases h : j < q
    · have h1 : j < min q k.data.size - 0 := by
        have : k.data.size = 32 := hk
        omega
      rw [if_pos h, if_pos h, Array.getElem?_extract, if_pos h1]
      simp [List.getD_eq_getElem?_getD]
    · simp [h, byteV])
  clear hr1
  by_cases hr0 : r = 0
  · have hr0' : (r : Int) ≤ 0 := by omega
    have hcells := cells_map 32 R (fun j => if j < q then (ks k).getD j 0 else 0) HL.out (fun j hj => by
      rw [HG.out j hj]
      have := HQ.out; have := HRR.out
      by_cases h1 : j < q
      · rw [if_pos h1, if_pos (by omega)]
      · rw [if_neg h1, if_neg (by omega), if_neg (by omega)])
    have hc := rowIs_block hr2
    rw [hcells] at hc
    have hcv := run_string_row (src := 58) (dst := 9) Tryd.underlying58 Tryd.underlying5 Tryd.underlying9 w.heap.size 32 R (P := Tryd.prog) (e := 5) (w := w1) hc
    rw [HL.out] at hcv
    clear hr2 hc hcells hr0
    go_wp2
    go_ret
    exact ⟨rfl, hb1⟩
  · have hr0' : (0 : Int) < (r : Int) := by omega
    have hqlt : q < 32 := by have := HQ.out; have := HRR.out; omega
    have hqk2 : q < k.size := by omega
    have hQ2 : (q : Int) < (32 : Int) := by omega
    have hQ3 : (q : Int).toNat = q := by omega
    have hand := andNot_mask (k[q]'hqk2) r hr8
    have c := hr2.cell (i := q) hqlt
    have f := hr2.frozen q
    have hrow : (w1.setCell ⟨w.heap.size, q, none⟩ (.int .u8 ((maskU (k[q]'hqk2) r).toNat : Int))).rowIs w.heap.size 98 32 (fun j => byteV (if j < q then (ks k).getD j 0 else if j = q then maskU (k[q]'hqk2) r else 0)) := row_put hr2 _ _ (fun j _ => by
      by_cases h1 : j = q
      · subst h1; simp [byteV]
      · simp [h1])
    have hb2 := hb1.setCell (p := ⟨w.heap.size, q, none⟩) (Nat.le_refl _) (.int .u8 ((maskU (k[q]'hqk2) r).toNat : Int))
    obtain ⟨W2, hW2⟩ : ∃ W2, W2 = w1.setCell ⟨w.heap.size, q, none⟩ (.int .u8 ((maskU (k[q]'hqk2) r).toNat : Int)) := ⟨_, rfl⟩
    rw [← hW2] at hrow hb2
    have hcells := cells_map 32 R (fun j => if j < q then (ks k).getD j 0 else if j = q then maskU (k[q]'hqk2) r else 0) HL.out (fun j hj => by
      rw [HG.out j hj]
      have h2 := HQ.out; have h3 := HRR.out
      by_cases h1 : j < q
      · rw [if_pos h1, if_pos (by omega)]
      · rw [if_neg h1, if_neg (by omega)]
        by_cases h4 : j = q
        · rw [if_pos h4, if_pos (by omega), show n - 8 * j = r by omega, h4, ks_getD _ _ hqk2]
        · rw [if_neg h4, if_neg (by omega)])
    have hc := rowIs_block hrow
    rw [hcells] at hc
    have hcv := run_string_row (src := 58) (dst := 9) Tryd.underlying58 Tryd.underlying5 Tryd.underlying9 w.heap.size 32 R (P := Tryd.prog) (e := 5) (w := W2.drew) hc
    rw [HL.out, hW2] at hcv
    rw [hW2] at hb2
    clear hr2 hc hcells hr0 hrow hW2
    go_wp2_with fail
    go_still_tail 8, (by kernel_rfl)
    go_wp2
    go_ret
    exact ⟨rfl, hb2.drew⟩
end Go.Proofs.YtohcackebmmikaaDoor
