/- trie's Bit, Common, First: what they answer. trie.First; the texts that are hashed. trie's Empty, LeafHash, ForkHash. Copies of texts. -/
import Derived.Test.YtmpjpaomgifpcaaGreatDoorBLib
import Derived.Test.YtmpjpaomgifpcaaGreatDoorBShaP
import Derived.Test.YtmpjpaomgifpcaaGreatDoorChecked
import Derived.Laws.Rows
import Derived.Lib.BufferWrite
import Derived.Lib.UnsafeStr
import Derived.Lib.Hide
import Derived.Laws.MakeOwn
import Derived.Laws.LoneSync
import Derived.Deep.RegionHeld3
import Derived.Deep.QuietTactic
import Derived.BigQuiet
import Derived.IntWalk
namespace Go.Proofs.YtmpjpaomgifpcaaGreatDoor
open Go.RowKit

/-- A key's bytes. -/
abbrev ks (s : ByteArray) : List UInt8 := s.data.toList

theorem bits_and1 (n : Int) (h0 : 0 ≤ n) (h : n < 256) : bits BinOp.and IntKind.u8 n 1 = n % 2 :=
  bits_mask .u8 8 (by decide) (by intro n h0 h1; rw [IntKind.wrap_u8]; omega) 1 (by decide) n h0 h

theorem ks_getD (k : ByteArray) (j : Nat) (h : j < k.size) : (ks k).getD j 0 = k[j]'h := by
  have : j < (ks k).length := by simpa using h
  rw [List.getD_eq_getElem?_getD, List.getElem?_eq_getElem this]; rfl

theorem bit_prog (k : ByteArray) (i : Nat) (w : World) (hi : i < 256) (hks : k.size ≤ 1000000) :
    Calls Tryz.prog 95 #[.string k, .int .i64 i] w fun e w' => e = .returned (.int .u8 (bitN (bitL (ks k) i))) ∧ w = w' := by
  have hi0 : (0 : Int) ≤ (i : Int) := by omega
  have hi1 : (i : Int) ≤ 255 := by omega
  by_cases h8 : i / 8 < k.size
  · have h8i : (i : Int) / 8 < (k.size : Int) := by omega
    have hx := (k[i / 8]'h8).toNat_lt
    have e1 : bitN (bitL (ks k) i) = ((k[i / 8]'h8).toNat : Int) / 2 ^ (7 - i % 8) % 2 := by
      rw [bitL, ks_getD _ _ h8, bitU_eq]
    rw [e1]
    have hq : 0 ≤ ((k[i / 8]'h8).toNat : Int) / 2 ^ (7 - i % 8) := Int.ediv_nonneg (by omega) (Int.pow_nonneg (by decide))
    have hq2 : ((k[i / 8]'h8).toNat : Int) / 2 ^ (7 - i % 8) < 256 := by
      have h1 : ((k[i / 8]'h8).toNat : Int) / 2 ^ (7 - i % 8) ≤ (k[i / 8]'h8).toNat := by
        have : ((k[i / 8]'h8).toNat : Int) / 2 ^ (7 - i % 8) = (((k[i / 8]'h8).toNat / 2 ^ (7 - i % 8) : Nat) : Int) := by simp
        rw [this]; exact_mod_cast Nat.div_le_self _ _
      omega
    have hb := bits_and1 _ hq hq2
    clear hq2 hx
    go_enter Tryz.func95, Tryz.ntmps95
    go_wp2
    go_ret
    exact ⟨by rw [← hb]; rfl, rfl⟩
  · have h8i : ¬ ((i : Int) / 8 < (k.size : Int)) := by omega
    have e1 : bitN (bitL (ks k) i) = 0 := by
      have : (ks k).getD (i / 8) 0 = 0 := by
        rw [List.getD_eq_getElem?_getD, List.getElem?_eq_none (by simpa using h8)]; rfl
      rw [bitL, this, bitU_zero]; rfl
    rw [e1]
    go_enter Tryz.func95, Tryz.ntmps95
    go_wp2
    go_ret
    exact ⟨rfl, rfl⟩

def lenTab : ByteArray := ⟨#[0, 1, 2, 2, 3, 3, 3, 3, 4, 4, 4, 4, 4, 4, 4, 4, 5, 5, 5, 5, 5, 5, 5, 5, 5, 5, 5, 5, 5, 5, 5, 5, 6, 6, 6, 6, 6, 6, 6, 6, 6, 6, 6, 6, 6, 6, 6, 6, 6, 6, 6, 6, 6, 6, 6, 6, 6, 6, 6, 6, 6, 6, 6, 6, 7, 7, 7, 7, 7, 7, 7, 7, 7, 7, 7, 7, 7, 7, 7, 7, 7, 7, 7, 7, 7, 7, 7, 7, 7, 7, 7, 7, 7, 7, 7, 7, 7, 7, 7, 7, 7, 7, 7, 7, 7, 7, 7, 7, 7, 7, 7, 7, 7, 7, 7, 7, 7, 7, 7, 7, 7, 7, 7, 7, 7, 7, 7, 7, 8, 8, 8, 8, 8, 8, 8, 8, 8, 8, 8, 8, 8, 8, 8, 8, 8, 8, 8, 8, 8, 8, 8, 8, 8, 8, 8, 8, 8, 8, 8, 8, 8, 8, 8, 8, 8, 8, 8, 8, 8, 8, 8, 8, 8, 8, 8, 8, 8, 8, 8, 8, 8, 8, 8, 8, 8, 8, 8, 8, 8, 8, 8, 8, 8, 8, 8, 8, 8, 8, 8, 8, 8, 8, 8, 8, 8, 8, 8, 8, 8, 8, 8, 8, 8, 8, 8, 8, 8, 8, 8, 8, 8, 8, 8, 8, 8, 8, 8, 8, 8, 8, 8, 8, 8, 8, 8, 8, 8, 8, 8, 8, 8, 8, 8, 8, 8, 8, 8, 8, 8, 8, 8, 8, 8, 8, 8, 8]⟩
set_option maxRecDepth 100000 in
theorem lenTab_size : lenTab.size = 256 := rfl
set_option maxRecDepth 100000 in
theorem lenTab_all : ∀ n : Fin 256, n.val ≠ 0 → (lenTab.data.getD n.val 0).toNat + lzU (UInt8.ofNat n.val) = 8 := by decide +kernel

set_option maxRecDepth 100000 in
theorem len8_prog (x : UInt8) (w : World) (hx : x ≠ 0) :
    Calls Tryz.prog 121 #[.int .u8 (x.toNat : Int)] w fun e w' => e = .returned (.int .i64 (8 - (lzU x : Int))) ∧ w = w' := by
  have hx2 := x.toNat_lt
  have h1 : (x.toNat : Int) < 256 := by omega
  have h0 : (0 : Int) ≤ (x.toNat : Int) := by omega
  go_enter Tryz.func121, Tryz.ntmps121
  go_wp2
  go_ret
  refine ⟨?_, rfl⟩
  show Ending.returned (.int .i64 (wrap64 ((lenTab[x.toNat]'(by rw [lenTab_size]; exact hx2)).toNat : Int))) = _
  have h2 := lenTab_all ⟨x.toNat, hx2⟩ (fun e => hx (UInt8.toNat_inj.1 (by rw [show x.toNat = 0 from e]; rfl)))
  simp only [UInt8.ofNat_toNat] at h2
  have h3 : lenTab.data.getD x.toNat 0 = lenTab[x.toNat]'(by rw [lenTab_size]; exact hx2) := by
    have h4 : x.toNat < lenTab.data.size := by
      have := lenTab_size
      rw [ByteArray.size] at this; omega
    rw [Array.getD_eq_getD_getElem?, Array.getElem?_eq_getElem h4]; rfl
  rw [h3] at h2
  generalize hv : (lenTab[x.toNat]'(by rw [lenTab_size]; exact hx2)).toNat = v at h2 ⊢
  rw [IntWalk.wrap64_in _ (by omega)]
  congr 2; omega

theorem lz_prog (x : UInt8) (w : World) (hx : x ≠ 0) :
    Calls Tryz.prog 114 #[.int .u8 (x.toNat : Int)] w fun e w' => e = .returned (.int .i64 (lzU x : Int)) ∧ w = w' := by
  have H := Lib.hid (len8_prog x w hx)
  have hl := (lzU_ok x hx).1
  go_enter Tryz.func114, Tryz.ntmps114
  go_wp2_with fail
  refine H.out.mono ?_
  rintro e w1 ⟨rfl, rfl⟩
  go_wp2
  go_ret
  exact ⟨by rw [show (8 : Int) - (8 - (lzU x : Int)) = lzU x by omega]; rfl, rfl⟩

theorem com_prog (a b : ByteArray) (w : World) (ha : a.size = 32) (hb : b.size = 32) :
    Calls Tryz.prog 82 #[.string a, .string b] w fun e w' => e = .returned (.int .i64 (comL (ks a) (ks b) : Nat)) ∧ Same w w' := by
  obtain ⟨C, hC⟩ : ∃ C, C = comL (ks a) (ks b) := ⟨_, rfl⟩
  have HC := Lib.hid hC
  rw [← hC]; clear hC
  go_enter Tryz.func82, Tryz.ntmps82
  go_wp2
  go_loopw [14] (fun i wr => ∃ j : Nat, j ≤ 32 ∧ i = .int .i64 j ∧ Hid (C = 8 * j + comL ((ks a).drop j) ((ks b).drop j)) ∧ Same w wr) (fun i _ => 32 - (intOf i).toNat)
  case atStart => exact ⟨0, by omega, rfl, by simpa using HC, Same.refl _⟩
  case round =>
    obtain ⟨j, hj, rfl, hc, hs⟩ := hrel
    by_cases hlt : j < 32
    · have hja : j < a.size := by omega
      have hjb : j < b.size := by omega
      have hj0 : (0 : Int) ≤ (j : Int) := by omega
      have hj1 : (j : Int) ≤ 31 := by omega
      have hx := bits_xor8 (a[j]'hja) (b[j]'hjb)
      have da : (ks a).drop j = a[j]'hja :: (ks a).drop (j + 1) := List.drop_eq_getElem_cons (by simpa using hja)
      have db : (ks b).drop j = b[j]'hjb :: (ks b).drop (j + 1) := List.drop_eq_getElem_cons (by simpa using hjb)
      have hc2 : Hid (C = 8 * j + (if a[j]'hja = b[j]'hjb then 8 + comL ((ks a).drop (j + 1)) ((ks b).drop (j + 1)) else lzU (a[j]'hja ^^^ b[j]'hjb))) := Lib.hid (by
        have := hc.out
        rw [da, db] at this; exact this)
      clear hc da db
      obtain ⟨X, hX⟩ : ∃ X, X = a[j]'hja ^^^ b[j]'hjb := ⟨_, rfl⟩
      rw [← hX] at hx hc2
      by_cases he : a[j]'hja = b[j]'hjb
      · have hx0 : X = 0 := by rw [hX, he]; simp
        have hx0' : ((X.toNat : Int) == 0) = true := by rw [hx0]; rfl
        have hc3 : Hid (C = 8 * (j + 1) + comL ((ks a).drop (j + 1)) ((ks b).drop (j + 1))) := Lib.hid (by
          rw [hc2.out, if_pos he]; omega)
        clear hX hx0 he hc2
        go_wp2_with fail
        go_quiet (fail)
        go_wp2
        go_roundw
        case rel => exact ⟨j + 1, by omega, by go_num, hc3, hs.trans ⟨_, rfl⟩⟩
        case measure => simp [intOf]; omega
      · have hx0' : ((X.toNat : Int) == 0) = false := by
          have : X.toNat ≠ 0 := fun h => xor_ne _ _ he (by rw [← hX]; exact UInt8.toNat_inj.1 (by rw [h]; rfl))
          simpa using this
        have hz : X ≠ 0 := by rw [hX]; exact xor_ne _ _ he
        have hl := (lzU_ok X hz).1
        obtain ⟨l, hl'⟩ : ∃ l, l = lzU X := ⟨_, rfl⟩
        have hlz : ∀ W, Calls Tryz.prog 114 #[.int .u8 (X.toNat : Int)] W fun e w' => e = .returned (.int .i64 (l : Int)) ∧ W = w' := fun W => by rw [hl']; exact lz_prog X W hz
        have HLZ := Lib.hid hlz
        rw [← hl'] at hl
        have hc3 : Hid (C = 8 * j + l) := Lib.hid (by rw [hc2.out, if_neg he, hl'])
        clear hX he hc2 hlz hl'
        go_wp2_with fail
        go_quiet (fail)
        go_wp2_with fail
        refine (HLZ.out _).mono ?_
        rintro e w1 ⟨rfl, rfl⟩
        go_wp2
        go_ret
        exact ⟨by rw [hc3.out]; simp, hs.trans ⟨_, rfl⟩⟩
    · have hj2 : j = 32 := by omega
      have hc3 : Hid (C = 256) := Lib.hid (by
        rw [hc.out, hj2]
        have e1 : (ks a).drop 32 = [] := List.drop_of_length_le (by simp; omega)
        have e2 : (ks b).drop 32 = [] := List.drop_of_length_le (by simp; omega)
        rw [e1, e2]; rfl)
      subst hj2
      go_wp2
      go_ret
      exact ⟨by rw [hc3.out]; rfl, hs⟩
end Go.Proofs.YtmpjpaomgifpcaaGreatDoor
namespace Go.Proofs.YtmpjpaomgifpcaaGreatDoor
open Go.RowKit

theorem firstL_get : ∀ (l : List UInt8) (n j : Nat), j < l.length → (firstL l n).getD j 0 = if 8 * j + 8 ≤ n then l.getD j 0 else if 8 * j < n then maskU (l.getD j 0) (n - 8 * j) else 0
  | [], _, _, h => by simp at h
  | x :: xs, n, 0, _ => by
    unfold firstL
    by_cases h0 : n = 0
    · simp [h0]
    · by_cases h8 : n < 8
      · have : ¬ 8 ≤ n := by omega
        have h1 : 0 < n := by omega
        simp [h0, h8, this, h1]
      · have : 8 ≤ n := by omega
        simp [h0, h8, this]
  | x :: xs, n, j + 1, h => by
    have ih := fun m => firstL_get xs m j (by simpa using h)
    unfold firstL
    by_cases h0 : n = 0
    · rw [if_pos h0, List.getD_cons_succ, ih, h0, if_neg (by omega), if_neg (by omega), if_neg (by omega), if_neg (by omega)]
    · rw [if_neg h0]
      by_cases h8 : n < 8
      · rw [if_pos h8, List.getD_cons_succ, ih, if_neg (by omega), if_neg (by omega), if_neg (by omega), if_neg (by omega)]
      · rw [if_neg h8, List.getD_cons_succ, ih, List.getD_cons_succ]
        by_cases h1 : 8 * (j + 1) + 8 ≤ n
        · rw [if_pos h1, if_pos (by omega)]
        · rw [if_neg h1, if_neg (by omega)]
          by_cases h2 : 8 * (j + 1) < n
          · rw [if_pos h2, if_pos (by omega), show n - 8 - 8 * j = n - 8 * (j + 1) by omega]
          · rw [if_neg h2, if_neg (by omega)]

theorem andNot_all : ∀ n : Fin 256, ∀ r : Fin 8, bits BinOp.andNot IntKind.u8 (n.val : Int) (255 / 2 ^ r.val) = ((maskU (UInt8.ofNat n.val) r.val).toNat : Int) := by decide +kernel
theorem andNot_mask (x : UInt8) (r : Nat) (hr : r < 8) : bits BinOp.andNot IntKind.u8 (x.toNat : Int) (255 / 2 ^ r) = ((maskU x r).toNat : Int) := by
  have hx := x.toNat_lt
  have := andNot_all ⟨x.toNat, by omega⟩ ⟨r, hr⟩
  simpa only [UInt8.ofNat_toNat] using this

/-- The first n bits of a key, as a text. -/
def firstB (k : ByteArray) (n : Nat) : ByteArray := ⟨(firstL (ks k) n).toArray⟩

theorem cells_map (n : Nat) (R : List UInt8) (F : Nat → UInt8) (hl : R.length = n) (h : ∀ j, j < n → R.getD j 0 = F j) : arrL n (fun j => byteV (F j)) = R.map byteV := by
  apply List.ext_getElem (by rw [arrL_length, List.length_map, hl])
  intro j h1 h2
  have hj : j < n := by simpa [arrL] using h1
  have h3 := h j hj
  have h4 : j < R.length := by rw [hl]; exact hj
  simp only [List.getD, List.getElem?_eq_getElem h4, Option.getD_some] at h3
  simp [arrL, h3]

set_option maxRecDepth 100000 in
set_option maxHeartbeats 1000000 in
theorem first_prog (k : ByteArray) (n : Nat) (w : World) (hk : k.size = 32) (hn : n ≤ 256) :
    Calls Tryz.prog 112 #[.string k, .int .i64 n] w fun e w' => e = .returned (.string (firstB k n)) ∧ Below w.heap.size w w' := by
  have hlen : (firstL (ks k) n).length = 32 := by rw [firstL_length]; simpa using hk
  have hget : ∀ j, j < 32 → (firstL (ks k) n).getD j 0 = if 8 * j + 8 ≤ n then (ks k).getD j 0 else if 8 * j < n then maskU ((ks k).getD j 0) (n - 8 * j) else 0 := fun j hj => firstL_get (ks k) n j (by simp; omega)
  obtain ⟨R, hR⟩ : ∃ R, R = firstL (ks k) n := ⟨_, rfl⟩
  unfold firstB
  rw [← hR] at hlen hget ⊢
  have HG := Lib.hid hget
  have HL := Lib.hid hlen
  clear hget hlen hR
  have hn0 : (0 : Int) ≤ (n : Int) := by omega
  have hn1 : (n : Int) ≤ 256 := by omega
  obtain ⟨q, hq⟩ : ∃ q, q = n / 8 := ⟨_, rfl⟩
  obtain ⟨r, hr⟩ : ∃ r, r = n % 8 := ⟨_, rfl⟩
  have hqI : (n : Int) / 8 = (q : Int) := by omega
  have hrI : (n : Int) % 8 = (r : Int) := by omega
  have hr8 : r < 8 := by omega
  have hq32 : q ≤ 32 := by omega
  have hqk : q ≤ k.size := by omega
  have hQ0 : (0 : Int) ≤ (q : Int) := by omega
  have hQ1 : (q : Int) ≤ 32 := by omega
  have HQ := Lib.hid hq
  have HRR := Lib.hid hr
  clear hq hr
  have hsz : (k.extract 0 q).size = q := by simp; omega
  go_enter Tryz.func112, Tryz.ntmps112
  go_wp2_with fail
  go_still_tail 4, (by kernel_rfl)
  go_wp2_with (refine list_copy_str (e := 5) Tryz.underlying99 (by kernel_rfl) rfl _ _ rfl w.heap.size 32 rfl (k.extract 0 q) rfl 168 (fun _ => .int .u8 0) (World.rowIs.drew (rowIs_rep (by rfl))) ?_)
  intro w1 hr1 ho1
  have hb1 : Below w.heap.size w w1 := (((Below.refl w.heap.size w).alloc (Nat.le_refl _) _).drew).trans (ho1.below (Nat.le_refl _) (by simp))
  clear ho1
  have hr2 : w1.rowIs w.heap.size 168 32 (fun j => byteV (if j < q then (ks k).getD j 0 else 0)) := hr1.congr (fun j hj => by
    by_cases h : j < q
    · have h1 : j < min q k.data.size - 0 := by
        have : k.data.size = 32 := hk
        omega
      rw [if_pos h, if_pos h, Array.getElem?_extract, if_pos h1]
      simp [List.getD_eq_getElem?_getD]
    · simp [h, byteV])
  clear hr1
  by_cases hr0 : r = 0
  · have hr0' : (r : Int) ≤ 0 := by omega
    have hcells := cells_map 32 R (fun j => if j < q then (ks k).getD j 0 else 0) HL.out (fun j hj => by
      rw [HG.out j hj]
      have := HQ.out; have := HRR.out
      by_cases h1 : j < q
      · rw [if_pos h1, if_pos (by omega)]
      · rw [if_neg h1, if_neg (by omega), if_neg (by omega)])
    have hc := rowIs_block hr2
    rw [hcells] at hc
    have hcv := run_string_row (src := 99) (dst := 9) Tryz.underlying99 Tryz.underlying5 Tryz.underlying9 w.heap.size 32 R (P := Tryz.prog) (e := 5) (w := w1) hc
    rw [HL.out] at hcv
    clear hr2 hc hcells hr0
    go_wp2
    go_ret
    exact ⟨rfl, hb1⟩
  · have hr0' : (0 : Int) < (r : Int) := by omega
    have hqlt : q < 32 := by have := HQ.out; have := HRR.out; omega
    have hqk2 : q < k.size := by omega
    have hQ2 : (q : Int) < (32 : Int) := by omega
    have hQ3 : (q : Int).toNat = q := by omega
    have hand := andNot_mask (k[q]'hqk2) r hr8
    have c := hr2.cell (i := q) hqlt
    have f := hr2.frozen q
    have hrow : (w1.setCell ⟨w.heap.size, q, none⟩ (.int .u8 ((maskU (k[q]'hqk2) r).toNat : Int))).rowIs w.heap.size 168 32 (fun j => byteV (if j < q then (ks k).getD j 0 else if j = q then maskU (k[q]'hqk2) r else 0)) := row_put hr2 _ _ (fun j _ => by
      by_cases h1 : j = q
      · subst h1; simp [byteV]
      · simp [h1])
    have hb2 := hb1.setCell (p := ⟨w.heap.size, q, none⟩) (Nat.le_refl _) (.int .u8 ((maskU (k[q]'hqk2) r).toNat : Int))
    obtain ⟨W2, hW2⟩ : ∃ W2, W2 = w1.setCell ⟨w.heap.size, q, none⟩ (.int .u8 ((maskU (k[q]'hqk2) r).toNat : Int)) := ⟨_, rfl⟩
    rw [← hW2] at hrow hb2
    have hcells := cells_map 32 R (fun j => if j < q then (ks k).getD j 0 else if j = q then maskU (k[q]'hqk2) r else 0) HL.out (fun j hj => by
      rw [HG.out j hj]
      have h2 := HQ.out; have h3 := HRR.out
      by_cases h1 : j < q
      · rw [if_pos h1, if_pos (by omega)]
      · rw [if_neg h1, if_neg (by omega)]
        by_cases h4 : j = q
        · rw [if_pos h4, if_pos (by omega), show n - 8 * j = r by omega, h4, ks_getD _ _ hqk2]
        · rw [if_neg h4, if_neg (by omega)])
    have hc := rowIs_block hrow
    rw [hcells] at hc
    have hcv := run_string_row (src := 99) (dst := 9) Tryz.underlying99 Tryz.underlying5 Tryz.underlying9 w.heap.size 32 R (P := Tryz.prog) (e := 5) (w := W2.drew) hc
    rw [HL.out, hW2] at hcv
    rw [hW2] at hb2
    clear hr2 hc hcells hr0 hrow hW2
    go_wp2_with fail
    go_still_tail 8, (by kernel_rfl)
    go_wp2
    go_ret
    exact ⟨rfl, hb2.drew⟩
end Go.Proofs.YtmpjpaomgifpcaaGreatDoor
namespace Go.Proofs.YtmpjpaomgifpcaaGreatDoor
open Go.RowKit

theorem sum_ok : SumOk := sum_prog rounds_ok

/-- The hash of bytes, as a text. -/
def sumB (l : List UInt8) : ByteArray := ⟨(sumL l).toArray⟩
theorem sumL_length (l : List UInt8) : (sumL l).length = 32 := by rw [sumL, sumBy_length]
theorem sumB_size (l : List UInt8) : (sumB l).size = 32 := by rw [sumB, mk_size, sumL_length]
theorem ks_sumB (l : List UInt8) : ks (sumB l) = sumL l := by simp [ks, sumB]
/-- What a leaf's hash is of, and a fork's. -/
def leafT (k v : ByteArray) : List UInt8 := 0 :: (ks k ++ sumL (ks v))
def forkT (p : Nat) (k z o : ByteArray) : List UInt8 := 1 :: UInt8.ofNat (p / 256) :: UInt8.ofNat (p % 256) :: (ks k ++ (ks z ++ ks o))
def leafH (k v : ByteArray) : ByteArray := sumB (leafT k v)
def forkH (p : Nat) (k z o : ByteArray) : ByteArray := sumB (forkT p k z o)
/-- 32 bytes 0. -/
def noneH : ByteArray := ⟨(List.replicate 32 (0 : UInt8)).toArray⟩

theorem leafT_length (k v : ByteArray) : (leafT k v).length = k.size + 33 := by simp [leafT, sumL_length]
theorem forkT_length (p : Nat) (k z o : ByteArray) : (forkT p k z o).length = k.size + z.size + o.size + 3 := by simp [forkT]; omega
theorem sum_at (s : ByteArray) (T : List UInt8) (w : World) (hT : ks s = T) (hs : T.length ≤ 100000) (hst : Start w) :
    Calls Tryz.prog 119 #[.string s] w fun e w' => e = .returned (.string (sumB T)) ∧ Below w.heap.size w w' := by
  subst hT; exact sum_ok s w (by simpa using hs) hst

set_option maxRecDepth 100000 in
theorem leafHash_prog (k v : ByteArray) (w : World) (hk : k.size ≤ 1000) (hv : v.size ≤ 50000) (hst : Start w) :
    Calls Tryz.prog 98 #[.string k, .string v] w fun e w' => e = .returned (.string (leafH k v)) ∧ Below w.heap.size w w' := by
  have HS := Lib.hid hst
  clear hst
  obtain ⟨S, hS⟩ : ∃ S, S = sumB (ks v) := ⟨_, rfl⟩
  have hsz : S.size ≤ 32 := by rw [hS, sumB_size]; omega
  have HSS := Lib.hid hS
  clear hS
  go_enter Tryz.func98, Tryz.ntmps98
  go_wp2_with fail
  refine (sum_at v _ _ rfl (by simp; omega) HS.out).mono ?_
  rw [← HSS.out]
  rintro e w1 ⟨rfl, hb1⟩
  have hst1 := Lib.hid (HS.out.later hb1)
  go_wp2_with fail
  refine (sum_at _ (leafT k v) _ ?_ ?_ hst1.out).mono ?_
  · simp [leafT, HSS.out, ks, sumB]
  · rw [leafT_length]; omega
  rintro e w2 ⟨rfl, hb2⟩
  go_wp2
  go_ret
  exact ⟨rfl, hb1.trans (hb2.mono hb1.size)⟩

set_option maxRecDepth 100000 in
theorem forkHash_prog (p : Nat) (k z o : ByteArray) (w : World) (hp : p < 65536) (hk : k.size ≤ 1000) (hz : z.size ≤ 1000) (ho : o.size ≤ 1000) (hst : Start w) :
    Calls Tryz.prog 113 #[.int .i64 p, .string k, .string z, .string o] w fun e w' => e = .returned (.string (forkH p k z o)) ∧ Below w.heap.size w w' := by
  have HS := Lib.hid hst
  clear hst
  have hp0 : (0 : Int) ≤ (p : Int) := by omega
  have hp1 : (p : Int) ≤ 65535 := by omega
  have hcv := run_string_block (P := Tryz.prog) (w := w.alloc (.cells #[.int .u8 ((p : Int) / 256), .int .u8 ((p : Int) % 256)] 5)) (src := 99) (dst := 9) Tryz.underlying99 Tryz.underlying5 Tryz.underlying9 w.heap.size 2 [UInt8.ofNat (p / 256), UInt8.ofNat (p % 256)] (by rw [heap_at_alloc]; simp [byteV]; omega)
  simp only [List.length_cons, List.length_nil, Nat.zero_add] at hcv
  go_enter Tryz.func113, Tryz.ntmps113
  go_wp2_with fail
  refine (sum_at _ (forkT p k z o) _ ?_ ?_ (HS.out.later ((Below.refl _ w).alloc (Nat.le_refl _) _))).mono ?_
  · simp [forkT, ks]
  · rw [forkT_length]; omega
  rintro e w2 ⟨rfl, hb2⟩
  go_wp2
  go_ret
  exact ⟨rfl, ((Below.refl _ w).alloc (Nat.le_refl _) _).trans (hb2.mono (by simp))⟩

theorem empty_prog (w : World) :
    Calls Tryz.prog 43 #[] w fun e w' => e = .returned (.string noneH) ∧ Below w.heap.size w w' := by
  go_enter Tryz.func43, Tryz.ntmps43
  go_wp2_with (refine list_makeN Tryz.bytesSl rfl _ _ rfl 32 32 32 rfl rfl rfl rfl (by omega) (by unfold maxLen; omega) rfl ?_)
  intro w1 hr hb
  have hc := rowIs_block hr
  have hcells := cells_map 32 (List.replicate 32 (0 : UInt8)) (fun _ => 0) (by simp) (fun j hj => by rw [List.getD_eq_getElem?_getD, List.getElem?_replicate]; simp [hj])
  have e0 : arrL 32 (fun _ => Value.int .u8 0) = (List.replicate 32 (0 : UInt8)).map byteV := hcells
  rw [e0] at hc
  have hcv := run_string_row (src := 99) (dst := 9) Tryz.underlying99 Tryz.underlying5 Tryz.underlying9 w.heap.size 32 (List.replicate 32 (0 : UInt8)) (P := Tryz.prog) (e := 5) (w := w1) hc
  rw [List.length_replicate] at hcv
  clear hc hcells e0 hr
  go_wp2
  go_ret
  exact ⟨rfl, hb⟩
end Go.Proofs.YtmpjpaomgifpcaaGreatDoor
namespace Go.Proofs.YtmpjpaomgifpcaaGreatDoor
open Go.RowKit

set_option maxHeartbeats 4000000 in
set_option maxRecDepth 100000 in
theorem lclone_prog (s : ByteArray) (w : World) (hlim : s.size ≤ 281474976710656) :
    Calls Tryz.prog 118 #[.string s] w fun e w' => e = .returned (.string s) ∧ Below w.heap.size w w' := by
  by_cases h0 : s.size = 0
  · have hs : s = ⟨#[]⟩ := ByteArray.ext (Array.eq_empty_of_size_eq_zero h0)
    subst hs
    go_enter Tryz.func118, Tryz.ntmps118
    go_wp2
    go_ret
    exact ⟨rfl, Below.refl _ _⟩
  · have info5 : (Tryz.prog.info? 5).map (fun i => (i.zero, i.size, i.bytes)) = some (some (.int .u8 0), 1, 1) := by kernel_rfl
    obtain ⟨i0, hi, hz0, hz1, hz2⟩ := info_parts info5
    have hinfo : (Tryz.prog.info? 5).map (·.size) = some 1 := by rw [hi]; simp [hz1]
    have hco : Tryz.prog.cellsOf 5 = 1 := by simp [Program.cellsOf, hi, hz1]
    obtain ⟨M, hM⟩ : ∃ M, M = madeCells (Value.int .u8 0).cells (((s.size : Nat) : Int).toNat * i0.size) := ⟨_, rfl⟩
    have hMs : M.size = s.size := by rw [hM, size_madeCells, hz1]; simp
    have hmk : ∀ W : World, (Instr.makeSlice 99 (.int .i64 (s.size : Int)) (.int .i64 (s.size : Int))).run Tryz.prog W = .ok (.slice (some ⟨W.heap.size, 0, none⟩) s.size s.size) (W.alloc (.cells M 5)) := fun W => by
      have h := run_make (P := Tryz.prog) W 99 5 i0 (.int .u8 0) Tryz.underlying99 hi hz0 .i64 .i64 (s.size : Int) (s.size : Int) (by omega) (by omega) (by rw [hz2]; omega) (by omega)
      rw [← hM] at h
      simpa using h
    clear hM
    have hcp := Lib.run_copy_row_string (P := Tryz.prog) (w.alloc (.cells M 5)) 99 9 3 5 w.heap.size 0 s.size s.size s M 5 Tryz.underlying99 hinfo (heap_alloc_new w _) (Nat.le_refl _) (by omega)
    obtain ⟨Y, hY⟩ : ∃ Y, Y = (M.toList.take 0 ++ Lib.byteCells s.data.toList ++ M.toList.drop (0 + s.size)).toArray := ⟨_, rfl⟩
    rw [← hY] at hcp
    have hYl : Y.toList = Lib.byteCells s.data.toList := by
      rw [hY, List.toList_toArray, List.take_zero, List.nil_append, List.drop_of_length_le (by rw [Array.length_toList]; omega), List.append_nil]
    have hYs : Y.size = s.size := by rw [← Array.length_toList, hYl, Lib.byteCells_length, ← Lib.size_eq]
    have hgY : ((w.alloc (.cells M 5)).setRow w.heap.size Y).heap[w.heap.size]? = some (.cells Y 5 (0, 0)) := setRow_heap _ _ M _ 5 (0, 0) (heap_alloc_new w _)
    have hne : s.data.toList ≠ [] := fun e => h0 (by rw [Lib.size_eq, e]; rfl)
    have hUS := Lib.run_unsafeString_row (P := Tryz.prog) ((w.alloc (.cells M 5)).setRow w.heap.size Y) 171 3 9 5 Tryz.underlying171 hco w.heap.size Y.size (by unfold World.shape?; rw [hgY]) s.data.toList hne (by rw [← Lib.size_eq]; omega) (by rw [← Lib.size_eq]; omega)
      (fun j x hx => Lib.cells_of_row hgY Y.size j _ (by rw [List.take_of_length_le (by rw [Array.length_toList]; exact Nat.le_refl _), hYl]; simp [Lib.byteCells, hx]))
    rw [← Lib.size_eq] at hUS
    clear hY
    go_enter Tryz.func118, Tryz.ntmps118
    go_wp2
    go_ret
    have hb1 : Below w.heap.size w (w.alloc (.cells M 5)) := (Below.refl _ w).alloc (Nat.le_refl _) _
    have hb2 : Below w.heap.size (w.alloc (.cells M 5)) ((w.alloc (.cells M 5)).setRow w.heap.size Y) := ⟨rfl, rfl, rfl, by simp, fun k hk => setRow_other _ _ _ _ (by omega)⟩
    exact ⟨rfl, Lib.below_freeze (hb1.trans hb2) (p := ⟨w.heap.size, 0, none⟩) (Nat.le_refl _) _⟩

theorem clone_prog (s : ByteArray) (w : World) (hlim : s.size ≤ 281474976710656) :
    Calls Tryz.prog 97 #[.string s] w fun e w' => e = .returned (.string s) ∧ Below w.heap.size w w' := by
  have H := Lib.hid (lclone_prog s w hlim)
  go_enter Tryz.func97, Tryz.ntmps97
  go_wp2_with fail
  refine H.out.mono ?_
  rintro e w1 ⟨rfl, hb⟩
  go_wp2
  go_ret
  exact ⟨rfl, hb⟩
end Go.Proofs.YtmpjpaomgifpcaaGreatDoor
