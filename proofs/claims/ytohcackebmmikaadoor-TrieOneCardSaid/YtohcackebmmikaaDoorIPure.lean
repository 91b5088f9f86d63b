/- trie's Bit, Common, First: what they answer. -/
import Derived.Test.YtohcackebmmikaaDoorIBits
import Derived.Test.YtohcackebmmikaaDoorSRounds
import Derived.Test.YtohcackebmmikaaDoorLib2
namespace Go.Proofs.YtohcackebmmikaaDoor
open Go.RowKit

/-- A key's bytes. -/
abbrev ks (s : ByteArray) : List UInt8 := s.data.toList

theorem bits_and1 (n : Int) (h0 : 0 ≤ n) (h : n < 256) : bits BinOp.and IntKind.u8 n 1 = n % 2 :=
  bits_mask .u8 8 (by decide) (by intro n h0 h1; rw [IntKind.wrap_u8]; omega) 1 (by decide) n h0 h

theorem ks_getD (k : ByteArray) (j : Nat) (h : j < k.size) : (ks k).getD j 0 = k[j]'h := by
  have : j < (ks k).length := by simpa using h
  rw [List.getD_eq_getElem?_getD, List.getElem?_eq_getElem this]; rfl

theorem bit_prog (k : ByteArray) (i : Nat) (w : World) (hi : i < 256) (hks : k.size ≤ 1000000) :
    Calls Tryd.prog 51 #[.string k, .int .i64 i] w fun e w' => e = .returned (.int .u8 (bitN (bitL (ks k) i))) ∧ w = w' := by
  have hi0 : (0 : Int) ≤ (i : Int) := by omega
  have hi1 : (i : Int) ≤ 255 := by omega
  by_cases h8 : i / 8 < k.size
  · have h8i : (i : Int) / 8 < (k.size : Int) := by omega
    have hx := (k[i / 8]'h8).toNat_lt
    have e1 : bitN (bitL (ks k) i) = ((k[i / 8]'h8).toNat : Int) / 2 ^ (7 - i % 8) % 2 := by
      rw [bitL, ks_getD _ _ h8, bitU_eq]
    rw [e1]
    have hq : 0 ≤ ((k[i / 8]'h8).toNat : Int) / 2 ^ (7 - i % 8) := Int.ediv_nonneg (by omega) (Int.pow_nonneg (by decide))
    have hq2 : ((k[i / 8]'h8).toNat : Int) / 2 ^ (7 - i % 8) < 256 := by
      have h1 : ((k[i / 8]'h8).toNat : Int) / 2 ^ (7 - i % 8) ≤ (k[i / 8]'h8).toNat := by
        have : ((k[i / 8]'h8).toNat : Int) / 2 ^ (7 - i % 8) = (((k[i / 8]'h8).toNat / 2 ^ (7 - i % 8) : Nat) : Int) := by simp
        rw [this]; exact_mod_cast Nat.div_le_self _ _
      omega
    have hb := bits_and1 _ hq hq2
    clear hq2 hx
    go_enter Tryd.func51, Tryd.ntmps51
    go_wp2
    go_ret
    exact ⟨by rw [← hb]; rfl, rfl⟩
  · have h8i : ¬ ((i : Int) / 8 < (k.size : Int)) := by omega
    have e1 : bitN (bitL (ks k) i) = 0 := by
      have : (ks k).getD (i / 8) 0 = 0 := by
        rw [List.getD_eq_getElem?_getD, List.getElem?_eq_none (by simpa using h8)]; rfl
      rw [bitL, this, bitU_zero]; rfl
    rw [e1]
    go_enter Tryd.func51, Tryd.ntmps51
    go_wp2
    go_ret
    exact ⟨rfl, rfl⟩

def lenTab : ByteArray := ⟨#[0, 1, 2, 2, 3, 3, 3, 3, 4, 4, 4, 4, 4, 4, 4, 4, 5, 5, 5, 5, 5, 5, 5, 5, 5, 5, 5, 5, 5, 5, 5, 5, 6, 6, 6, 6, 6, 6, 6, 6, 6, 6, 6, 6, 6, 6, 6, 6, 6, 6, 6, 6, 6, 6, 6, 6, 6, 6, 6, 6, 6, 6, 6, 6, 7, 7, 7, 7, 7, 7, 7, 7, 7, 7, 7, 7, 7, 7, 7, 7, 7, 7, 7, 7, 7, 7, 7, 7, 7, 7, 7, 7, 7, 7, 7, 7, 7, 7, 7, 7, 7, 7, 7, 7, 7, 7, 7, 7, 7, 7, 7, 7, 7, 7, 7, 7, 7, 7, 7, 7, 7, 7, 7, 7, 7, 7, 7, 7, 8, 8, 8, 8, 8, 8, 8, 8, 8, 8, 8, 8, 8, 8, 8, 8, 8, 8, 8, 8, 8, 8, 8, 8, 8, 8, 8, 8, 8, 8, 8, 8, 8, 8, 8, 8, 8, 8, 8, 8, 8, 8, 8, 8, 8, 8, 8, 8, 8, 8, 8, 8, 8, 8, 8, 8, 8, 8, 8, 8, 8, 8, 8, 8, 8, 8, 8, 8, 8, 8, 8, 8, 8, 8, 8, 8, 8, 8, 8, 8, 8, 8, 8, 8, 8, 8, 8, 8, 8, 8, 8, 8, 8, 8, 8, 8, 8, 8, 8, 8, 8, 8, 8, 8, 8, 8, 8, 8, 8, 8, 8, 8, 8, 8, 8, 8, 8, 8, 8, 8, 8, 8, 8, 8, 8, 8, 8, 8]⟩
set_option maxRecDepth 100000 in
theorem lenTab_size : lenTab.size = 256 := rfl
set_option maxRecDepth 100000 in
theorem lenTab_all : ∀ n : Fin 256, n.val ≠ 0 → (lenTab.data.getD n.val 0).toNat + lzU (UInt8.ofNat n.val) = 8 := by decide +kernel

set_option maxRecDepth 100000 in
theorem len8_prog (x : UInt8) (w : World) (hx : x ≠ 0) :
    Calls Tryd.prog 59 #[.int .u8 (x.toNat : Int)] w fun e w' => e = .returned (.int .i64 (8 - (lzU x : Int))) ∧ w = w' := by
  have hx2 := x.toNat_lt
  have h1 : (x.toNat : Int) < 256 := by omega
  have h0 : (0 : Int) ≤ (x.toNat : Int) := by omega
  go_enter Tryd.func59, Tryd.ntmps59
  go_wp2
  go_ret
  refine ⟨?_, rfl⟩
  show Ending.returned (.int .i64 (wrap64 ((lenTab[x.toNat]'(by rw [lenTab_size]; exact hx2)).toNat : Int))) = _
  have h2 := lenTab_all ⟨x.toNat, hx2⟩ (fun e => hx (UInt8.toNat_inj.1 (by rw [show x.toNat = 0 from e]; rfl)))
  simp only [UInt8.ofNat_toNat] at h2
  have h3 : lenTab.data.getD x.toNat 0 = lenTab[x.toNat]'(by rw [lenTab_size]; exact hx2) := by
    have h4 : x.toNat < lenTab.data.size := by
      have := lenTab_size
      rw [ByteArray.size] at this; omega
    rw [Array.getD_eq_getD_getElem?, Array.getElem?_eq_getElem h4]; rfl
  rw [h3] at h2
  generalize hv : (lenTab[x.toNat]'(by rw [lenTab_size]; exact hx2)).toNat = v at h2 ⊢
  rw [IntWalk.wrap64_in _ (by omega)]
  congr 2; omega

theorem lz_prog (x : UInt8) (w : World) (hx : x ≠ 0) :
    Calls Tryd.prog 52 #[.int .u8 (x.toNat : Int)] w fun e w' => e = .returned (.int .i64 (lzU x : Int)) ∧ w = w' := by
  have H := Lib.hid (len8_prog x w hx)
  have hl := (lzU_ok x hx).1
  go_enter Tryd.func52, Tryd.ntmps52
  go_wp2_with fail
  refine H.out.mono ?_
  rintro e w1 ⟨rfl, rfl⟩
  go_wp2
  go_ret
  exact ⟨by rw [show (8 : Int) - (8 - (lzU x : Int)) = lzU x by omega]; rfl, rfl⟩

theorem com_prog (a b : ByteArray) (w : World) (ha : a.size = 32) (hb : b.size = 32) :
    Calls Tryd.prog 41 #[.string a, .string b] w fun e w' => e = .returned (.int .i64 (comL (ks a) (ks b) : Nat)) ∧ Same w w' := by
  obtain ⟨C, hC⟩ : ∃ C, C = comL (ks a) (ks b) := ⟨_, rfl⟩
  have HC := Lib.hid hC
  rw [← hC]; clear hC
  go_enter Tryd.func41, Tryd.ntmps41
  go_wp2
  go_loopw [14] (fun i wr => ∃ j : Nat, j ≤ 32 ∧ i = .int .i64 j ∧ Hid (C = 8 * j + comL ((ks a).drop j) ((ks b).drop j)) ∧ Same w wr) (fun i _ => 32 - (intOf i).toNat)
  case atStart => exact ⟨0, by omega, rfl, by simpa using HC, Same.refl _⟩
  case round =>
    obtain ⟨j, hj, rfl, hc, hs⟩ := hrel
    by_cases hlt : j < 32
    · have hja : j < a.size := by omega
      have hjb : j < b.size := by omega
      have hj0 : (0 : Int) ≤ (j : Int) := by omega
      have hj1 : (j : Int) ≤ 31 := by omega
      have hx := bits_xor8 (a[j]'hja) (b[j]'hjb)
      have da : (ks a).drop j = a[j]'hja :: (ks a).drop (j + 1) := List.drop_eq_getElem_cons (by simpa using hja)
      have db : (ks b).drop j = b[j]'hjb :: (ks b).drop (j + 1) := List.drop_eq_getElem_cons (by simpa using hjb)
      have hc2 : Hid (C = 8 * j + (if a[j]'hja = b[j]'hjb then 8 + comL ((ks a).drop (j + 1)) ((ks b).drop (j + 1)) else lzU (a[j]'hja ^^^ b[j]'hjb))) := Lib.hid (by
        have := hc.out
        rw [da, db] at this; exact this)
      clear hc da db
      obtain ⟨X, hX⟩ : ∃ X, X = a[j]'hja ^^^ b[j]'hjb := ⟨_, rfl⟩
      rw [← hX] at hx hc2
      by_cases he : a[j]'hja = b[j]'hjb
      · have hx0 : X = 0 := by rw [hX, he]; simp
        have hx0' : ((X.toNat : Int) == 0) = true := by rw [hx0]; rfl
        have hc3 : Hid (C = 8 * (j + 1) + comL ((ks a).drop (j + 1)) ((ks b).drop (j + 1))) := Lib.hid (by
          rw [hc2.out, if_pos he]; omega)
        clear hX hx0 he hc2
        go_wp2_with fail
        go_quiet (fail)
        go_wp2
        go_roundw
        case rel => exact ⟨j + 1, by omega, by go_num, hc3, hs.trans ⟨_, rfl⟩⟩
        case measure => simp [intOf]; omega
      · have hx0' : ((X.toNat : Int) == 0) = false := by
          have : X.toNat ≠ 0 := fun h => xor_ne _ _ he (by rw [← hX]; exact UInt8.toNat_inj.1 (by rw [h]; rfl))
          simpa using this
        have hz : X ≠ 0 := by rw [hX]; exact xor_ne _ _ he
        have hl := (lzU_ok X hz).1
        obtain ⟨l, hl'⟩ : ∃ l, l = lzU X := ⟨_, rfl⟩
        have hlz : ∀ W, Calls Tryd.prog 52 #[.int .u8 (X.toNat : Int)] W fun e w' => e = .returned (.int .i64 (l : Int)) ∧ W = w' := fun W => by rw [hl']; exact lz_prog X W hz
        have HLZ := Lib.hid hlz
        rw [← hl'] at hl
        have hc3 : Hid (C = 8 * j + l) := Lib.hid (by rw [hc2.out, if_neg he, hl'])
        clear hX he hc2 hlz hl'
        go_wp2_with fail
        go_quiet (fail)
        go_wp2_with fail
        refine (HLZ.out _).mono ?_
        rintro e w1 ⟨rfl, rfl⟩
        go_wp2
        go_ret
        exact ⟨by rw [hc3.out]; simp, hs.trans ⟨_, rfl⟩⟩
    · have hj2 : j = 32 := by omega
      have hc3 : Hid (C = 256) := Lib.hid (by
        rw [hc.out, hj2]
        have e1 : (ks a).drop 32 = [] := List.drop_of_length_le (by simp; omega)
        have e2 : (ks b).drop 32 = [] := List.drop_of_length_le (by simp; omega)
        rw [e1, e2]; rfl)
      subst hj2
      go_wp2
      go_ret
      exact ⟨by rw [hc3.out]; rfl, hs⟩
end Go.Proofs.YtohcackebmmikaaDoor
