/- The reference of part: below, a fork's text. -/
import Derived.Test.YtmpjpaomgifpcaaGreatDoorPOpen
import Derived.Test.YtmpjpaomgifpcaaGreatDoorBRefB
import Derived.Test.YtmpjpaomgifpcaaGreatDoorBTop
import Derived.Test.YtmpjpaomgifpcaaGreatDoorBRefF
import Derived.BigRegion
namespace Go.Proofs.YtmpjpaomgifpcaaGreatDoor
open Go.RowKit

theorem has_com (a k : List UInt8) (n : Nat) (hl : a.length = k.length) (hn : n ≤ 8 * a.length) : hasL a k n = decide (n ≤ comL a k) := by
  rw [Bool.eq_iff_iff, hasL_iff, decide_eq_true_eq]
  constructor
  · intro h; exact comL_ge a k n hl hn h
  · intro h i hi; exact comL_same a k i (by omega)

theorem below_free (u l : ByteArray) (q si : Int) (w : World) :
    Calls Tryz.prog 85 #[.string u, .int .i64 q, .int .i64 (-1), .string l, .int .i64 si] w fun e w' => e = .returned (.bool true) ∧ w = w' := by
  go_enter Tryz.func85, Tryz.ntmps85
  go_wp2
  go_ret
  exact ⟨rfl, rfl⟩
theorem below_prog (u k : ByteArray) (q p : Nat) (s : Bool) (w : World) (hu : u.size = 32) (hk : k.size = 32) (hp : p < 256) (_ : q ≤ 256) :
    Calls Tryz.prog 85 #[.string u, .int .i64 q, .int .i64 p, .string k, .int .i64 (bitN s)] w fun e w' => e = .returned (.bool (standB p k s q u)) ∧ w = w' := by
  have HH := Lib.hid (has_ref u k p w (by omega) hu hk)
  have HB := Lib.hid (bit_ref u p w hp hu)
  rw [has_com (ks u) (ks k) p (by rw [ks_length, ks_length, hu, hk]) (by rw [ks_length]; omega)] at HH
  have hp0 : ¬ (p : Int) < 0 := by omega
  unfold standB
  obtain ⟨C, hC⟩ : ∃ C, C = comL (ks u) (ks k) := ⟨_, rfl⟩
  obtain ⟨b, hb⟩ : ∃ b, b = bitL (ks u) p := ⟨_, rfl⟩
  rw [← hC] at HH ⊢
  rw [← hb] at HB ⊢
  clear hC hb hu hk
  by_cases h1 : p < q
  · have h1I : (p : Int) < (q : Int) := by omega
    rw [decide_eq_true h1, Bool.true_and]
    by_cases h2 : p ≤ C
    · rw [decide_eq_true h2] at HH ⊢
      rw [Bool.true_and]
      clear h1 h2
      cases b <;> cases s <;>
      · unfold bitN at HB ⊢
        go_enter Tryz.func85, Tryz.ntmps85
        go_wp2_with fail
        refine HH.out.mono ?_
        rintro e w1 ⟨rfl, rfl⟩
        go_wp2_with fail
        refine HB.out.mono ?_
        rintro e w1 ⟨rfl, rfl⟩
        go_wp2
        go_ret
        exact ⟨rfl, rfl⟩
    · rw [decide_eq_false h2] at HH ⊢
      rw [Bool.false_and]
      clear h1 h2
      go_enter Tryz.func85, Tryz.ntmps85
      go_wp2_with fail
      refine HH.out.mono ?_
      rintro e w1 ⟨rfl, rfl⟩
      go_wp2
      go_ret
      exact ⟨rfl, rfl⟩
  · have h1I : ¬ (p : Int) < (q : Int) := by omega
    rw [decide_eq_false h1, Bool.false_and]
    clear h1
    go_enter Tryz.func85, Tryz.ntmps85
    go_wp2
    go_ret
    exact ⟨rfl, rfl⟩
/-- The reference's node. -/
def tv (kd : Int) (k v : ByteArray) (p : Int) (s : Value) (h : ByteArray) : Value := .agg #[.int .i64 kd, .string k, .string v, .int .i64 p, s, .string h]
theorem six_cells {w : World} {b : Nat} {x0 x1 x2 x3 x4 x5 : Value} {t : TypeId} (h : w.heap[b]? = some (.cells #[x0, x1, x2, x3, x4, x5] t (0, 0))) :
    w.cell? ⟨b, 0, none⟩ = some x0 ∧ w.cell? ⟨b, 1, none⟩ = some x1 ∧ w.cell? ⟨b, 2, none⟩ = some x2 ∧ w.cell? ⟨b, 3, none⟩ = some x3 ∧ w.cell? ⟨b, 4, none⟩ = some x4 ∧ w.cell? ⟨b, 5, none⟩ = some x5 := by
  simp [World.cell?, h]

set_option maxRecDepth 30000 in
set_option maxHeartbeats 2000000 in
theorem text_prog (kd : Int) (k v zh oh h : ByteArray) (p : Nat) (g c : Nat) (w : World) (hp : p < 256) (hk : k.size = 32) (hz : zh.size = 32) (ho : oh.size = 32)
    (c5 : w.cell? ⟨g, 5, none⟩ = some (.string zh)) (c11 : w.cell? ⟨g, 11, none⟩ = some (.string oh)) :
    Calls Tryz.prog 57 #[tv kd k v p (.slice (some ⟨g, 0, none⟩) 2 c) h] w (StrRes w (bs (forkT p k zh oh))) := by
  unfold tv
  obtain ⟨W, hW⟩ : ∃ W, W = w.alloc (.cells #[.int .i64 kd, .string k, .string v, .int .i64 p, .slice (some ⟨g, 0, none⟩) 2 c, .string h] 54) := ⟨_, rfl⟩
  have hbW : Below w.heap.size w W := by rw [hW]; exact (Below.refl _ _).alloc (Nat.le_refl _) _
  obtain ⟨x0, x1, x2, x3, x4, x5⟩ := six_cells (w := W) (b := w.heap.size) (by rw [hW]; exact heap_alloc_new _ _)
  have d5 := cellB hbW c5
  have d11 := cellB hbW c11
  have HW := Lib.hid hW
  have HB := Lib.hid hbW
  obtain ⟨D, hD⟩ : ∃ D, D = (⟨[UInt8.ofNat 0, UInt8.ofNat p].toArray⟩ : ByteArray) := ⟨_, rfl⟩
  have hDs : D.size = 2 := by rw [hD]; rfl
  have HTX := Lib.hid (show (⟨#[1]⟩ : ByteArray) ++ D ++ k ++ zh ++ oh = bs (forkT p k zh oh) by rw [hD]; exact fork_five p k _ _ hp)
  have hconv : ∀ (W : World) (gx : Nat), W.heap[gx]? = some (.cells #[.int .u8 0, .int .u8 (p : Int)] 5 (0, 0)) → (convert 99 9 (.slice (some ⟨gx, 0, none⟩) 2 2)).run Tryz.prog W = .ok (.string D) W := fun W gx h => by
    rw [hD]
    refine run_string_block (P := Tryz.prog) (w := W) Tryz.underlying99 Tryz.underlying5 Tryz.underlying9 gx 2 [UInt8.ofNat 0, UInt8.ofNat p] ?_
    rw [h]
    have : p % 256 = p := by omega
    simp [byteV, this]
  have hc1 := hconv ((W.alloc (.cells #[.int .u8 0, .int .u8 (p : Int)] 5)).drew) W.heap.size (heap_alloc_new W _)
  have hc2 := hconv (W.alloc (.cells #[.int .u8 0, .int .u8 (p : Int)] 5)) W.heap.size (heap_alloc_new W _)
  have s1 : ¬ 9223372036854775807 < 1 + D.size := by omega
  have s2 : ¬ 9223372036854775807 < 1 + D.size + k.size := by omega
  have s3 : ¬ 9223372036854775807 < 1 + D.size + k.size + zh.size := by omega
  have s4 : ¬ 9223372036854775807 < 1 + D.size + k.size + zh.size + oh.size := by omega
  have hp0 : (0 : Int) ≤ (p : Int) := by omega
  have t1 : (p : Int) / 256 = 0 := by omega
  have t2 : (p : Int).tmod 256 = (p : Int) := by rw [Int.tmod_eq_emod_of_nonneg hp0]; omega
  have t2b : (p : Int).tdiv 256 = 0 := by rw [Int.tdiv_eq_ediv_of_nonneg hp0]; omega
  have t3 : IntKind.u8.wrap (p : Int) = (p : Int) := by rw [IntKind.wrap_u8]; omega
  have t4 : IntKind.i64.wrap (p : Int) = (p : Int) := IntWalk.i64_in _ (by omega)
  have u1 : IntKind.i64.wrap 0 = 0 := by decide
  have u2 : IntKind.u8.wrap 0 = 0 := by decide
  have hsz := hbW.size
  clear hD hDs hp hk hz ho c5 c11 hbW hW
  go_enter Tryz.func57, Tryz.ntmps57
  go_wp2_with fail
  rw [← HW.out]
  clear hsz
  have y0 := cellA (.cells #[.int .u8 0, .int .u8 (p : Int)] 5) x1
  have y1 := cellA (.cells #[.int .u8 0, .int .u8 (p : Int)] 5) x3
  have y2 := cellA (.cells #[.int .u8 0, .int .u8 (p : Int)] 5) x4
  have y3 := cellA (.cells #[.int .u8 0, .int .u8 (p : Int)] 5) d5
  have y4 := cellA (.cells #[.int .u8 0, .int .u8 (p : Int)] 5) d11
  go_region
  · rw [HTX.out]
    go_wp2
    go_ret
    exact ⟨rfl, (HB.out.alloc HB.out.size _).drew⟩
end Go.Proofs.YtmpjpaomgifpcaaGreatDoor
