/- AesApart: what stands at one place of a text plays no part for any other one. -/
import Derived.Test.YtohjnhekkifhbabAesLawA
namespace Go.Proofs.Ytohjnhekkifhbab
open Go.RowKit

theorem blk_get (s : ByteArray) (k : Nat) (h : k < s.size) : s[k] = blk s k := by
  have h2 : k < s.data.size := h
  unfold blk
  rw [Array.getElem?_eq_getElem h2]; rfl
theorem blk_cut (s : ByteArray) (m k : Nat) (h : k < m) (hm : m ≤ s.size) : blk (s.extract 0 m) k = blk s k := by
  have h2 : k < s.data.size := by have : s.data.size = s.size := rfl; omega
  have h3 : m ≤ s.data.size := hm
  unfold blk
  rw [ByteArray.data_extract, Array.getElem?_extract, if_pos (by omega), Nat.zero_add]
theorem apart_at (k n a b : ByteArray) (m i : Nat) (h : i < m) (ha : m ≤ a.size) (hb : m ≤ b.size) :
    blk (strT k n (a.extract 0 m)) i ^^^ blk (strT k n (b.extract 0 m)) i = blk a i ^^^ blk b i := by
  unfold strT
  rw [blk_outS _ _ _ _ (by simp; omega), blk_outS _ _ _ _ (by simp; omega)]
  unfold outB
  rw [blk_cut a m i h ha, blk_cut b m i h hb]
  generalize strB _ _ i = z
  have l : blk a i ^^^ z ^^^ (blk b i ^^^ z) = blk a i ^^^ blk b i ^^^ (z ^^^ z) := by ac_rfl
  rw [l, UInt8.xor_self, UInt8.xor_zero]

set_option maxRecDepth 100000 in
set_option maxHeartbeats 4000000 in
theorem apart_law (N : Nat → UInt8) (a b : ByteArray) (w : World) (hma : a.size ≤ maxLen) (hmb : b.size ≤ maxLen) :
    Calls Try.prog 6 #[.agg (arrL 16 (fun j => byteV (N j))).toArray, .string a, .string b] w fun e w' => e = .returned (.bool true) ∧ Below w.heap.size w w' := by
  unfold maxLen at hma hmb
  have hb0 : Below w.heap.size w (w.alloc (.cells (arrL 16 fun j => byteV (N j)).toArray 35)) := (Below.refl _ _).alloc (Nat.le_refl _) _
  have r0 : (w.alloc (.cells (arrL 16 fun j => byteV (N j)).toArray 35)).rowIs w.heap.size 35 16 (fun j => byteV (N j)) := rowIs_of_block (heap_at_alloc w _)
  go_enter Try.func6, Try.ntmps6
  obtain ⟨w0, hw0⟩ : ∃ w0, w.alloc (.cells (arrL 16 fun j => byteV (N j)).toArray 35) = w0 := ⟨_, rfl⟩
  rw [hw0] at hb0 r0
  by_cases hbig : 300 < a.size
  · go_wp2_with fail
    refine (awake_prog w0).mono ?_
    rintro e w1 ⟨rfl, hb1⟩
    clear hw0
    go_wp2
    go_ret
    exact ⟨rfl, belowNext hb0 hb1⟩
  · by_cases hbig2 : 300 < b.size
    · go_wp2_with fail
      refine (awake_prog w0).mono ?_
      rintro e w1 ⟨rfl, hb1⟩
      clear hw0
      go_wp2
      go_ret
      exact ⟨rfl, belowNext hb0 hb1⟩
    · by_cases hab : a.size ≤ b.size
      ·
        obtain ⟨X, hX⟩ : ∃ X, strT kb (txt N) a = X := ⟨_, rfl⟩
        obtain ⟨Y, hY⟩ : ∃ Y, strT kb (txt N) (b.extract 0 a.size) = Y := ⟨_, rfl⟩
        have hXs : X.size = a.size := by rw [← hX, strT_size]; first | done | (simp <;> omega)
        have hYs : Y.size = a.size := by rw [← hY, strT_size]; first | done | (simp <;> omega)
        have HP : Hid (∀ k, k < a.size → blk X k ^^^ blk Y k = blk a k ^^^ blk b k) := Lib.hid (fun k h => by
          have hq := apart_at kb (txt N) a b a.size k h (by omega) (by omega)
          rw [show a.extract 0 a.size = a by simp] at hq
          rw [← hX, ← hY]
          exact hq)
        have HX := Lib.hid hX
        have HY := Lib.hid hY
        have x1 : ((X.size : Int) != (a.size : Int)) = false := by rw [hXs]; simp
        have y1 : ((Y.size : Int) != (a.size : Int)) = false := by rw [hYs]; simp
        have x2 : X.size ≤ a.size := by omega
        have x3 : a.size ≤ X.size := by omega
        have y2 : Y.size ≤ a.size := by omega
        have y3 : a.size ≤ Y.size := by omega
        have m0 : (0 : Int) ≤ (a.size : Int) := by omega
        have ma : (a.size : Int) ≤ (a.size : Int) := by omega
        have mb : (a.size : Int) ≤ (b.size : Int) := by omega
        clear hX hY hXs hYs
        go_wp2_with fail
        refine (awake_prog w0).mono ?_
        rintro e w1 ⟨rfl, hb1⟩
        clear hw0
        replace r0 := rowIs_later r0 hb1
        have hq1 := hb0.trans (hb1.mono hb0.size)
        clear hb0 hb1
        go_upto_region 6 with fail
        go_cut [8, 9] (fun s8 s9 wx => s8 = .string X ∧ s9 = .int .i64 0 ∧ Below w1.heap.size w1 wx)
        case first =>
          have v0 := row_text r0.drew
          go_region_with ((go_at_call 16; refine (streamAt kb (txt N) a X _ rfl (txt_size _) (by first | omega | (simp <;> omega)) HX.out).mono ?_; rintro e w2 ⟨rfl, hb2⟩))
          all_goals
            go_wp2_with fail
            go_meet
            exact ⟨rfl, rfl, ((Below.refl _ _).drew).trans hb2⟩
        case rest =>
          obtain ⟨rfl, rfl, hb2⟩ := hcut
          replace r0 := rowIs_later r0 hb2
          have hq2 := belowNext hq1 hb2
          clear hq1 hb2
          obtain ⟨wq, hwq⟩ : ∃ x : World, x = wc := ⟨_, rfl⟩
          subst hwq
          go_upto_region 7 with fail
          go_cut [10, 11] (fun s8 s9 wx => s8 = .string Y ∧ s9 = .int .i64 0 ∧ Below wq.heap.size wq wx)
          case first =>
            have v0 := row_text r0.drew
            go_region_with ((go_at_call 16; refine (streamAt kb (txt N) (b.extract 0 a.size) Y _ rfl (txt_size _) (by first | omega | (simp <;> omega)) HY.out).mono ?_; rintro e w2 ⟨rfl, hb2⟩))
            all_goals
              go_wp2_with fail
              go_meet
              exact ⟨rfl, rfl, ((Below.refl _ _).drew).trans hb2⟩
          case rest =>
            obtain ⟨rfl, rfl, hb2⟩ := hcut
            have hq3 := belowNext hq2 hb2
            clear hq2 hb2 r0
            go_wp2_with fail
            go_loopw [65] (fun iv wr => ∃ k : Nat, k ≤ a.size ∧ iv = .int .i64 k ∧ Below w.heap.size w wr) (fun iv _ => a.size - (intOf iv).toNat)
            case atStart => exact ⟨0, by omega, rfl, hq3⟩
            case round =>
              clear hq3
              obtain ⟨k, hk, rfl, hb⟩ := hrel
              by_cases hlt : k < a.size
              · have hp := HP.out k hlt
                have k0 : (0 : Int) ≤ (k : Int) := by omega
                have kX : (k : Int) < (X.size : Int) := by omega
                have kY : (k : Int) < (Y.size : Int) := by omega
                have ka : (k : Int) < (a.size : Int) := by omega
                have kb1 : (k : Int) < (b.size : Int) := by omega
                have nX : k < X.size := by omega
                have nY : k < Y.size := by omega
                have na : k < a.size := by omega
                have nb : k < b.size := by omega
                obtain ⟨p, hpp, e1⟩ := xname X[k] Y[k]
                obtain ⟨p', hpp', e2⟩ := xname a[k] b[k]
                have hpe : p = p' := by rw [← hpp, ← hpp', blk_get X k nX, blk_get Y k nY, blk_get a k na, blk_get b k nb, hp]
                subst hpe
                clear hp hpp hpp'
                go_wp2_with fail
                go_quiet (fail)
                go_wp2_with fail
                go_roundw
                case rel => exact ⟨k + 1, by omega, by go_num, hb.trans ((Same.of _ _).below _)⟩
                case measure => simp [intOf]; omega
              · have hge : (a.size : Int) ≤ (k : Int) := by omega
                clear hlt
                go_wp2_with fail
                go_ret
                exact ⟨rfl, hb⟩
      ·
        obtain ⟨X, hX⟩ : ∃ X, strT kb (txt N) (a.extract 0 b.size) = X := ⟨_, rfl⟩
        obtain ⟨Y, hY⟩ : ∃ Y, strT kb (txt N) b = Y := ⟨_, rfl⟩
        have hXs : X.size = b.size := by rw [← hX, strT_size]; first | done | (simp <;> omega)
        have hYs : Y.size = b.size := by rw [← hY, strT_size]; first | done | (simp <;> omega)
        have HP : Hid (∀ k, k < b.size → blk X k ^^^ blk Y k = blk a k ^^^ blk b k) := Lib.hid (fun k h => by
          have hq := apart_at kb (txt N) a b b.size k h (by omega) (by omega)
          rw [show b.extract 0 b.size = b by simp] at hq
          rw [← hX, ← hY]
          exact hq)
        have HX := Lib.hid hX
        have HY := Lib.hid hY
        have x1 : ((X.size : Int) != (b.size : Int)) = false := by rw [hXs]; simp
        have y1 : ((Y.size : Int) != (b.size : Int)) = false := by rw [hYs]; simp
        have x2 : X.size ≤ b.size := by omega
        have x3 : b.size ≤ X.size := by omega
        have y2 : Y.size ≤ b.size := by omega
        have y3 : b.size ≤ Y.size := by omega
        have m0 : (0 : Int) ≤ (b.size : Int) := by omega
        have ma : (b.size : Int) ≤ (a.size : Int) := by omega
        have mb : (b.size : Int) ≤ (b.size : Int) := by omega
        clear hX hY hXs hYs
        go_wp2_with fail
        refine (awake_prog w0).mono ?_
        rintro e w1 ⟨rfl, hb1⟩
        clear hw0
        replace r0 := rowIs_later r0 hb1
        have hq1 := hb0.trans (hb1.mono hb0.size)
        clear hb0 hb1
        go_upto_region 6 with fail
        go_cut [8, 9] (fun s8 s9 wx => s8 = .string X ∧ s9 = .int .i64 0 ∧ Below w1.heap.size w1 wx)
        case first =>
          have v0 := row_text r0.drew
          go_region_with ((go_at_call 16; refine (streamAt kb (txt N) (a.extract 0 b.size) X _ rfl (txt_size _) (by first | omega | (simp <;> omega)) HX.out).mono ?_; rintro e w2 ⟨rfl, hb2⟩))
          all_goals
            go_wp2_with fail
            go_meet
            exact ⟨rfl, rfl, ((Below.refl _ _).drew).trans hb2⟩
        case rest =>
          obtain ⟨rfl, rfl, hb2⟩ := hcut
          replace r0 := rowIs_later r0 hb2
          have hq2 := belowNext hq1 hb2
          clear hq1 hb2
          obtain ⟨wq, hwq⟩ : ∃ x : World, x = wc := ⟨_, rfl⟩
          subst hwq
          go_upto_region 7 with fail
          go_cut [10, 11] (fun s8 s9 wx => s8 = .string Y ∧ s9 = .int .i64 0 ∧ Below wq.heap.size wq wx)
          case first =>
            have v0 := row_text r0.drew
            go_region_with ((go_at_call 16; refine (streamAt kb (txt N) b Y _ rfl (txt_size _) (by first | omega | (simp <;> omega)) HY.out).mono ?_; rintro e w2 ⟨rfl, hb2⟩))
            all_goals
              go_wp2_with fail
              go_meet
              exact ⟨rfl, rfl, ((Below.refl _ _).drew).trans hb2⟩
          case rest =>
            obtain ⟨rfl, rfl, hb2⟩ := hcut
            have hq3 := belowNext hq2 hb2
            clear hq2 hb2 r0
            go_wp2_with fail
            go_loopw [65] (fun iv wr => ∃ k : Nat, k ≤ b.size ∧ iv = .int .i64 k ∧ Below w.heap.size w wr) (fun iv _ => b.size - (intOf iv).toNat)
            case atStart => exact ⟨0, by omega, rfl, hq3⟩
            case round =>
              clear hq3
              obtain ⟨k, hk, rfl, hb⟩ := hrel
              by_cases hlt : k < b.size
              · have hp := HP.out k hlt
                have k0 : (0 : Int) ≤ (k : Int) := by omega
                have kX : (k : Int) < (X.size : Int) := by omega
                have kY : (k : Int) < (Y.size : Int) := by omega
                have ka : (k : Int) < (a.size : Int) := by omega
                have kb1 : (k : Int) < (b.size : Int) := by omega
                have nX : k < X.size := by omega
                have nY : k < Y.size := by omega
                have na : k < a.size := by omega
                have nb : k < b.size := by omega
                obtain ⟨p, hpp, e1⟩ := xname X[k] Y[k]
                obtain ⟨p', hpp', e2⟩ := xname a[k] b[k]
                have hpe : p = p' := by rw [← hpp, ← hpp', blk_get X k nX, blk_get Y k nY, blk_get a k na, blk_get b k nb, hp]
                subst hpe
                clear hp hpp hpp'
                go_wp2_with fail
                go_quiet (fail)
                go_wp2_with fail
                go_roundw
                case rel => exact ⟨k + 1, by omega, by go_num, hb.trans ((Same.of _ _).below _)⟩
                case measure => simp [intOf]; omega
              · have hge : (b.size : Int) ≤ (k : Int) := by omega
                clear hlt
                go_wp2_with fail
                go_ret
                exact ⟨rfl, hb⟩
end Go.Proofs.Ytohjnhekkifhbab
