import Derived.Test.YtohcackebmmikaaDoorChecked
import Derived.Test.YtohcackebmmikaaDoorLib2
import Derived.Test.YtohcackebmmikaaDoorShaSpec2
namespace Go.Proofs.YtohcackebmmikaaDoor
open Go.RowKit

theorem u32_in (n : Int) (h0 : 0 ≤ n) (h1 : n < 2 ^ 32) : IntKind.u32.wrap n = n := by rw [IntKind.wrap_u32]; omega

theorem turn_e2 (x : Int) (h0 : 0 ≤ x) (h1 : x < 4294967296) : bits BinOp.or IntKind.u32 (x * 1073741824 % 4294967296) (x / 4) = rot x 2 := by
  rw [bits_join .u32 32 (by decide) u32_in 30 _ _ (by omega) (by omega) (by omega) (by omega) (by omega) (by omega)]
  have : rot x 2 = (x / 4 + x * 1073741824 % 4294967296) % 4294967296 := rfl
  omega
theorem turn_p2 (x : Int) (w : World) (hx : inU x) :
    Calls Tryd.prog 71 #[.int .u32 x, .int .i64 2] w fun e w' => e = .returned (.int .u32 (rot x 2)) ∧ w = w' := by
  obtain ⟨x0, x1⟩ := hx
  have HE := Lib.hid (turn_e2 x x0 x1)
  have hb : bits BinOp.and IntKind.u64 (IntKind.u64.wrap (-2)) 31 = 30 := by decide +kernel
  go_enter Tryd.func71, Tryd.ntmps71
  go_wp2
  go_ret
  exact ⟨by rw [← HE.out]; rfl, rfl⟩

theorem turn_e6 (x : Int) (h0 : 0 ≤ x) (h1 : x < 4294967296) : bits BinOp.or IntKind.u32 (x * 67108864 % 4294967296) (x / 64) = rot x 6 := by
  rw [bits_join .u32 32 (by decide) u32_in 26 _ _ (by omega) (by omega) (by omega) (by omega) (by omega) (by omega)]
  have : rot x 6 = (x / 64 + x * 67108864 % 4294967296) % 4294967296 := rfl
  omega
theorem turn_p6 (x : Int) (w : World) (hx : inU x) :
    Calls Tryd.prog 71 #[.int .u32 x, .int .i64 6] w fun e w' => e = .returned (.int .u32 (rot x 6)) ∧ w = w' := by
  obtain ⟨x0, x1⟩ := hx
  have HE := Lib.hid (turn_e6 x x0 x1)
  have hb : bits BinOp.and IntKind.u64 (IntKind.u64.wrap (-6)) 31 = 26 := by decide +kernel
  go_enter Tryd.func71, Tryd.ntmps71
  go_wp2
  go_ret
  exact ⟨by rw [← HE.out]; rfl, rfl⟩

theorem turn_e7 (x : Int) (h0 : 0 ≤ x) (h1 : x < 4294967296) : bits BinOp.or IntKind.u32 (x * 33554432 % 4294967296) (x / 128) = rot x 7 := by
  rw [bits_join .u32 32 (by decide) u32_in 25 _ _ (by omega) (by omega) (by omega) (by omega) (by omega) (by omega)]
  have : rot x 7 = (x / 128 + x * 33554432 % 4294967296) % 4294967296 := rfl
  omega
theorem turn_p7 (x : Int) (w : World) (hx : inU x) :
    Calls Tryd.prog 71 #[.int .u32 x, .int .i64 7] w fun e w' => e = .returned (.int .u32 (rot x 7)) ∧ w = w' := by
  obtain ⟨x0, x1⟩ := hx
  have HE := Lib.hid (turn_e7 x x0 x1)
  have hb : bits BinOp.and IntKind.u64 (IntKind.u64.wrap (-7)) 31 = 25 := by decide +kernel
  go_enter Tryd.func71, Tryd.ntmps71
  go_wp2
  go_ret
  exact ⟨by rw [← HE.out]; rfl, rfl⟩

theorem turn_e11 (x : Int) (h0 : 0 ≤ x) (h1 : x < 4294967296) : bits BinOp.or IntKind.u32 (x * 2097152 % 4294967296) (x / 2048) = rot x 11 := by
  rw [bits_join .u32 32 (by decide) u32_in 21 _ _ (by omega) (by omega) (by omega) (by omega) (by omega) (by omega)]
  have : rot x 11 = (x / 2048 + x * 2097152 % 4294967296) % 4294967296 := rfl
  omega
theorem turn_p11 (x : Int) (w : World) (hx : inU x) :
    Calls Tryd.prog 71 #[.int .u32 x, .int .i64 11] w fun e w' => e = .returned (.int .u32 (rot x 11)) ∧ w = w' := by
  obtain ⟨x0, x1⟩ := hx
  have HE := Lib.hid (turn_e11 x x0 x1)
  have hb : bits BinOp.and IntKind.u64 (IntKind.u64.wrap (-11)) 31 = 21 := by decide +kernel
  go_enter Tryd.func71, Tryd.ntmps71
  go_wp2
  go_ret
  exact ⟨by rw [← HE.out]; rfl, rfl⟩

theorem turn_e13 (x : Int) (h0 : 0 ≤ x) (h1 : x < 4294967296) : bits BinOp.or IntKind.u32 (x * 524288 % 4294967296) (x / 8192) = rot x 13 := by
  rw [bits_join .u32 32 (by decide) u32_in 19 _ _ (by omega) (by omega) (by omega) (by omega) (by omega) (by omega)]
  have : rot x 13 = (x / 8192 + x * 524288 % 4294967296) % 4294967296 := rfl
  omega
theorem turn_p13 (x : Int) (w : World) (hx : inU x) :
    Calls Tryd.prog 71 #[.int .u32 x, .int .i64 13] w fun e w' => e = .returned (.int .u32 (rot x 13)) ∧ w = w' := by
  obtain ⟨x0, x1⟩ := hx
  have HE := Lib.hid (turn_e13 x x0 x1)
  have hb : bits BinOp.and IntKind.u64 (IntKind.u64.wrap (-13)) 31 = 19 := by decide +kernel
  go_enter Tryd.func71, Tryd.ntmps71
  go_wp2
  go_ret
  exact ⟨by rw [← HE.out]; rfl, rfl⟩

theorem turn_e17 (x : Int) (h0 : 0 ≤ x) (h1 : x < 4294967296) : bits BinOp.or IntKind.u32 (x * 32768 % 4294967296) (x / 131072) = rot x 17 := by
  rw [bits_join .u32 32 (by decide) u32_in 15 _ _ (by omega) (by omega) (by omega) (by omega) (by omega) (by omega)]
  have : rot x 17 = (x / 131072 + x * 32768 % 4294967296) % 4294967296 := rfl
  omega
theorem turn_p17 (x : Int) (w : World) (hx : inU x) :
    Calls Tryd.prog 71 #[.int .u32 x, .int .i64 17] w fun e w' => e = .returned (.int .u32 (rot x 17)) ∧ w = w' := by
  obtain ⟨x0, x1⟩ := hx
  have HE := Lib.hid (turn_e17 x x0 x1)
  have hb : bits BinOp.and IntKind.u64 (IntKind.u64.wrap (-17)) 31 = 15 := by decide +kernel
  go_enter Tryd.func71, Tryd.ntmps71
  go_wp2
  go_ret
  exact ⟨by rw [← HE.out]; rfl, rfl⟩

theorem turn_e18 (x : Int) (h0 : 0 ≤ x) (h1 : x < 4294967296) : bits BinOp.or IntKind.u32 (x * 16384 % 4294967296) (x / 262144) = rot x 18 := by
  rw [bits_join .u32 32 (by decide) u32_in 14 _ _ (by omega) (by omega) (by omega) (by omega) (by omega) (by omega)]
  have : rot x 18 = (x / 262144 + x * 16384 % 4294967296) % 4294967296 := rfl
  omega
theorem turn_p18 (x : Int) (w : World) (hx : inU x) :
    Calls Tryd.prog 71 #[.int .u32 x, .int .i64 18] w fun e w' => e = .returned (.int .u32 (rot x 18)) ∧ w = w' := by
  obtain ⟨x0, x1⟩ := hx
  have HE := Lib.hid (turn_e18 x x0 x1)
  have hb : bits BinOp.and IntKind.u64 (IntKind.u64.wrap (-18)) 31 = 14 := by decide +kernel
  go_enter Tryd.func71, Tryd.ntmps71
  go_wp2
  go_ret
  exact ⟨by rw [← HE.out]; rfl, rfl⟩

theorem turn_e19 (x : Int) (h0 : 0 ≤ x) (h1 : x < 4294967296) : bits BinOp.or IntKind.u32 (x * 8192 % 4294967296) (x / 524288) = rot x 19 := by
  rw [bits_join .u32 32 (by decide) u32_in 13 _ _ (by omega) (by omega) (by omega) (by omega) (by omega) (by omega)]
  have : rot x 19 = (x / 524288 + x * 8192 % 4294967296) % 4294967296 := rfl
  omega
theorem turn_p19 (x : Int) (w : World) (hx : inU x) :
    Calls Tryd.prog 71 #[.int .u32 x, .int .i64 19] w fun e w' => e = .returned (.int .u32 (rot x 19)) ∧ w = w' := by
  obtain ⟨x0, x1⟩ := hx
  have HE := Lib.hid (turn_e19 x x0 x1)
  have hb : bits BinOp.and IntKind.u64 (IntKind.u64.wrap (-19)) 31 = 13 := by decide +kernel
  go_enter Tryd.func71, Tryd.ntmps71
  go_wp2
  go_ret
  exact ⟨by rw [← HE.out]; rfl, rfl⟩

theorem turn_e22 (x : Int) (h0 : 0 ≤ x) (h1 : x < 4294967296) : bits BinOp.or IntKind.u32 (x * 1024 % 4294967296) (x / 4194304) = rot x 22 := by
  rw [bits_join .u32 32 (by decide) u32_in 10 _ _ (by omega) (by omega) (by omega) (by omega) (by omega) (by omega)]
  have : rot x 22 = (x / 4194304 + x * 1024 % 4294967296) % 4294967296 := rfl
  omega
theorem turn_p22 (x : Int) (w : World) (hx : inU x) :
    Calls Tryd.prog 71 #[.int .u32 x, .int .i64 22] w fun e w' => e = .returned (.int .u32 (rot x 22)) ∧ w = w' := by
  obtain ⟨x0, x1⟩ := hx
  have HE := Lib.hid (turn_e22 x x0 x1)
  have hb : bits BinOp.and IntKind.u64 (IntKind.u64.wrap (-22)) 31 = 10 := by decide +kernel
  go_enter Tryd.func71, Tryd.ntmps71
  go_wp2
  go_ret
  exact ⟨by rw [← HE.out]; rfl, rfl⟩

theorem turn_e25 (x : Int) (h0 : 0 ≤ x) (h1 : x < 4294967296) : bits BinOp.or IntKind.u32 (x * 128 % 4294967296) (x / 33554432) = rot x 25 := by
  rw [bits_join .u32 32 (by decide) u32_in 7 _ _ (by omega) (by omega) (by omega) (by omega) (by omega) (by omega)]
  have : rot x 25 = (x / 33554432 + x * 128 % 4294967296) % 4294967296 := rfl
  omega
theorem turn_p25 (x : Int) (w : World) (hx : inU x) :
    Calls Tryd.prog 71 #[.int .u32 x, .int .i64 25] w fun e w' => e = .returned (.int .u32 (rot x 25)) ∧ w = w' := by
  obtain ⟨x0, x1⟩ := hx
  have HE := Lib.hid (turn_e25 x x0 x1)
  have hb : bits BinOp.and IntKind.u64 (IntKind.u64.wrap (-25)) 31 = 7 := by decide +kernel
  go_enter Tryd.func71, Tryd.ntmps71
  go_wp2
  go_ret
  exact ⟨by rw [← HE.out]; rfl, rfl⟩

def turns : List Int := [2, 6, 7, 11, 13, 17, 18, 19, 22, 25]
theorem turn_prog (x n : Int) (w : World) (hx : inU x) (hn : n ∈ turns) :
    Calls Tryd.prog 71 #[.int .u32 x, .int .i64 n] w fun e w' => e = .returned (.int .u32 (rot x n)) ∧ w = w' := by
  simp only [turns, List.mem_cons, List.not_mem_nil, or_false] at hn
  rcases hn with rfl | rfl | rfl | rfl | rfl | rfl | rfl | rfl | rfl | rfl
  · exact turn_p2 x w hx
  · exact turn_p6 x w hx
  · exact turn_p7 x w hx
  · exact turn_p11 x w hx
  · exact turn_p13 x w hx
  · exact turn_p17 x w hx
  · exact turn_p18 x w hx
  · exact turn_p19 x w hx
  · exact turn_p22 x w hx
  · exact turn_p25 x w hx

theorem or4 (a b c d : Nat) (ha : a < 256) (hb : b < 256) (hc : c < 256) (hd : d < 256) :
    bits BinOp.or IntKind.u32 (bits BinOp.or IntKind.u32 (bits BinOp.or IntKind.u32 ((a : Int) % 4294967296 * 16777216 % 4294967296) ((b : Int) % 4294967296 * 65536 % 4294967296)) ((c : Int) % 4294967296 * 256 % 4294967296)) ((d : Int) % 4294967296) =
      ((((a * 256 + b) * 256 + c) * 256 + d : Nat) : Int) := by
  have e1 : bits BinOp.or IntKind.u32 ((a : Int) % 4294967296 * 16777216 % 4294967296) ((b : Int) % 4294967296 * 65536 % 4294967296) = (a : Int) * 16777216 + b * 65536 := by
    rw [bits_join .u32 32 (by decide) u32_in 24 _ _ (by omega) (by omega) (by omega) (by omega) (by omega) (by omega)]; omega
  have e2 : bits BinOp.or IntKind.u32 ((a : Int) * 16777216 + b * 65536) ((c : Int) % 4294967296 * 256 % 4294967296) = (a : Int) * 16777216 + b * 65536 + c * 256 := by
    rw [bits_join .u32 32 (by decide) u32_in 16 _ _ (by omega) (by omega) (by omega) (by omega) (by omega) (by omega)]; omega
  rw [e1, e2, bits_join .u32 32 (by decide) u32_in 8 _ _ (by omega) (by omega) (by omega) (by omega) (by omega) (by omega)]
  omega

set_option maxRecDepth 100000 in
set_option maxHeartbeats 4000000 in
theorem schedule_prog (s : ByteArray) (w : World) (hs : s.size = 64) :
    Calls Tryd.prog 70 #[.string s] w fun e w' => e = .returned (.agg (arrL 64 (fun j => u32V (wOf (nums s) j))).toArray) ∧ Below w.heap.size w w' := by
  obtain ⟨W, hW⟩ : ∃ W, W = wOf (nums s) := ⟨_, rfl⟩
  have HW := Lib.hid hW
  have hWu : ∀ j, inU (W j) := by rw [hW]; exact inU_wOf s
  have hs1 : 64 ≤ s.size := by omega
  clear hW hs
  go_enter Tryd.func70, Tryd.ntmps70
  go_wp2_with fail
  go_loopw [9] (fun i wr => ∃ t : Nat, t ≤ 16 ∧ i = .int .i64 t ∧ wr.rowIs w.heap.size 101 64 (fun _ => u32V 0) ∧ wr.rowIs (w.heap.size + 1) 101 64 (fun j => if j < t then u32V (W j) else u32V 0) ∧ Below w.heap.size w wr) (fun i _ => 16 - (intOf i).toNat)
  case atStart =>
    refine ⟨0, by omega, rfl, ⟨Array.replicate 64 (u32V 0), ?_, by simp, fun i hi => by simp [hi]⟩, ⟨Array.replicate 64 (u32V 0), ?_, by simp, fun i hi => by simp [hi]⟩, ?_⟩
    · rw [heap_alloc2_old]; rfl
    · rw [heap_alloc2_new]; rfl
    · exact ((Below.refl _ _).alloc (Nat.le_refl _) _).alloc (by simp) _
  case round =>
    obtain ⟨t, ht, rfl, hr0, hr1, hb⟩ := hrel
    by_cases h16 : t < 16
    · have c1 := hr1.cell (i := t) (by omega)
      have c3 := hr1.frozen t
      simp only [Nat.lt_irrefl, if_false, u32V] at c1
      have k0 : (0 : Int) ≤ (t : Int) := by omega
      have k1 : (t : Int) < 64 := by omega
      have x0 : (0 : Int) ≤ 4 * (t : Int) := by omega
      have x1 : (0 : Int) ≤ 4 * (t : Int) + 1 := by omega
      have x2 : (0 : Int) ≤ 4 * (t : Int) + 2 := by omega
      have x3 : (0 : Int) ≤ 4 * (t : Int) + 3 := by omega
      have y0 : 4 * (t : Int) < (s.size : Int) := by omega
      have y1 : 4 * (t : Int) + 1 < (s.size : Int) := by omega
      have y2 : 4 * (t : Int) + 2 < (s.size : Int) := by omega
      have y3 : 4 * (t : Int) + 3 < (s.size : Int) := by omega
      have z1 : IntKind.i64.wrap (4 * (t : Int) + 1) = 4 * (t : Int) + 1 := IntWalk.i64_in _ (by omega)
      have z2 : IntKind.i64.wrap (4 * (t : Int) + 2) = 4 * (t : Int) + 2 := IntWalk.i64_in _ (by omega)
      have z3 : IntKind.i64.wrap (4 * (t : Int) + 3) = 4 * (t : Int) + 3 := IntWalk.i64_in _ (by omega)
      have q0 : (4 * (t : Int)).toNat = 4 * t := by omega
      have q1 : (4 * (t : Int) + 1).toNat = 4 * t + 1 := by omega
      have q2 : (4 * (t : Int) + 2).toNat = 4 * t + 2 := by omega
      have q3 : (4 * (t : Int) + 3).toNat = 4 * t + 3 := by omega
      go_wp2_with fail
      go_still_tail 27, (by kernel_rfl)
      go_wp2
      go_roundw
      case rel =>
        refine ⟨t + 1, by omega, by go_num, (hr0.setOther (by simp) _).drew, World.rowIs.drew (row_put hr1 _ _ (fun j hj => ?_)), (hb.setCell (by simp) _).drew⟩
        by_cases hjt : j = t
        · subst hjt
          rw [if_pos (by omega), if_pos rfl, HW.out, wOf_old _ _ (by rw [nums_length]; exact h16)]
          rw [or4 _ _ _ _ s[4 * j].toNat_lt s[4 * j + 1].toNat_lt s[4 * j + 2].toNat_lt s[4 * j + 3].toNat_lt]
          simp only [nums, List.getD, List.getElem?_map, List.getElem?_range h16, Option.map_some, Option.getD_some]
          rw [be4_eq s (4 * j) (by omega)]; rfl
        · rw [if_neg hjt]
          by_cases hl : j < t
          · rw [if_pos hl, if_pos (by omega)]
          · rw [if_neg hl, if_neg (by omega)]
      case measure => simp [intOf]; omega
    · have hte : t = 16 := by omega
      have hr2 : wr.rowIs (w.heap.size + 1) 101 64 (fun j => if j < 16 then u32V (W j) else u32V 0) := by rw [← hte]; exact hr1
      have hge : (16 : Int) ≤ (t : Int) := by omega
      clear hr1 hte h16
      go_wp2_with fail
      go_loopw [6] (fun i wr => ∃ t : Nat, 16 ≤ t ∧ t ≤ 64 ∧ i = .int .i64 t ∧ wr.rowIs w.heap.size 101 64 (fun _ => u32V 0) ∧ wr.rowIs (w.heap.size + 1) 101 64 (fun j => if j < t then u32V (W j) else u32V 0) ∧ Below w.heap.size w wr) (fun i _ => 64 - (intOf i).toNat)
      case atStart => exact ⟨16, by omega, by omega, rfl, hr0, hr2, hb⟩
      case round =>
        obtain ⟨t, h16, ht, rfl, hr0, hrow, hb⟩ := hrel
        by_cases h64 : t < 64
        · have c16 := hrow.cell (i := t - 16) (by omega)
          have c15 := hrow.cell (i := t - 15) (by omega)
          have c7 := hrow.cell (i := t - 7) (by omega)
          have c2 := hrow.cell (i := t - 2) (by omega)
          have hst := hrow.cell (i := t) (by omega)
          have hfz := hrow.frozen t
          simp only [if_pos (show t - 16 < t by omega), if_pos (show t - 15 < t by omega), if_pos (show t - 7 < t by omega), if_pos (show t - 2 < t by omega), u32V, Nat.lt_irrefl, if_false] at c16 c15 c7 c2 hst
          have i0 : (0 : Int) ≤ (t : Int) := by omega
          have i1 : (t : Int) < 64 := by omega
          have x0 : IntKind.i64.wrap ((t : Int) - 16) = (t : Int) - 16 := IntWalk.i64_in _ (by omega)
          have x1 : (0 : Int) ≤ (t : Int) - 16 := by omega
          have x2 : (t : Int) - 16 < 64 := by omega
          have x3 : ((t : Int) - 16).toNat = t - 16 := by omega
          have y1 : (16 : Int) ≤ (t : Int) := by omega
          have y2 : (7 : Int) ≤ (t : Int) := by omega
          have y3 : (15 : Int) ≤ (t : Int) := by omega
          have y4 : (2 : Int) ≤ (t : Int) := by omega
          have z0 : IntKind.i64.wrap ((t : Int) - 7) = (t : Int) - 7 := IntWalk.i64_in _ (by omega)
          have z1 : (0 : Int) ≤ (t : Int) - 7 := by omega
          have z2 : (t : Int) - 7 < 64 := by omega
          have z3 : ((t : Int) - 7).toNat = t - 7 := by omega
          have u0 : IntKind.i64.wrap ((t : Int) - 15) = (t : Int) - 15 := IntWalk.i64_in _ (by omega)
          have u1 : (0 : Int) ≤ (t : Int) - 15 := by omega
          have u2 : (t : Int) - 15 < 64 := by omega
          have u3 : ((t : Int) - 15).toNat = t - 15 := by omega
          have v0 : IntKind.i64.wrap ((t : Int) - 2) = (t : Int) - 2 := IntWalk.i64_in _ (by omega)
          have v1 : (0 : Int) ≤ (t : Int) - 2 := by omega
          have v2 : (t : Int) - 2 < 64 := by omega
          have v3 : ((t : Int) - 2).toNat = t - 2 := by omega
          have hu15 := hWu (t - 15)
          have hu2 := hWu (t - 2)
          go_wp2_with fail
          go_quiet (fail)
          go_wp2_with fail
          go_region_held3 (fun w' => w'.cell? ⟨w.heap.size + 1, t - 16, none⟩ = some (.int .u32 (W (t - 16))) ∧ w'.cell? ⟨w.heap.size + 1, t - 7, none⟩ = some (.int .u32 (W (t - 7))))
            (first | exact ⟨c16, c7⟩ | exact ⟨cell_set_ne _ _ _ _ _ _ c16 (by omega), cell_set_ne _ _ _ _ _ _ c7 (by omega)⟩) ((go_at_call 71; refine (turn_prog _ _ _ (by assumption) (by simp [turns])).mono ?_; rintro e w' ⟨rfl, rfl⟩))
          go_wp2
          go_roundw
          case rel =>
            refine ⟨t + 1, by omega, by omega, by go_num, World.rowIs.setOther (rowIs_same hr0 (Same.of _ _)) (by simp) _, row_put (f := fun j => if j < t then u32V (W j) else u32V 0) ?_ _ _ (fun j hj => ?_), (hb.trans ((Same.of wr _).below _)).setCell (by simp) _⟩
            · exact rowIs_same hrow (Same.of _ _)
            · by_cases hjt : j = t
              · subst hjt
                rw [if_pos (by omega), if_pos rfl, HW.out]
                refine (fold_w s j (by omega) h64 _ ?_).symm
                unfold wNext sg0 sg1 xr
                omega
              · rw [if_neg hjt]
                by_cases hl : j < t
                · rw [if_pos hl, if_pos (by omega)]
                · rw [if_neg hl, if_neg (by omega)]
          case measure => simp [intOf]; omega
        · have hte : t = 64 := by omega
          have hrw : wr.rowIs (w.heap.size + 1) 101 64 (fun j => u32V (W j)) := hrow.congr (fun j hj => by simp [hte, hj])
          have hge : (64 : Int) ≤ (t : Int) := by omega
          clear hrow hte h64
          go_wp2_with (first
            | (refine list_load_arr Tryd.underlying101 (by kernel_rfl) rfl _ rfl (w.heap.size + 1) 101 _ rfl hrw ?_)
            | (refine list_store_arr (ty := 101) (n := 64) (by kernel_rfl) rfl _ _ rfl w.heap.size 101 _ _ rfl rfl hr0 (fun _ => rfl) ?_))
          intro w5 hr5 ho5
          go_wp2
          refine ret_arr rfl Tryd.underlying101 (by kernel_rfl) rfl hr5 rfl ⟨by rw [HW.out], ?_⟩
          exact hb.trans (ho5.below (Nat.le_refl _) hb.size)

end Go.Proofs.YtohcackebmmikaaDoor
