/- The document's inverse and box, walked. -/
import Derived.Test.YtohjnhekkifhbabAesRefA
import Derived.Test.YtohjnhekkifhbabAesBox0
namespace Go.Proofs.Ytohjnhekkifhbab
open Go.RowKit

theorem times_at (a b : UInt8) (x y : Int) (r : UInt8) (w : World) (hx : x = (a.toNat : Int)) (hy : y = (b.toNat : Int)) (hr : tm a b = r) :
    Calls Try.prog 27 #[.int .u8 x, .int .u8 y] w fun e w' => e = .returned (.int .u8 (r.toNat : Int)) ∧ w = w' := by subst hx hy hr; exact times_ref a b w

theorem ivG_step (b : UInt8) (c : Nat) (h : c < 256) : ivG b (256 - c) c = if tm b (UInt8.ofNat c) = 1 then c else ivG b (256 - (c + 1)) (c + 1) := by
  obtain ⟨f, hf⟩ : ∃ f, 256 - c = f + 1 := ⟨255 - c, by omega⟩
  rw [hf, show 256 - (c + 1) = f by omega]; rfl

set_option maxRecDepth 100000 in
set_option maxHeartbeats 2000000 in
theorem inverse_ref (b : UInt8) (w : World) :
    Calls Try.prog 19 #[.int .u8 (b.toNat : Int)] w fun e w' => e = .returned (byteV (ivR b)) ∧ w = w' := by
  go_enter Try.func19, Try.ntmps19
  go_wp2
  go_loop [3] (fun i => ∃ c : Nat, 1 ≤ c ∧ c ≤ 256 ∧ i = .int .i64 c ∧ Hid (ivG b 255 1 = ivG b (256 - c) c)) (fun i => 256 - (intOf i).toNat)
  case atStart => exact ⟨1, by omega, by omega, rfl, Lib.hid rfl⟩
  case round =>
    obtain ⟨c, hc1, hc2, rfl, HC⟩ := hrel
    by_cases hlt : c < 256
    · have hst := ivG_step b c hlt
      have HST := Lib.hid hst
      have hcv : (c : Int) % 256 = ((UInt8.ofNat c).toNat : Int) := by simp
      have hcc : (c : Int) = ((UInt8.ofNat c).toNat : Int) := by simp; omega
      obtain ⟨r, hr⟩ : ∃ r, tm b (UInt8.ofNat c) = r := ⟨_, rfl⟩
      have HR := Lib.hid hr
      have HCC := Lib.hid hcc
      clear hst hcv hr hcc
      by_cases h1 : r = 1
      · have ht : ((r.toNat : Int) == 1) = true := by rw [h1]; rfl
        have H1 := Lib.hid h1
        clear h1
        go_wp2_with fail
        refine (times_at b (UInt8.ofNat c) _ _ r w rfl (by first | exact HCC.out | (rw [← HCC.out])) HR.out).mono ?_
        rintro e w' ⟨rfl, rfl⟩
        go_wp2_with fail
        go_ret
        refine ⟨?_, rfl⟩
        have e : ivR b = UInt8.ofNat c := by
          unfold ivR; rw [HC.out, HST.out, if_pos (by rw [HR.out, H1.out])]
        rw [e]
        unfold byteV
        rw [← HCC.out]; rfl
      · have ht : ((r.toNat : Int) == 1) = false := by
          have : r.toNat ≠ 1 := fun e => h1 (UInt8.toNat_inj.1 e)
          have : (r.toNat : Int) ≠ 1 := by omega
          simpa using this
        have H1 := Lib.hid h1
        clear h1
        go_wp2_with fail
        refine (times_at b (UInt8.ofNat c) _ _ r w rfl (by first | exact HCC.out | (rw [← HCC.out])) HR.out).mono ?_
        rintro e w' ⟨rfl, rfl⟩
        go_wp2_with fail
        go_round
        case rel => exact ⟨c + 1, by omega, by omega, by go_num, Lib.hid (by rw [HC.out, HST.out, if_neg (by rw [HR.out]; exact H1.out)])⟩
        case measure => simp [intOf]; omega
    · have hge : (256 : Int) ≤ (c : Int) := by omega
      have e : Hid (ivR b = 0) := Lib.hid (by unfold ivR; rw [HC.out, show 256 - c = 0 by omega]; rfl)
      clear hlt HC
      go_wp2_with fail
      go_ret
      exact ⟨by rw [e.out]; rfl, rfl⟩

def kk (j : Nat) : Nat := [0, 4, 5, 6, 7].getD j 0
theorem kk_lt (j : Nat) : kk j < 8 := by
  by_cases h : j < 5
  · have : ∀ j, j < 5 → kk j < 8 := by decide
    exact this j h
  · unfold kk; simp; rw [List.getElem?_eq_none (by simp; omega)]; simp
def bitP (c i : Nat) : Nat → Nat
  | 0 => bt 99 i
  | j + 1 => bitP c i j ^^^ bt c ((i + kk j) % 8)
theorem or_u8 (a b : Nat) (ha : a < 256) (hb : b < 256) : bits BinOp.or IntKind.u8 (a : Int) (b : Int) = ((a ||| b : Nat) : Int) := by
  unfold bits
  have e : ∀ n : Nat, n < 256 → (BitVec.ofInt IntKind.u8.bits (n : Int)).toNat = n := by
    intro n hn; show (BitVec.ofInt 8 (n : Int)).toNat = n
    rw [BitVec.ofInt_natCast, BitVec.toNat_ofNat]; omega
  have h : (BitVec.ofInt IntKind.u8.bits (a : Int) ||| BitVec.ofInt IntKind.u8.bits (b : Int)).toNat = a ||| b := by
    rw [BitVec.toNat_or, e _ ha, e _ hb]
  have h2 : a ||| b < 2 ^ 8 := Nat.or_lt_two_pow (by omega) (by omega)
  simp only [h, IntKind.wrap_u8]
  omega

set_option maxRecDepth 100000 in
set_option maxHeartbeats 4000000 in
theorem box_ref (b : UInt8) (w : World) :
    Calls Try.prog 12 #[.int .u8 (b.toNat : Int)] w fun e w' => e = .returned (byteV (sb b)) ∧ Below w.heap.size w w' := by
  rw [← boxR_sb]
  obtain ⟨c, hc⟩ : ∃ c, (ivR b).toNat = c := ⟨_, rfl⟩
  have hc2 : c < 256 := by rw [← hc]; exact (ivR b).toNat_lt
  have hinv : ∀ W, Calls Try.prog 19 #[.int .u8 (b.toNat : Int)] W fun e w' => e = .returned (.int .u8 (c : Int)) ∧ W = w' := fun W => by rw [← hc]; exact inverse_ref b W
  have HI := Lib.hid hinv
  have HC := Lib.hid hc
  clear hinv hc
  go_enter Try.func12, Try.ntmps12
  go_wp2_with fail
  refine (HI.out w).mono ?_
  rintro e w' ⟨rfl, rfl⟩
  go_wp2_with fail
  go_loopw [4, 5] (fun ov iv wr => ∃ (i o : Nat), i ≤ 8 ∧ iv = .int .i64 i ∧ ov = .int .u8 o ∧ o < 256 ∧ Hid (o = oR c i) ∧ Below w.heap.size w wr) (fun _ iv _ => 8 - (intOf iv).toNat)
  case atStart => exact ⟨0, 0, by omega, rfl, rfl, by omega, Lib.hid rfl, Below.refl _ _⟩
  case round =>
    obtain ⟨i, o, hi, rfl, rfl, ho, HO, hb⟩ := hrel
    by_cases hlt : i < 8
    · have i0 : (0 : Int) ≤ (i : Int) := by omega
      have i8 : (i : Int) < 8 := by omega
      have e99 : bits BinOp.and IntKind.i64 ((99 : Int) / 2 ^ i) 1 = (bt 99 i : Int) := by
        have h1 : 99 / 2 ^ i ≤ 99 := Nat.div_le_self _ _
        have := and1_i64 (99 / 2 ^ i) (by omega)
        simpa [bt] using this
      obtain ⟨y0, hy0⟩ : ∃ y, bt 99 i = y := ⟨_, rfl⟩
      rw [hy0] at e99
      have ly0 : y0 < 2 := by rw [← hy0]; exact bt_lt _ _
      have HY0 := Lib.hid hy0
      clear hy0
      go_wp2_with fail
      clear e99
      obtain ⟨wq, hwq⟩ : ∃ x, x = wr.alloc (.cells #[.int .i64 0, .int .i64 4, .int .i64 5, .int .i64 6, .int .i64 7] 3) := ⟨_, rfl⟩
      have hba : Below w.heap.size w wq := by rw [hwq]; exact hb.alloc hb.size _
      have hcell : Hid (∀ j, j < 5 → wq.cell? ⟨wr.heap.size, j, none⟩ = some (.int .i64 (kk j))) := Lib.hid (fun j hj => by
        have h5 : j = 0 ∨ j = 1 ∨ j = 2 ∨ j = 3 ∨ j = 4 := by omega
        have hb5 := heap_at_alloc wr (.cells #[.int .i64 0, .int .i64 4, .int .i64 5, .int .i64 6, .int .i64 7] 3)
        rw [← hwq] at hb5
        simp only [World.cell?, hb5]
        rcases h5 with rfl | rfl | rfl | rfl | rfl <;> rfl)
      first | rw [← hwq] | skip
      clear hwq
      go_loop [6, 20] (fun yv jv => ∃ (j y : Nat), j ≤ 5 ∧ jv = .int .i64 j ∧ yv = .int .i64 y ∧ y < 2 ∧ Hid (y = bitP c i j)) (fun _ jv => 5 - (intOf jv).toNat)
      case atStart => exact ⟨0, y0, by omega, rfl, rfl, ly0, Lib.hid (by rw [← HY0.out]; rfl)⟩
      case round =>
        obtain ⟨j, y, hj, rfl, rfl, hy, HY⟩ := hrel
        by_cases hlj : j < 5
        · obtain ⟨q, hq⟩ : ∃ q, kk j = q := ⟨_, rfl⟩
          have cj := hcell.out j hlj
          rw [hq] at cj
          have hq8 : q < 8 := by rw [← hq]; exact kk_lt j
          have j0 : (0 : Int) ≤ (j : Int) := by omega
          have j5 : (j : Int) < 5 := by omega
          have n1 : (((i : Int) + (q : Int)) % 8).toNat = (i + q) % 8 := by omega
          have p1 : (0 : Int) ≤ ((i : Int) + (q : Int)) % 8 := by omega
          obtain ⟨v, hv⟩ : ∃ v, bt c ((i + q) % 8) = v := ⟨_, rfl⟩
          have e1 : bits BinOp.and IntKind.u8 ((c : Int) / 2 ^ ((i + q) % 8)) 1 = (v : Int) := by
            have h1 : c / 2 ^ ((i + q) % 8) ≤ c := Nat.div_le_self _ _
            have := and1_u8 (c / 2 ^ ((i + q) % 8)) (by omega)
            rw [← hv]; simpa [bt] using this
          have lv : v < 2 := by rw [← hv]; exact bt_lt _ _
          have x1 := xor_i64 y v (by omega) (by omega)
          obtain ⟨x, hx⟩ : ∃ x, y ^^^ v = x := ⟨_, rfl⟩
          rw [hx] at x1
          have lx : x < 2 := by rw [← hx]; exact xor_bit hy lv
          have HX : Hid (x = bitP c i (j + 1)) := Lib.hid (by
            show x = bitP c i j ^^^ bt c ((i + kk j) % 8)
            rw [hq, hv, ← HY.out, hx])
          clear hq hv hx HY
          go_wp2_with fail
          go_round
          case rel => exact ⟨j + 1, x, by omega, by go_num, rfl, lx, HX⟩
          case measure => simp [intOf]; omega
        · have HY5 : Hid (y = bitR c i) := Lib.hid (by rw [HY.out, show j = 5 by omega]; rfl)
          have hge : (5 : Int) ≤ (j : Int) := by omega
          clear hlj HY hcell
          obtain ⟨z, hz⟩ : ∃ z, y * 2 ^ i % 256 = z := ⟨_, rfl⟩
          have ez : (y : Int) * 2 ^ i % 256 = (z : Int) := by rw [← hz]; simp
          have lz : z < 256 := by rw [← hz]; exact Nat.mod_lt _ (by omega)
          have xo := or_u8 o z ho lz
          obtain ⟨o', ho'⟩ : ∃ o', o ||| z = o' := ⟨_, rfl⟩
          rw [ho'] at xo
          have lo' : o' < 256 := by rw [← ho']; exact Nat.or_lt_two_pow (n := 8) ho lz
          have HO' : Hid (o' = oR c (i + 1)) := Lib.hid (by
            show o' = oR c i ||| (bitR c i * 2 ^ i % 256)
            rw [← HY5.out, hz, ← HO.out, ho'])
          clear hz ho' HO HY5
          go_wp2_with fail
          go_roundw
          case rel => exact ⟨i + 1, o', by omega, by go_num, rfl, lo', HO', hba⟩
          case measure => simp [intOf]; omega
    · have hge : (8 : Int) ≤ (i : Int) := by omega
      have e : Hid (boxR b = UInt8.ofNat o) := Lib.hid (by unfold boxR; rw [HC.out, HO.out, show i = 8 by omega])
      clear HO hlt
      go_wp2_with fail
      go_ret
      refine ⟨?_, hb⟩
      have e2 : byteV (boxR b) = .int .u8 (o : Int) := by
        rw [e.out]; unfold byteV; simp; omega
      rw [e2]; rfl
end Go.Proofs.Ytohjnhekkifhbab
