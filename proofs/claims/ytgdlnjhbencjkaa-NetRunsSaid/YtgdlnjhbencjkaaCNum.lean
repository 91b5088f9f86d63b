/- codec: Len64, withNumber. -/
import Derived.Test.YtgdlnjhbencjkaaCSize
import Derived.BigQuiet
namespace Go.Proofs.Ytgdlnjhbencjkaa
open Go.RowKit

def blen (n : Nat) : Nat := if n = 0 then 0 else blen (n / 2) + 1
termination_by n
theorem blen_zero : blen 0 = 0 := by rw [blen, if_pos rfl]
theorem blen_pos {n : Nat} (h : 0 < n) : blen n = blen (n / 2) + 1 := by rw [blen, if_neg (by omega)]
theorem blen_up : ∀ (k n : Nat), 2 ^ k ≤ n → blen n = k + blen (n / 2 ^ k)
  | 0, n, _ => by simp
  | k + 1, n, h => by
    have h0 : 0 < n := Nat.lt_of_lt_of_le (Nat.pow_pos (by decide)) h
    rw [blen_pos h0, blen_up k (n / 2) (by rw [Nat.pow_succ] at h; omega), Nat.div_div_eq_div_mul, Nat.pow_succ, Nat.mul_comm 2]; omega
theorem blen_one : blen 1 = 1 := by rw [blen_pos (by omega)]; simp [blen_zero]
theorem blen_is (k n : Nat) (h : 2 ^ k ≤ n) (h2 : n < 2 ^ (k + 1)) : blen n = k + 1 := by
  rw [blen_up k n h]
  have : n / 2 ^ k = 1 := by
    apply Nat.div_eq_of_lt_le
    · omega
    · rw [Nat.pow_succ] at h2; omega
  rw [this, blen_one]
def blen8 (n : Nat) : Nat := if n < 1 then 0 else if n < 2 then 1 else if n < 4 then 2 else if n < 8 then 3 else if n < 16 then 4 else if n < 32 then 5 else if n < 64 then 6 else if n < 128 then 7 else 8
theorem blen_small (n : Nat) (h : n < 256) : blen n = blen8 n := by
  unfold blen8
  split
  · have : n = 0 := by omega
    subst this; exact blen_zero
  split
  · exact blen_is 0 n (by omega) (by omega)
  split
  · exact blen_is 1 n (by omega) (by omega)
  split
  · exact blen_is 2 n (by omega) (by omega)
  split
  · exact blen_is 3 n (by omega) (by omega)
  split
  · exact blen_is 4 n (by omega) (by omega)
  split
  · exact blen_is 5 n (by omega) (by omega)
  split
  · exact blen_is 6 n (by omega) (by omega)
  exact blen_is 7 n (by omega) (by omega)
theorem blen8_le (n : Nat) : blen8 n ≤ 8 := by
  unfold blen8
  iterate 8 (split; · omega)
  omega
theorem blen8_pos (n : Nat) (h : 0 < n) : 1 ≤ blen8 n := by
  unfold blen8
  iterate 8 (split; · omega)
  omega
theorem blen_numL (n : Nat) : (blen n + 7) / 8 = (numL n).length := by
  induction n using Nat.strongRecOn with
  | _ n ih =>
    by_cases h0 : n = 0
    · subst h0; rw [blen_zero, numL_zero]; rfl
    · rw [numL_pos (by omega), List.length_append, ← ih _ (by omega)]
      by_cases h : n < 256
      · rw [blen_small n h, show n / 256 = 0 by omega, blen_zero]
        have := blen8_le n; have := blen8_pos n (by omega); simp; omega
      · rw [blen_up 8 n (by omega)]; simp; omega

def tabB : ByteArray := ⟨(([0, 1, 2, 2, 3, 3, 3, 3, 4, 4, 4, 4, 4, 4, 4, 4, 5, 5, 5, 5, 5, 5, 5, 5, 5, 5, 5, 5, 5, 5, 5, 5, 6, 6, 6, 6, 6, 6, 6, 6, 6, 6, 6, 6, 6, 6, 6, 6, 6, 6, 6, 6, 6, 6, 6, 6, 6, 6, 6, 6, 6, 6, 6, 6].append [7, 7, 7, 7, 7, 7, 7, 7, 7, 7, 7, 7, 7, 7, 7, 7, 7, 7, 7, 7, 7, 7, 7, 7, 7, 7, 7, 7, 7, 7, 7, 7, 7, 7, 7, 7, 7, 7, 7, 7, 7, 7, 7, 7, 7, 7, 7, 7, 7, 7, 7, 7, 7, 7, 7, 7, 7, 7, 7, 7, 7, 7, 7, 7]).append ([8, 8, 8, 8, 8, 8, 8, 8, 8, 8, 8, 8, 8, 8, 8, 8, 8, 8, 8, 8, 8, 8, 8, 8, 8, 8, 8, 8, 8, 8, 8, 8, 8, 8, 8, 8, 8, 8, 8, 8, 8, 8, 8, 8, 8, 8, 8, 8, 8, 8, 8, 8, 8, 8, 8, 8, 8, 8, 8, 8, 8, 8, 8, 8].append [8, 8, 8, 8, 8, 8, 8, 8, 8, 8, 8, 8, 8, 8, 8, 8, 8, 8, 8, 8, 8, 8, 8, 8, 8, 8, 8, 8, 8, 8, 8, 8, 8, 8, 8, 8, 8, 8, 8, 8, 8, 8, 8, 8, 8, 8, 8, 8, 8, 8, 8, 8, 8, 8, 8, 8, 8, 8, 8, 8, 8, 8, 8, 8])).toArray⟩
theorem tab_blen : ∀ k, (h : k < tabB.size) → (tabB[k]'h).toNat = blen8 k := by decide +kernel

theorem tab_at (T : ByteArray) (x : Int) (h : x.toNat < T.size) (hT : T = tabB) (hx : x < 256) : (T[x.toNat]'h).toNat = blen x.toNat := by
  subst hT
  rw [tab_blen _ h, blen_small _ (by omega)]
theorem len_ret {T : ByteArray} {x c : Int} {n : Nat} {h : x.toNat < T.size} (hT : T = tabB) (hx : x < 256) (hc : 0 ≤ c ∧ c ≤ 56) (hn : blen n = c.toNat + blen x.toNat) :
    Ending.returned (.int .i64 (wrap64 (c + wrap64 ((T[x.toNat]'h).toNat : Int)))) = .returned (.int .i64 (blen n : Nat)) := by
  rw [tab_at T x h hT hx, hn]
  have h1 := blen8_le x.toNat
  rw [blen_small x.toNat (by omega)]
  rw [IntWalk.wrap64_in (blen8 x.toNat) (by omega), IntWalk.wrap64_in _ (by omega)]
  congr 2; omega
theorem len_ret0 {T : ByteArray} {x : Int} {n : Nat} {h : x.toNat < T.size} (hT : T = tabB) (hx : x < 256) (hn : blen n = blen x.toNat) :
    Ending.returned (.int .i64 (wrap64 (wrap64 ((T[x.toNat]'h).toNat : Int)))) = .returned (.int .i64 (blen n : Nat)) := by
  have := len_ret (c := 0) (n := n) (h := h) hT hx (by omega) (by simpa using hn)
  simpa using this

theorem blen_div (n : Int) (k : Nat) (m : Int) (h0 : 0 ≤ n) (hm : m = 2 ^ k) (h : m ≤ n) : blen n.toNat = k + blen (n / m).toNat := by
  obtain ⟨j, rfl⟩ := Int.eq_ofNat_of_zero_le h0
  have hm' : m = ((2 ^ k : Nat) : Int) := by rw [hm]; simp
  rw [blen_up k _ (by rw [hm'] at h; simpa using Int.ofNat_le.1 h), hm']
  congr 2

set_option maxRecDepth 30000 in
set_option maxHeartbeats 1000000 in
theorem len64_prog (n : Int) (w : World) (h0 : 0 ≤ n) (h1 : n ≤ 18446744073709551615) :
    Calls Try.prog 60 #[.int .u64 n] w fun e w' => e = .returned (.int .i64 (blen n.toNat)) ∧ w = w' := by
  by_cases a : 4294967296 ≤ n
  all_goals
    first
      | (have e1 : Hid (blen n.toNat = 32 + blen (n / 4294967296).toNat) := Lib.hid (blen_div n 32 _ h0 (by decide) a)
         obtain ⟨x, hx⟩ : ∃ x, x = n / 4294967296 := ⟨_, rfl⟩
         have hx0 : 0 ≤ x := by omega
         have hx1 : x ≤ 4294967295 := by omega
         by_cases b : 65536 ≤ n / 4294967296
         · have e2 : Hid (blen (n / 4294967296).toNat = 16 + blen (n / 4294967296 / 65536).toNat) := Lib.hid (blen_div _ 16 _ (by omega) (by decide) b)
           by_cases c : 256 ≤ n / 4294967296 / 65536
           · have e3 : Hid (blen (n / 4294967296 / 65536).toNat = 8 + blen (n / 4294967296 / 65536 / 256).toNat) := Lib.hid (blen_div _ 8 _ (by omega) (by decide) c)
             clear hx hx0 hx1
             go_enter Try.func60, Try.ntmps60
             go_wp2
             go_ret
             exact ⟨len_ret (by kernel_rfl) (by omega) (by omega) (by rw [e1.out, e2.out, e3.out]; omega), rfl⟩
           · clear hx hx0 hx1
             go_enter Try.func60, Try.ntmps60
             go_wp2
             go_ret
             exact ⟨len_ret (by kernel_rfl) (by omega) (by omega) (by rw [e1.out, e2.out]; omega), rfl⟩
         · by_cases c : 256 ≤ n / 4294967296
           · have e3 : Hid (blen (n / 4294967296).toNat = 8 + blen (n / 4294967296 / 256).toNat) := Lib.hid (blen_div _ 8 _ (by omega) (by decide) c)
             clear hx hx0 hx1
             go_enter Try.func60, Try.ntmps60
             go_wp2
             go_ret
             exact ⟨len_ret (by kernel_rfl) (by omega) (by omega) (by rw [e1.out, e3.out]; omega), rfl⟩
           · clear hx hx0 hx1
             go_enter Try.func60, Try.ntmps60
             go_wp2
             go_ret
             exact ⟨len_ret (by kernel_rfl) (by omega) (by omega) (by rw [e1.out]; omega), rfl⟩)
      | (by_cases b : 65536 ≤ n
         · have e2 : Hid (blen n.toNat = 16 + blen (n / 65536).toNat) := Lib.hid (blen_div _ 16 _ (by omega) (by decide) b)
           by_cases c : 256 ≤ n / 65536
           · have e3 : Hid (blen (n / 65536).toNat = 8 + blen (n / 65536 / 256).toNat) := Lib.hid (blen_div _ 8 _ (by omega) (by decide) c)
             go_enter Try.func60, Try.ntmps60
             go_wp2
             go_ret
             exact ⟨len_ret (by kernel_rfl) (by omega) (by omega) (by rw [e2.out, e3.out]; omega), rfl⟩
           · go_enter Try.func60, Try.ntmps60
             go_wp2
             go_ret
             exact ⟨len_ret (by kernel_rfl) (by omega) (by omega) (by rw [e2.out]; omega), rfl⟩
         · by_cases c : 256 ≤ n
           · have e3 : Hid (blen n.toNat = 8 + blen (n / 256).toNat) := Lib.hid (blen_div _ 8 _ (by omega) (by decide) c)
             go_enter Try.func60, Try.ntmps60
             go_wp2
             go_ret
             exact ⟨len_ret (by kernel_rfl) (by omega) (by omega) (by rw [e3.out]; omega), rfl⟩
           · go_enter Try.func60, Try.ntmps60
             go_wp2
             go_ret
             exact ⟨len_ret0 (by kernel_rfl) (by omega) rfl, rfl⟩)

theorem numL_up (n m : Nat) (h : m < (numL n).length) : numL (n / 256 ^ m) = numL (n / 256 ^ (m + 1)) ++ [UInt8.ofNat (n / 256 ^ m % 256)] := by
  have h1 : 0 < n / 256 ^ m := by
    rcases Nat.eq_zero_or_pos (n / 256 ^ m) with h0 | h0
    · rcases Nat.div_eq_zero_iff.1 h0 with h2 | h2
      · have : 0 < 256 ^ m := Nat.pow_pos (by decide)
        omega
      · have := numL_len n m h2
        omega
    · exact h0
  rw [numL_pos h1, Nat.div_div_eq_div_mul, Nat.pow_succ]
theorem numL_done (n : Nat) : numL (n / 256 ^ (numL n).length) = [] := by
  have h : n < 256 ^ (numL n).length := by
    have := valB_lt (numL n)
    rwa [valB_numL] at this
  rw [Nat.div_eq_of_lt h, numL_zero]

theorem byte_at (n : Int) (m : Nat) (h0 : 0 ≤ n) : (Value.int .u8 (n / 2 ^ (8 * m) % 256)) = byteV (UInt8.ofNat (n.toNat / 256 ^ m % 256)) := by
  obtain ⟨j, rfl⟩ := Int.eq_ofNat_of_zero_le h0
  rw [byteV_ofNat _ (by omega)]
  have e : (2 : Int) ^ (8 * m) = ((256 ^ m : Nat) : Int) := by
    rw [Int.pow_mul]; simp
  rw [e]
  simp
def NumRel (B : Nat) (w : World) (v0 : Value) (ys : List UInt8) (n : Int) (L : Nat) (v i : Value) (wr : World) : Prop :=
  ∃ (k : Nat) (j : Int), j = (k : Int) - 1 ∧ i = .int .i64 j ∧ k ≤ L ∧ OwnsB wr B v (ys ++ numL (n.toNat / 256 ^ k)) ∧ Grew w v0 wr v

def LenRes (L : Nat) (w : World) (e : Ending) (w' : World) : Prop := ∃ b : Nat, b ≤ 64 ∧ ((b : Int) + 7) / 8 = (L : Int) ∧ e = .returned (.int .i64 b) ∧ w = w'
theorem blen_le (n : Nat) (h : n < 2 ^ 64) : blen n ≤ 64 := by
  have H : ∀ (k n : Nat), n < 2 ^ k → blen n ≤ k := by
    intro k
    induction k with
    | zero => intro n h; have : n = 0 := by simpa using h
              subst this; rw [blen_zero]; omega
    | succ k ih =>
      intro n h
      by_cases h0 : n = 0
      · subst h0; rw [blen_zero]; omega
      · rw [blen_pos (by omega)]; have := ih (n / 2) (by rw [Nat.pow_succ] at h; omega); omega
  exact H 64 n h
theorem len64_res (n : Int) (w : World) (h0 : 0 ≤ n) (h1 : n < 18446744073709551616) : Calls Try.prog 60 #[.int .u64 n] w (LenRes (numL n.toNat).length w) :=
  (len64_prog n w h0 (by omega)).mono fun e w' ⟨he, hw⟩ => ⟨blen n.toNat, blen_le _ (by have : (2 : Nat) ^ 64 = 18446744073709551616 := by decide
                                                                                        omega), by rw [← blen_numL]; omega, he, hw⟩

set_option maxRecDepth 30000 in
set_option maxHeartbeats 1000000 in
theorem withNumber_prog (xs : List UInt8) (n : Int) (B : Nat) (v : Value) (w : World) (hown : OwnsB w B v xs) (hB : B ≤ w.heap.size) (h0 : 0 ≤ n) (h1 : n < 18446744073709551616) (hx : Room (xs.length + 12)) :
    Calls Try.prog 50 #[v, .int .u64 n] w (SzRes B w v (xs ++ 110 :: (szL (numL n.toNat).length ++ numL n.toNat))) := by
  have hl := numL_len n.toNat 8 (by have : (256 : Nat) ^ 8 = 18446744073709551616 := by decide
                                    omega)
  have HL := len64_res n w h0 h1
  have hdone := numL_done n.toNat
  have hup := fun m => numL_up n.toNat m
  obtain ⟨L, hL⟩ : ∃ L, (numL n.toNat).length = L := ⟨_, rfl⟩
  rw [hL] at hl HL hdone hup ⊢
  have hsz : szL L = [UInt8.ofNat L] := szL_lt (by omega)
  have HL0 := Lib.hid hL
  have HLen := Lib.hid HL
  have HOWN := Lib.hid hown
  have HSZ := Lib.hid hsz
  have HDONE := Lib.hid hdone
  have HUP := Lib.hid hup
  have H1 := Lib.hid h1
  clear HL hown hL hsz hdone hup h1
  go_enter Try.func50, Try.ntmps50
  go_wp2_with fail
  refine HLen.out.mono ?_
  rintro e w1 ⟨b, hb64, hbL, rfl, rfl⟩
  have b0 : 0 ≤ (b : Int) := by omega
  have b1 : (b : Int) ≤ 64 := by omega
  go_wp2_with (at_builtin; refine list_app1 rfl _ _ rfl B _ _ rfl (HOWN.out.alloc _) w.heap.size 1 _ 110 rfl (heap_at_alloc w _) rfl (hx.le (by omega)) (by simp; omega) ?_; intro v2 w2 h110 hb2)
  have hb02 : Grew w v w2 v2 := (Grew.alloc _ _ _).trans hb2
  clear hb2
  refine (withSize_prog (xs ++ [110]) L B v2 w2 h110 (Nat.le_trans hB hb02.size) (by unfold Lim; omega) (hx.le (by rw [HSZ.out]; simp))).mono ?_
  rintro e w3 ⟨v3, rfl, hown3, hb3⟩
  have hb03 := hb02.trans hb3
  have HOWN3 := Lib.hid hown3
  clear hb3 hown3 h110 hb02
  have hLl : (L : Int) ≤ 8 := by omega
  go_wp2_with fail
  go_loopw [0, 6] (NumRel B w v (xs ++ 110 :: szL L) n L) (fun _ i _ => (intOf i + 1).toNat)
  case atStart => exact ⟨L, (L : Int) - 1, rfl, rfl, Nat.le_refl _, by rw [HDONE.out]; simpa using HOWN3.out, hb03⟩
  case round =>
    obtain ⟨k, j, hj, rfl, hk, how, hb⟩ := hrel
    have HJ := Lib.hid hj
    have HOW := Lib.hid how
    have hBr : B ≤ wr.heap.size := Nat.le_trans hB hb.size
    clear hj how
    rcases Nat.eq_zero_or_pos k with hk0 | hk0
    · obtain ⟨i, hi⟩ : ∃ i, i = j := ⟨_, rfl⟩
      have hneg : j < 0 := by have := HJ.out; omega
      clear hi
      go_wp2_with fail
      go_ret
      refine ⟨_, rfl, ?_, hb⟩
      have := HOW.out
      rw [hk0] at this
      simpa using this
    · obtain ⟨m, rfl⟩ : ∃ m, k = m + 1 := ⟨k - 1, by omega⟩
      obtain rfl : j = (m : Int) := by have := HJ.out; omega
      clear HJ
      have hm0 : 0 ≤ (m : Int) := by omega
      have hm8 : (m : Int) ≤ 7 := by omega
      clear hk0
      have hlen : (xs ++ 110 :: szL L ++ numL (n.toNat / 256 ^ (m + 1))).length + 1 ≤ xs.length + 12 := by
        have e1 := congrArg List.length (HUP.out m (by omega))
        have e2 := numL_len (n.toNat / 256 ^ m) (L - m) (by
          rw [Nat.div_lt_iff_lt_mul (Nat.pow_pos (by decide)), ← Nat.pow_add, show L - m + m = L by omega]
          have := valB_lt (numL n.toNat)
          rwa [valB_numL, HL0.out] at this)
        rw [HSZ.out]; simp at e1 e2 ⊢; omega
      have HBY := Lib.hid (byte_at n m h0)
      go_wp2_with (at_builtin; refine list_app1 rfl _ _ rfl B _ _ rfl (HOW.out.alloc _) wr.heap.size 1 _ _ rfl (heap_at_alloc wr _) HBY.out (hx.le hlen) (by simp; omega) ?_; intro v4 w4 hown4 hb4)
      go_roundw
      case rel => exact ⟨m, (m : Int) - 1, rfl, rfl, by omega, by rw [HUP.out m (by omega)]; simpa using hown4, (hb.trans (Grew.alloc _ _ _)).trans hb4⟩
      case measure => rw [intOf_int, intOf_int]; omega
end Go.Proofs.Ytgdlnjhbencjkaa
