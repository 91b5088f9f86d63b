/- The document's product of two numbers, walked. -/
import Derived.Test.YtohjnhekkifhbaaDoorNumA
import Derived.StillTailTactics
namespace Go.Proofs.YtohjnhekkifhbaaDoor
open Go.RowKit

theorem valF_zero_of {f : Nat → Nat} {N m : Nat} (hm : m ≤ N) (h : ∀ k, m ≤ k → k < N → f k = 0) (hv : 0 < valF f N) : 0 < m := by
  rw [valF_drop m N hm h] at hv
  cases m with
  | zero => simp [valF] at hv
  | succ m => omega
theorem prod_step (A : Nat) (B : Nat → Nat) (i j P X : Nat) (h : X = P + A * 10000 ^ i * valF B j) : X + A * B j * 10000 ^ (i + j) = P + A * 10000 ^ i * valF B (j + 1) := by
  show _ = P + A * 10000 ^ i * (valF B j + B j * 10000 ^ j)
  rw [h, Nat.mul_add, Nat.add_assoc, Nat.pow_add]
  congr 2
  rw [Nat.mul_assoc A (10000 ^ i), Nat.mul_assoc A (B j)]
  congr 1
  rw [Nat.mul_left_comm]
theorem prod_row (A : Nat → Nat) (VB i : Nat) : valF A i * VB + A i * 10000 ^ i * VB = valF A (i + 1) * VB := by
  show _ = (valF A i + A i * 10000 ^ i) * VB
  rw [Nat.add_mul]
theorem bound_row {x i lb : Nat} (h : x ≤ i * 10000000000 + lb * 100000000) (hl : lb ≤ 100) : x ≤ (i + 1) * 10000000000 := by omega
theorem bound_keep {x i j : Nat} (h : x ≤ i * 10000000000 + j * 100000000) : x ≤ i * 10000000000 + (j + 1) * 100000000 := Nat.le_trans h (Nat.add_le_add_left (Nat.mul_le_mul_right _ (Nat.le_succ j)) _)
theorem bound_more {x i j r : Nat} (h : x ≤ i * 10000000000 + j * 100000000) (hr : r ≤ 100000000) : x + r ≤ i * 10000000000 + (j + 1) * 100000000 := by omega
theorem bound_all {x i : Nat} (h : x ≤ i * 10000000000) (hl : i ≤ 100) : x ≤ 1000000000000 := by omega
theorem digit_mul {x y : Nat} (hx : x < 10000) (hy : y < 10000) : x * y ≤ 100000000 := by
  have := Nat.mul_le_mul (show x ≤ 10000 by omega) (show y ≤ 10000 by omega)
  omega
theorem getD_dig {l : List Nat} (h : ∀ d ∈ l, d < 10000) (j : Nat) : l.getD j 0 < 10000 := by
  by_cases hj : j < l.length
  · have : l.getD j 0 = l[j] := by simp [List.getD, hj]
    rw [this]; exact h _ (List.getElem_mem _)
  · have : l.getD j 0 = 0 := by simp [List.getD, show l.length ≤ j by omega]
    omega

set_option maxRecDepth 100000 in
set_option maxHeartbeats 4000000 in
theorem times_ref (ga gb ca cb la lb : Nat) (a b : List Nat) (w : World) (ela : a.length = la) (elb : b.length = lb) (ha : Canon a) (hb : Canon b) (hna : Num w ga a) (hnb : Num w gb b) (hla : la ≤ 100) (hlb : lb ≤ 100) (hpa : 0 < val a) (hpb : 0 < val b) :
    Calls Tryd.prog 31 #[.slice (some ⟨ga, 0, none⟩) la ca, .slice (some ⟨gb, 0, none⟩) lb cb] w (NumPost (val a * val b) w) := by
  obtain ⟨A, hA⟩ : ∃ A : Nat → Nat, A = fun k => a.getD k 0 := ⟨_, rfl⟩
  obtain ⟨B, hB⟩ : ∃ B : Nat → Nat, B = fun k => b.getD k 0 := ⟨_, rfl⟩
  have HVA : Hid (valF A la = val a) := Lib.hid (by rw [hA, ← ela]; exact valF_list a)
  have HVB : Hid (valF B lb = val b) := Lib.hid (by rw [hB, ← elb]; exact valF_list b)
  have HPV : Hid (0 < val a * val b) := Lib.hid (Nat.mul_pos hpa hpb)
  have HLT : Hid (val a * val b < 10000 ^ (la + lb)) := Lib.hid (by
    rw [Nat.pow_add, ← ela, ← elb]
    exact Nat.mul_lt_mul'' (val_lt a ha.dig) (val_lt b hb.dig))
  have HDA : Hid (∀ j, A j < 10000) := Lib.hid (fun j => by rw [hA]; exact getD_dig ha.dig j)
  have HDB : Hid (∀ j, B j < 10000) := Lib.hid (fun j => by rw [hB]; exact getD_dig hb.dig j)
  have HCA : Hid (∀ W, Below w.heap.size w W → ∀ j, j < la → W.cell? ⟨ga, j, none⟩ = some (.int .u64 (A j : Int))) := Lib.hid (fun W h j hj => by rw [hA]; exact (hna.later h).cell j (by rw [ela]; exact hj))
  have HCB : Hid (∀ W, Below w.heap.size w W → ∀ j, j < lb → W.cell? ⟨gb, j, none⟩ = some (.int .u64 (B j : Int))) := Lib.hid (fun W h j hj => by rw [hB]; exact (hnb.later h).cell j (by rw [elb]; exact hj))
  clear hA hB hpa hpb ha hb hna hnb ela elb
  obtain ⟨N, hN⟩ : ∃ N, N = la + lb + 1 := ⟨_, rfl⟩
  have wN : IntKind.i64.wrap ((la : Int) + (lb : Int) + 1) = (N : Int) := by
    rw [IntWalk.i64_in _ (by omega)]; omega
  have hN1 : N ≤ la + lb + 1 := by omega
  have hN2 : la + lb + 1 ≤ N := by omega
  clear hN
  obtain ⟨V, hV⟩ : ∃ V, V = val a * val b := ⟨_, rfl⟩
  rw [← hV] at HPV HLT ⊢
  have HV := Lib.hid hV
  clear hV
  go_enter Tryd.func31, Tryd.ntmps31
  go_wp2_with (first
      | (at_make; refine list_makeN Tryd.numSl rfl _ _ rfl N _ _ rfl rfl (by first | rfl | omega) (by first | rfl | omega) (by omega) (by unfold maxLen; omega) rfl ?_))
  intro w1 hrow hb1
  have hz1 := hrow.lt
  go_wp2_with fail
  go_loopw [6] (fun iv wr => ∃ (i : Nat) (F : Nat → Nat), i ≤ la ∧ iv = .int .i64 i ∧ wr.rowIs w.heap.size 43 N (fun k => u64N (F k)) ∧ Hid (valF F N = valF A i * val b) ∧ Hid (∀ k, F k ≤ i * 10000000000) ∧ Below w.heap.size w wr) (fun iv _ => la - (intOf iv).toNat)
  case atStart => exact ⟨0, fun _ => 0, by omega, rfl, hrow.congr (fun _ _ => rfl), Lib.hid (by rw [valF_zero (fun _ => rfl)]; simp [valF]), Lib.hid (fun k => Nat.zero_le _), hb1⟩
  case round =>
    clear hrow hb1 hz1
    obtain ⟨i, F, hi, rfl, hrow, HF, HL, hb⟩ := hrel
    by_cases hil : i < la
    · have di : decide ((i : Int) < (la : Int)) = true := by simp; omega
      go_wp2_with fail
      go_loopw [7] (fun jv wr => ∃ (j : Nat) (F : Nat → Nat), j ≤ lb ∧ jv = .int .i64 j ∧ wr.rowIs w.heap.size 43 N (fun k => u64N (F k)) ∧ Hid (valF F N = valF A i * val b + A i * 10000 ^ i * valF B j) ∧ Hid (∀ k, F k ≤ i * 10000000000 + j * 100000000) ∧ Below w.heap.size w wr) (fun jv _ => lb - (intOf jv).toNat)
      case atStart => exact ⟨0, F, by omega, rfl, hrow, Lib.hid (by rw [HF.out]; simp [valF]), Lib.hid (fun k => Nat.le_trans (HL.out k) (Nat.le_add_right _ _)), hb⟩
      case round =>
        clear hrow hb HF HL
        obtain ⟨j, F, hj, rfl, hrow, HF, HL, hb⟩ := hrel
        by_cases hjl : j < lb
        · have c1 := HCA.out wr hb i hil
          have c2 := HCB.out wr hb j hjl
          have hst := hrow.cell (i := i + j) (by omega)
          have hfz := hrow.frozen (i + j)
          simp only [u64N] at hst
          have hF := HL.out (i + j)
          obtain ⟨p, hp⟩ : ∃ p, A i = p := ⟨_, rfl⟩
          obtain ⟨q, hq⟩ : ∃ q, B j = q := ⟨_, rfl⟩
          obtain ⟨x, hx⟩ : ∃ x, F (i + j) = x := ⟨_, rfl⟩
          have hpl := HDA.out i
          have hql := HDB.out j
          rw [hp] at c1 hpl
          rw [hq] at c2 hql
          rw [hx] at hst hF
          obtain ⟨r, hr⟩ : ∃ r, p * q = r := ⟨_, rfl⟩
          have hrl : r ≤ 100000000 := by rw [← hr]; exact digit_mul hpl hql
          have er : (p : Int) * (q : Int) = (r : Int) := by rw [← hr]; simp
          have HST : Hid (A i * B j = r) := Lib.hid (by rw [hp, hq, hr])
          have HX := Lib.hid hx
          have i0 : (0 : Int) ≤ (i : Int) := by omega
          have i1 : (i : Int) < (la : Int) := by omega
          have j0 : (0 : Int) ≤ (j : Int) := by omega
          have j1 : (j : Int) < (lb : Int) := by omega
          have s2 : IntKind.i64.wrap ((i : Int) + (j : Int)) = (i : Int) + (j : Int) := IntWalk.i64_in _ (by omega)
          have s0 : (0 : Int) ≤ (i : Int) + (j : Int) := by omega
          have s1 : (i : Int) + (j : Int) < (N : Int) := by omega
          have n2 : ((i : Int) + (j : Int)).toNat = i + j := by omega
          clear hp hq hr hx hpl hql
          go_wp2_with fail
          go_still_tail 21, (by kernel_rfl)
          go_wp2
          go_roundw
          case rel =>
            refine ⟨j + 1, fun k => if k = i + j then F (i + j) + r else F k, by omega, by go_num, World.rowIs.drew (row_put hrow _ _ (fun k _ => ?_)), Lib.hid ?_, Lib.hid (fun k => ?_), (hb.setCell (Nat.le_refl _) _).drew⟩
            · by_cases hk : k = i + j
              · simp only [if_pos hk, HX.out, u64N]; push_cast; rfl
              · simp only [if_neg hk]
            · rw [valF_add (f := F) (fun k => rfl) N (by omega), ← HST.out]
              exact prod_step _ _ _ _ _ _ HF.out
            · have h1 := HL.out k
              have h2 := HL.out (i + j)
              by_cases hk : k = i + j
              · simp only [if_pos hk]; exact bound_more h2 hrl
              · simp only [if_neg hk]; exact bound_keep h1
          case measure =>
            clear hF hst hrl er s0 s1 s2 n2 i0 i1 j0 j1 c1 c2 di
            simp [intOf]; omega
        · obtain rfl : j = lb := by omega
          go_wp2_with fail
          go_roundw
          case rel =>
            have hsu : i + 1 ≤ la := Nat.succ_le_of_lt hil
            exact ⟨i + 1, F, hsu, by go_num, hrow, Lib.hid (by rw [HF.out, HVB.out]; exact prod_row _ _ _), Lib.hid (fun k => bound_row (HL.out k) hlb), hb⟩
          case measure => simp [intOf]; omega
    · obtain rfl : i = la := by omega
      have HF0 : Hid (valF F N = V) := Lib.hid (by rw [HF.out, HVA.out, HV.out])
      have HL0 : Hid (∀ k, F k ≤ 1000000000000) := Lib.hid (fun k => bound_all (HL.out k) hla)
      clear HF HL HVA HVB HDA HDB HCA HCB HV
      go_wp2_with fail
      go_loopw [8] (fun iv WX => ∃ (m : Nat) (F : Nat → Nat), 1 ≤ m ∧ m ≤ N ∧ iv = .int .i64 m ∧ WX.rowIs w.heap.size 43 N (fun k => u64N (F k)) ∧ Hid (valF F N = V) ∧ Hid (∀ k, k + 1 < m → F k < 10000) ∧ Hid (∀ k, m ≤ k → F k ≤ 1000000000000) ∧ Hid (∀ k, F k ≤ 2000000000000) ∧ Below w.heap.size w WX) (fun iv _ => N - (intOf iv).toNat)
      case atStart => exact ⟨1, F, by omega, by omega, rfl, hrow, HF0, Lib.hid (fun k hk => by omega), Lib.hid (fun k _ => HL0.out k), Lib.hid (fun k => Nat.le_trans (HL0.out k) (by decide)), hb⟩
      case round =>
        clear hrow hb HF0 HL0
        obtain ⟨m, F, hm1, hmN, rfl, hrow, HF, HD, HL, HM, hb⟩ := hrel
        by_cases hml : m < N
        · have c1 := hrow.cell (i := m) (by omega)
          have c2 := hrow.cell (i := m - 1) (by omega)
          have hfz := hrow.frozen m
          obtain ⟨x, hx⟩ : ∃ x, F m = x := ⟨_, rfl⟩
          obtain ⟨y, hy⟩ : ∃ y, F (m - 1) = y := ⟨_, rfl⟩
          have hxl := HL.out m (Nat.le_refl _)
          have hyl := HM.out (m - 1)
          simp only [u64N, hx] at c1
          simp only [u64N, hy] at c2
          rw [hx] at hxl
          rw [hy] at hyl
          have HX := Lib.hid hx
          have HY := Lib.hid hy
          clear hx hy
          obtain ⟨q, hq⟩ : ∃ q, y / 10000 = q := ⟨_, rfl⟩
          have e0 : (y : Int).tdiv 10000 = (q : Int) := by rw [Int.tdiv_eq_ediv_of_nonneg (by omega)]; omega
          have hql : q ≤ 200000000 := by omega
          obtain ⟨r, hr⟩ : ∃ r, y % 10000 = r := ⟨_, rfl⟩
          have e1 : (y : Int).tmod 10000 = (r : Int) := by rw [Int.tmod_eq_emod_of_nonneg (by omega)]; omega
          have hrl : r < 10000 := by omega
          have HQ := Lib.hid hq
          have HR := Lib.hid hr
          clear hq hr
          have w0 : IntKind.i64.wrap ((m : Int) - 1) = (m : Int) - 1 := IntWalk.i64_in _ (by omega)
          have w1 : IntKind.u64.wrap (q : Int) = (q : Int) := by rw [IntKind.wrap_u64]; omega
          have w2 : IntKind.u64.wrap ((x : Int) + (q : Int)) = (x : Int) + (q : Int) := by rw [IntKind.wrap_u64]; omega
          have w3 : IntKind.u64.wrap (r : Int) = (r : Int) := by rw [IntKind.wrap_u64]; omega
          have a0 : (0 : Int) ≤ (m : Int) := by omega
          have a1 : (m : Int) < (N : Int) := by omega
          have a2 : (0 : Int) ≤ (m : Int) - 1 := by omega
          have a3 : (m : Int) - 1 < (N : Int) := by omega
          have n2 : ((m : Int) - 1).toNat = m - 1 := by omega
          have y1 : (1 : Int) ≤ (m : Int) := by omega
          have y2 : (m : Int) ≤ (N : Int) := by omega
          have y3 : 0 < m := by omega
          have hgl := hrow.lt
          obtain ⟨W2, hW2⟩ : ∃ z : World, z = wr.setCell ⟨w.heap.size, m, none⟩ (.int .u64 ((x : Int) + (q : Int))) := ⟨_, rfl⟩
          have c3 : (wr.setCell ⟨w.heap.size, m, none⟩ (.int .u64 ((x : Int) + (q : Int)))).drew.cell? ⟨w.heap.size, m - 1, none⟩ = some (.int .u64 (y : Int)) := cell_set_ne _ _ _ _ _ _ c2 (by omega)
          have hr2 : W2.rowIs w.heap.size 43 N (fun k => u64N (if k = m then F m + q else F k)) := by
            rw [hW2]
            refine row_put hrow _ _ (fun k _ => ?_)
            by_cases hk : k = m
            · simp only [if_pos hk, HX.out, u64N]; push_cast; rfl
            · simp only [if_neg hk]
          have hfz2 : (wr.setCell ⟨w.heap.size, m, none⟩ (.int .u64 ((x : Int) + (q : Int)))).drew.frozen? ⟨w.heap.size, m - 1, none⟩ = false := by
            have h := hr2.frozen (m - 1)
            rw [hW2] at h
            exact h
          have hb2 : Below w.heap.size w W2 := by rw [hW2]; exact hb.setCell (Nat.le_refl _) _
          have HW := Lib.hid hW2
          clear hW2
          go_wp2_with fail
          go_still_tail 14, (by kernel_rfl)
          go_wp2_with fail
          rw [← HW.out]
          go_roundw
          case rel =>
            refine ⟨m + 1, fun k => if k = m then F m + F (m - 1) / 10000 else if k = m - 1 then F (m - 1) % 10000 else F k, by omega, by omega, by go_num, World.rowIs.drew (row_put hr2 _ _ (fun k _ => ?_)), Lib.hid ?_, Lib.hid (fun k hk => ?_), Lib.hid (fun k hk => ?_), Lib.hid (fun k => ?_), (hb2.setCell (Nat.le_refl _) _).drew⟩
            · by_cases hk : k = m
              · rw [if_neg (show k ≠ m - 1 by omega)]; simp only [if_pos hk, HY.out, HQ.out]
              · by_cases hk2 : k = m - 1
                · simp only [if_neg hk, if_pos hk2, HY.out, HR.out, u64N]
                · simp only [if_neg hk, if_neg hk2]
            · rw [← HF.out]
              exact valF_carry (by omega) (fun k => rfl) N (by omega)
            · show (if k = m then _ else if k = m - 1 then _ else F k) < 10000
              rw [if_neg (by omega)]
              by_cases hk2 : k = m - 1
              · rw [if_pos hk2]; exact Nat.mod_lt _ (by decide)
              · rw [if_neg hk2]; exact HD.out k (by omega)
            · show (if k = m then _ else if k = m - 1 then _ else F k) ≤ 1000000000000
              rw [if_neg (by omega), if_neg (by omega)]; exact HL.out k (by omega)
            · show (if k = m then _ else if k = m - 1 then _ else F k) ≤ 2000000000000
              have h1 := HL.out m (Nat.le_refl _)
              have h2 := HM.out (m - 1)
              have h3 := HM.out k
              by_cases hk : k = m
              · rw [if_pos hk]; omega
              · rw [if_neg hk]
                by_cases hk2 : k = m - 1
                · rw [if_pos hk2]; omega
                · rw [if_neg hk2]; exact h3
          case measure => simp [intOf]; omega
        · obtain rfl : m = N := by omega
          have HV0 : Hid (0 < valF F m) := Lib.hid (by rw [HF.out]; exact HPV.out)
          obtain ⟨n0, hn0⟩ : ∃ n0, m = n0 + 1 := ⟨m - 1, by omega⟩
          have HT : Hid (∀ k, k < m → F k < 10000) := Lib.hid (fun k hk => by
            by_cases h1 : k + 1 < m
            · exact HD.out k h1
            · have e : k = i + lb := by omega
              have h2 := valF_ge (f := F) (i := k) m hk
              rw [HF.out] at h2
              have h3 := HLT.out
              rw [← e] at h3
              by_cases h0 : F k = 0
              · omega
              · have : 1 * 10000 ^ k ≤ F k * 10000 ^ k := Nat.mul_le_mul_right _ (by omega)
                omega)
          clear HD HL HM HLT HPV hn0
          go_wp2_with fail
          go_loopw [5] (fun lv WX => ∃ n : Nat, n ≤ m ∧ 1 ≤ n ∧ lv = .slice (some ⟨w.heap.size, 0, none⟩) n m ∧ Hid (∀ k, n ≤ k → k < m → F k = 0) ∧ WX.rowIs w.heap.size 43 m (fun k => u64N (F k)) ∧ Below w.heap.size w WX) (fun lv _ => match lv with | .slice _ n _ => n | _ => 0)
          case atStart => exact ⟨m, by omega, by omega, rfl, Lib.hid (fun k h1 h2 => by omega), hrow, hb⟩
          case round =>
            clear hrow hb
            obtain ⟨n, hnm, hn1, rfl, HZ, hrow, hb⟩ := hrel
            have c1 := hrow.cell (i := n - 1) (by omega)
            obtain ⟨x, hx⟩ : ∃ x, F (n - 1) = x := ⟨_, rfl⟩
            simp only [u64N, hx] at c1
            have HX := Lib.hid hx
            clear hx
            have w0 : IntKind.i64.wrap ((n : Int) - 1) = (n : Int) - 1 := IntWalk.i64_in _ (by omega)
            have a2 : (0 : Int) ≤ (n : Int) - 1 := by omega
            have a3 : (n : Int) - 1 < (n : Int) := by omega
            have a4 : (n : Int) - 1 ≤ (m : Int) := by omega
            have a5 : (0 : Int) < (n : Int) := by omega
            have n2 : ((n : Int) - 1).toNat = n - 1 := by omega
            by_cases hx0 : x = 0
            · have t1 : ((x : Int) == 0) = true := by rw [hx0]; rfl
              have HX0 := Lib.hid hx0
              clear hx0
              go_wp2_with fail
              refine ⟨⟨n - 1, by omega, ?_, rfl, Lib.hid (fun k h1 h2 => ?_), hrow, hb⟩, ?_⟩
              · by_cases h0 : n = 1
                · subst h0
                  have hz : valF F m = 0 := by
                    rw [valF_drop 0 m (by omega) (fun k h1 h2 => ?_)]
                    · rfl
                    · by_cases hk : k = 0
                      · subst hk; exact HX.out.trans HX0.out
                      · exact HZ.out k (by omega) h2
                  have := HV0.out
                  omega
                · omega
              · by_cases hk : k = n - 1
                · subst hk; exact HX.out.trans HX0.out
                · exact HZ.out k (by omega) h2
              · show n - 1 < n
                omega
            · have t1 : ((x : Int) == 0) = false := by
                have : (x : Int) ≠ 0 := by omega
                simpa using this
              have HX0 := Lib.hid hx0
              clear hx0
              go_wp2_with fail
              go_ret
              refine ⟨(List.range n).map F, w.heap.size, m, by simp [Array.getD], ⟨fun k hk => ?_, hrow.lt⟩, canon_range (fun k hk => HT.out k (by omega)) (fun _ => ?_), ?_, by simp; omega, hb⟩
              · have hk' : k < n := by simpa using hk
                rw [hrow.cell (i := k) (by omega)]
                simp [u64N, List.getD, hk']
              · rw [HX.out]; exact HX0.out
              · rw [valF_range, ← valF_drop n m hnm HZ.out, HF.out]
end Go.Proofs.YtohjnhekkifhbaaDoor
