/- net: NetTo. -/
import Derived.Test.YtddplcbljbfhaaaNAwk
import Derived.Test.YtddplcbljbfhaaaArgs
namespace Go.Proofs.Ytddplcbljbfhaaa
open Go.RowKit
/-- The slice's elements are these numbers. -/
def I64f (w : World) (la : Option Addr) (ln : Nat) (f : Nat → Int) : Prop := ∀ i, i < ln → ∃ (g o : Nat), la = some ⟨g, o, none⟩ ∧ g < w.heap.size ∧ w.cell? ⟨g, o + i, none⟩ = some (.int .i64 (f i))
def mgT (t : Int) (i : Nat) : Mg := ⟨0, 0, t, 0, i, 0, 0, false, [], ⟨#[]⟩⟩
def netL (f : Nat → Int) (k : Nat) : List (Nat × Mg) := (List.range k).map fun i => (i + 1, mgT (f i) i)
def wantL (f : Nat → Int) (node : Int) (k : Nat) : List Nat := (List.range k).filter fun i => f i = node
theorem netL_len (f : Nat → Int) (k : Nat) : (netL f k).length = k := by simp [netL]
theorem netL_succ (f : Nat → Int) (k : Nat) : netL f (k + 1) = netL f k ++ [(k + 1, mgT (f k) k)] := by simp [netL, List.range_succ]
theorem netL_get (f : Nat → Int) (k i : Nat) (h : i < k) : (netL f k)[i]? = some (i + 1, mgT (f i) i) := by simp [netL, h]
theorem wantL_succ (f : Nat → Int) (node : Int) (k : Nat) : wantL f node (k + 1) = if f k = node then wantL f node k ++ [k] else wantL f node k := by
  unfold wantL
  rw [List.range_succ, List.filter_append]
  split <;> rename_i h <;> simp [h]
theorem wantL_len (f : Nat → Int) (node : Int) (k : Nat) : (wantL f node k).length ≤ k := by
  have := List.length_filter_le (fun i => decide (f i = node)) (List.range k)
  rw [List.length_range] at this
  exact this
theorem posOf_netL (f : Nat → Int) (node : Int) (n : Nat) : posOf (netL f n) node n = wantL f node n := by
  unfold posOf wantL
  refine List.filter_congr fun i hi => ?_
  have hi : i < n := by simpa using hi
  have : dstOf (netL f n) i = f i := by
    unfold dstOf
    rw [List.getD_eq_getElem?_getD, netL_get f n i hi]
    rfl
  rw [this]
theorem wantL_mem {f : Nat → Int} {node : Int} {n k p : Nat} (h : (wantL f node n)[k]? = some p) : p < n ∧ f p = node := by
  have := List.mem_of_getElem? h
  simpa [wantL] using this
theorem wantL_lt {f : Nat → Int} {node : Int} {n k p q : Nat} (h1 : (wantL f node n)[k]? = some p) (h2 : (wantL f node n)[k + 1]? = some q) : p < q := by
  have hs : (wantL f node n).Pairwise (· < ·) := List.Pairwise.filter _ List.pairwise_lt_range
  obtain ⟨a1, rfl⟩ := List.getElem?_eq_some_iff.1 h1
  obtain ⟨a2, rfl⟩ := List.getElem?_eq_some_iff.1 h2
  exact List.pairwise_iff_getElem.1 hs k (k + 1) a1 a2 (by omega)
theorem IOwn.get {w : World} {B : Nat} {v : Value} {l : List Nat} (h : IOwn w B v l) (h0 : 0 < l.length) : ∃ g c, v = .slice (some ⟨g, 0, none⟩) l.length c ∧ g < w.heap.size ∧ ∀ (i p : Nat), l[i]? = some p → w.cell? ⟨g, i, none⟩ = some (.int .i64 (p : Int)) := by
  rcases h.2 with ⟨_, h1⟩ | ⟨g, cap, cur, hv, hB, hg, hn, hm, hs, ht⟩
  · omega
  · refine ⟨g, cap, hv, block_lt hg, fun i p hp => ?_⟩
    have h2 : (l.map intV)[i]? = some (intV p) := by rw [List.getElem?_map, hp]; rfl
    rw [← ht, List.getElem?_take] at h2
    split at h2
    · unfold World.cell?
      rw [hg]
      simpa [intV] using h2
    · cases h2
theorem IOwn.shape {w : World} {B : Nat} {v : Value} {l : List Nat} (h : IOwn w B v l) : ∃ a c, v = .slice a l.length c := by
  rcases h.2 with ⟨h1, h2⟩ | ⟨g, cap, cur, hv, _⟩
  · exact ⟨none, 0, by rw [h1, h2]⟩
  · exact ⟨_, _, hv⟩
set_option maxHeartbeats 8000000 in
set_option maxRecDepth 100000 in
theorem to_law (f : Nat → Int) (la : Option Addr) (ln lc : Nat) (node : Int) (w : World) (hI : I64f w la ln f) (hln : ln ≤ maxLen) :
    Calls Try.prog 5 #[.slice la ln lc, .int .i64 node] w fun e w' => e = .returned (.bool true) ∧ Below w.heap.size w w' := by
  have K0 := Lib.hid (awake_prog w)
  by_cases hbig : 30 < ln
  · have hb : (30 : Int) < (ln : Int) := by omega
    clear hI hbig
    go_enter Try.func5, Try.ntmps5
    go_wp2_with fail
    refine K0.out.mono ?_
    rintro e w1 ⟨rfl, hb1⟩
    have HB := Lib.hid hb1
    clear hb1 K0
    go_wp2_with fail
    go_ret
    exact ⟨rfl, HB.out⟩
  · have hb : (ln : Int) ≤ 30 := by omega
    have HI := Lib.hid hI
    clear hI hbig
    go_enter Try.func5, Try.ntmps5
    go_wp2_with fail
    refine K0.out.mono ?_
    rintro e w1 ⟨rfl, hb1⟩
    clear K0
    have KN := Lib.hid (new_prog w1)
    go_wp2_with fail
    refine KN.out.mono ?_
    rintro e w2 ⟨rfl, hn2, hb2⟩
    obtain ⟨nb, hnb⟩ : ∃ nb, w1.heap.size = nb := ⟨_, rfl⟩
    rw [hnb] at hn2 ⊢
    have HNB := Lib.hid (show w.heap.size ≤ nb by rw [← hnb]; exact hb1.size)
    have HB2 := Lib.hid (hb1.trans (hb2.mono hb1.size))
    have HN2 := Lib.hid hn2
    clear KN hn2 hb1 hb2 hnb
    go_wp2_with fail
    go_loopw [6, 23] (fun c i wr => ∃ (k : Nat) (v' : Value), k ≤ ln ∧ i = .int .i64 (k : Int) ∧ c = .int .i64 ((wantL f node k).length : Int) ∧ Hid (NW wr nb v' k (netL f k)) ∧ Hid (NCh nb (.slice none 0 0) w2 wr v')) (fun _ i _ => ln - (intOf i).toNat)
    case atStart => exact ⟨0, _, by omega, rfl, rfl, HN2, Lib.hid (NCh.refl _ _ _)⟩
    case round =>
      obtain ⟨k, v', hk, rfl, rfl, HW, HC⟩ := hrel
      have HBW : Hid (Below w.heap.size w wr) := Lib.hid (HB2.out.trans (HC.out.below HNB.out (fun j hj => by simp [Value.ownBlock] at hj) HB2.out.size))
      by_cases hlt : k < ln
      · have hkI : (k : Int) < (ln : Int) := by omega
        have hk0 : (0 : Int) ≤ (k : Int) := by omega
        obtain ⟨g, o, rfl, hg, hc0⟩ := HI.out k hlt
        have c0 : wr.cell? ⟨g, o + k, none⟩ = some (.int .i64 (f k)) := cellB HBW.out hc0
        have hcv : IntKind.u64.wrap (k : Int) = (k : Int) := u64_w _ hk0 (by omega)
        obtain ⟨W1, hW1⟩ : ∃ W1, W1 = wr.alloc (.cells #[.int .i64 0, .int .i64 0, .int .i64 (f k), .int .u64 0, .int .u64 (k : Int), .int .u64 0, .int .u64 0, .bool false, .slice none 0 0, .string ⟨#[]⟩] 32) := ⟨_, rfl⟩
        have hb1 : Below wr.heap.size wr W1 := by rw [hW1]; exact (Below.refl _ _).alloc (Nat.le_refl _) _
        have hz1 : W1.heap[wr.heap.size]? = some (.cells (mgL (mgT (f k) k) (.slice none 0 0)).toArray 32 (0, 0)) := by rw [hW1]; exact heap_alloc_new _ _
        have hn1 := HW.out.later hb1
        have KP := Lib.hid (put_prog [mgT (f k) k] wr.heap.size 1 hn1 (fun w' v'' hc i m hm => by
          have hz := (hc.msgs hn1 _ _ _ hz1 (by decide) (by decide)).trans hz1
          cases i with
          | zero =>
            obtain rfl : mgT (f k) k = m := by simpa using hm
            exact ⟨_, by simpa using MCl.ofBlock hz, ESl.nil _⟩
          | succ i => simp at hm) (by show k + 1 < _; omega) (by rw [netL_len]; show k + 1 < _; omega) (fun m hm => by
            obtain rfl : m = mgT (f k) k := by simpa using hm
            exact Nat.zero_le _))
        have HC1 := Lib.hid (HC.out.trans (NCh.ofBelow nb v' hb1))
        have HS := Lib.hid (wantL_succ f node k)
        have HWL := Lib.hid (wantL_len f node k)
        have hwl : ((wantL f node k).length : Int) ≤ 30 := by have := HWL.out; omega
        have hwl0 : (0 : Int) ≤ ((wantL f node k).length : Int) := by omega
        clear hg hc0 hb1 hz1 hn1
        go_wp2_with fail
        simp only [← hW1]
        clear hW1
        refine KP.out.mono ?_
        rintro e w3 ⟨rfl, v3, hn3, hc3⟩
        have HN3 : Hid (NW w3 nb v3 (k + 1) (netL f (k + 1))) := Lib.hid (by rw [netL_succ]; exact hn3)
        have HC3 := Lib.hid (HC1.out.trans hc3)
        clear KP hn3 hc3 c0
        by_cases hfk : f k = node
        · have ht : (f k == node) = true := by simp [hfk]
          have HS2 : Hid (((wantL f node (k + 1)).length : Int) = ((wantL f node k).length : Int) + 1) := Lib.hid (by rw [HS.out, if_pos hfk]; simp)
          clear hfk
          go_wp2_with fail
          go_roundw
          case rel => exact ⟨k + 1, v3, by omega, by go_num, by rw [HS2.out], HN3, HC3⟩
          case measure => simp [intOf]; omega
        · have ht : (f k == node) = false := by simp [hfk]
          have HS2 : Hid (((wantL f node (k + 1)).length : Int) = ((wantL f node k).length : Int)) := Lib.hid (by rw [HS.out, if_neg hfk])
          clear hfk
          go_wp2_with fail
          go_roundw
          case rel => exact ⟨k + 1, v3, by omega, by go_num, by rw [HS2.out], HN3, HC3⟩
          case measure => simp [intOf]; omega
      · have hke : k = ln := by omega
        subst hke
        have hkI : ¬ (k : Int) < (k : Int) := by omega
        have KT := Lib.hid (to_prog HW.out node (by rw [netL_len]; omega))
        obtain ⟨wo, hwo⟩ : ∃ x, x = wr := ⟨_, rfl⟩
        go_wp2_with fail
        refine KT.out.mono ?_
        rintro e w4 ⟨v4, rfl, ho4, hb4⟩
        rw [netL_len, posOf_netL] at ho4
        obtain ⟨P, hP⟩ : ∃ P, wantL f node k = P := ⟨_, rfl⟩
        have HPm : Hid (∀ (j p : Nat), P[j]? = some p → p < k ∧ f p = node) := Lib.hid (fun j p h => by rw [← hP] at h; exact wantL_mem h)
        have HPl : Hid (∀ (j p q : Nat), P[j]? = some p → P[j + 1]? = some q → p < q) := Lib.hid (fun j p q h1 h2 => by rw [← hP] at h1 h2; exact wantL_lt h1 h2)
        have HPn : Hid (P.length ≤ k) := Lib.hid (by rw [← hP]; exact wantL_len f node k)
        rw [hP] at ho4 ⊢
        obtain ⟨a4, c4, rfl⟩ := ho4.shape
        obtain ⟨N, hN⟩ : ∃ N, P.length = N := ⟨_, rfl⟩
        rw [hN] at ho4 ⊢
        have HN := Lib.hid hN
        have HO4 := Lib.hid ho4
        have HW4 := Lib.hid (HW.out.later hb4)
        have HB4 := Lib.hid (HBW.out.trans (hb4.mono HBW.out.size))
        have hNI : (N : Int) ≤ 30 := by have := HPn.out; omega
        subst hwo
        clear KT hb4 ho4 hP hN HW HC HBW
        have HX : Hid (0 < N → ∃ g c, (Value.slice a4 N c4) = .slice (some ⟨g, 0, none⟩) N c ∧ g < w4.heap.size ∧ ∀ (i p : Nat), P[i]? = some p → w4.cell? ⟨g, i, none⟩ = some (.int .i64 (p : Int))) := Lib.hid (fun h => by
          have := HO4.out
          rw [← HN.out] at this h ⊢
          exact this.get h)
        have HKT : Hid (0 ≤ k ∧ k ≤ 30) := Lib.hid (by omega)
        go_wp2_with fail
        go_loopw [46] (fun i w5 => ∃ j : Nat, j ≤ N ∧ i = .int .i64 (j : Int) ∧ Hid (Below w4.heap.size w4 w5)) (fun i _ => N - (intOf i).toNat)
        case atStart => exact ⟨0, by omega, rfl, Lib.hid (Below.refl _ _)⟩
        case round =>
          obtain ⟨j, hj, rfl, HB5⟩ := hrel
          by_cases hlj : j < N
          · have hjI : (j : Int) < (N : Int) := by omega
            have hj0 : (0 : Int) ≤ (j : Int) := by omega
            obtain ⟨g, c, he, hg, hcs⟩ := HX.out (by omega)
            injection he with he1 _ he3
            subst he1 he3
            obtain ⟨p, hp⟩ : ∃ p, P[j]? = some p := ⟨_, List.getElem?_eq_getElem (by rw [HN.out]; exact hlj)⟩
            obtain ⟨hpk, hpf⟩ := HPm.out j p hp
            have cp : wr.cell? ⟨g, j, none⟩ = some (.int .i64 (p : Int)) := cellB HB5.out (hcs j p hp)
            have hp0 : (0 : Int) ≤ (p : Int) := by omega
            have hp30 : (p : Int) ≤ 30 := by have := HKT.out; omega
            have hcv : IntKind.u64.wrap (p : Int) = (p : Int) := u64_w _ hp0 (by omega)
            have KA := Lib.hid (at_yes (HW4.out.later HB5.out) p (p + 1) (mgT (f p) p) (netL_get f k p hpk) (Nat.zero_le _))
            rw [hpf] at KA
            unfold mgL at KA
            have e1 : (mgT node p).kind = 0 := rfl
            have e2 : (mgT node p).src = 0 := rfl
            have e3 : (mgT node p).dst = node := rfl
            have e4 : (mgT node p).term = 0 := rfl
            have e5 : (mgT node p).index = p := rfl
            have e6 : (mgT node p).lterm = 0 := rfl
            have e7 : (mgT node p).commit = 0 := rfl
            have e8 : (mgT node p).ok = false := rfl
            have e9 : (mgT node p).state = ⟨#[]⟩ := rfl
            simp only [e1, e2, e3, e4, e5, e6, e7, e8, e9] at KA
            clear e1 e2 e3 e4 e5 e6 e7 e8 e9 hpk
            by_cases hj0' : j = 0
            · subst hj0'
              clear hcs hp hpf
              go_wp2_with fail
              refine KA.out.mono ?_
              rintro e w6 ⟨ev, rfl, ho6, hb6⟩
              obtain ⟨ra, rc, rfl, _⟩ := ho6.shape
              have hel : (mgT node p).ents.length = 0 := rfl
              rw [hel]
              have HB6 := Lib.hid (HB5.out.trans (hb6.mono HB5.out.size))
              have HB7 := Lib.hid (HB6.out.alloc HB6.out.size (.cells #[.int .i64 0, .int .i64 0, .int .i64 node, .int .u64 0, .int .u64 (p : Int), .int .u64 0, .int .u64 0, .bool false, .slice ra 0 rc, .string ⟨#[]⟩] 32))
              clear ho6 hb6 KA cp
              go_wp2_with fail
              go_roundw
              case rel => exact ⟨1, by omega, by go_num, HB7⟩
              case measure => simp [intOf]; omega
            · obtain ⟨q, hq⟩ : ∃ q, P[j - 1]? = some q := ⟨_, List.getElem?_eq_getElem (by rw [HN.out]; omega)⟩
              have hqp : q < p := HPl.out (j - 1) q p hq (by rw [show j - 1 + 1 = j by omega]; exact hp)
              have HQ := Lib.hid (hcs (j - 1) q hq)
              have HG := Lib.hid hg
              have hjg : (0 : Int) < (j : Int) := by omega
              have ejj : ((j : Int) - 1).toNat = j - 1 := by omega
              have hjn : (j : Int) - 1 < (N : Int) := by omega
              have hqn : ¬ p ≤ q := by omega
              clear hcs hp hpf hq
              go_wp2_with fail
              refine KA.out.mono ?_
              rintro e w6 ⟨ev, rfl, ho6, hb6⟩
              obtain ⟨ra, rc, rfl, _⟩ := ho6.shape
              have hel : (mgT node p).ents.length = 0 := rfl
              rw [hel]
              have HB6 := Lib.hid (HB5.out.trans (hb6.mono HB5.out.size))
              have HB7 := Lib.hid (HB6.out.alloc HB6.out.size (.cells #[.int .i64 0, .int .i64 0, .int .i64 node, .int .u64 0, .int .u64 (p : Int), .int .u64 0, .int .u64 0, .bool false, .slice ra 0 rc, .string ⟨#[]⟩] 32))
              have cq := cellB HB7.out HQ.out
              clear ho6 hb6 KA cp hqp
              go_wp2_with fail
              go_roundw
              case rel => exact ⟨j + 1, by omega, by go_num, HB7⟩
              case measure => simp [intOf]; omega
          · have hje : j = N := by omega
            subst hje
            have hjI : ¬ (j : Int) < (j : Int) := by omega
            go_wp2_with fail
            go_ret
            exact ⟨rfl, HB4.out.trans (HB5.out.mono HB4.out.size)⟩
end Go.Proofs.Ytddplcbljbfhaaa
