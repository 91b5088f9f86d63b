/- Made: a chain of steps. -/
import Derived.Test.YtpkkdjmcabefbaaDoorEArg
namespace Go.Proofs.YtpkkdjmcabefbaaDoor
open Go.RowKit
open Cod (Grew)
def sumS (b : ByteArray) : ByteArray := ⟨(sumL b.data.toList).toArray⟩
theorem sumS_size (b : ByteArray) : (sumS b).size = 32 := sum_size _
/-- What a step turns. -/
def turnS (bad : Int) (s : Sg) : Sg :=
  if bad = 1 then ⟨{ s.h with seq := up64 s.h.seq }, s.mac⟩ else if bad = 2 then ⟨{ s.h with prev := sumS s.h.prev }, s.mac⟩ else if bad = 3 then ⟨{ s.h with root := sumS s.h.root }, s.mac⟩
  else if bad = 4 then ⟨s.h, sumS s.mac⟩ else if bad = 5 then ⟨{ s.h with shard := up64 s.h.shard }, s.mac⟩ else if bad = 6 then ⟨{ s.h with who := up64 s.h.who }, s.mac⟩ else s
def madeO (key : ByteArray) : Sg → List Stp → Option (List Sg)
  | _, [] => some []
  | f, x :: l => if x.root.size ≤ 100 then (if nextOk f.h (sumS x.root) then (madeO key (turnS x.bad (nextS key f (sumS x.root) x.who x.stamp)) l).map (turnS x.bad (nextS key f (sumS x.root) x.who x.stamp) :: ·) else none) else none
/-- A right one, with a seal of 32 bytes. -/
def Good (s : Sg) : Prop := s.h.Ok 32 ∧ s.h.is = true ∧ s.mac.size = 32
theorem turnS_good {s : Sg} (b : Int) (h : Good s) : Good (turnS b s) := by
  obtain ⟨⟨h1, h2, h3, h4, h5, h6⟩, hi, hm⟩ := h
  have h8 := (Hd.is_iff s.h).1 hi
  unfold turnS
  split
  · exact ⟨⟨h1, up64_u _, h3, h4, h5, h6⟩, hi, hm⟩
  split
  · exact ⟨⟨h1, h2, Nat.le_of_eq (sumS_size _), h4, h5, h6⟩, (Hd.is_iff _).2 ⟨sumS_size _, h8.2⟩, hm⟩
  split
  · exact ⟨⟨h1, h2, h3, Nat.le_of_eq (sumS_size _), h5, h6⟩, (Hd.is_iff _).2 ⟨h8.1, sumS_size _⟩, hm⟩
  split
  · exact ⟨⟨h1, h2, h3, h4, h5, h6⟩, hi, sumS_size _⟩
  split
  · exact ⟨⟨up64_u _, h2, h3, h4, h5, h6⟩, hi, hm⟩
  split
  · exact ⟨⟨h1, h2, h3, h4, up64_u _, h6⟩, hi, hm⟩
  · exact ⟨⟨h1, h2, h3, h4, h5, h6⟩, hi, hm⟩
theorem first_good (key : ByteArray) (n : Int) (h : U64 n) : Good (firstS key n) := ⟨(firstH_u n h _ rfl).1, first_is n, seal_size _ _⟩
theorem nextOk_ne {h : Hd} {root : ByteArray} (k : nextOk h root = true) : h.is = true ∧ root.size = 32 ∧ h.seq ≠ 18446744073709551615 := by
  unfold nextOk at k
  simp only [Bool.and_eq_true, decide_eq_true_eq, Bool.not_eq_true', decide_eq_false_iff_not] at k
  exact ⟨k.1, k.2.1, k.2.2⟩
theorem next_good {key : ByteArray} {f : Sg} {root : ByteArray} {a b : Int} (h : Good f) (k : nextOk f.h root = true) (ha : U64 a) (hb : U64 b) : Good (nextS key f root a b) := by
  obtain ⟨k1, k2, k3⟩ := nextOk_ne k
  unfold nextS
  rw [if_pos k]
  exact ⟨nextH_ok h.1 k3 (Nat.le_of_eq k2) (Nat.le_refl _) ha hb, next_is a b k, seal_size _ _⟩
theorem made_step {key : ByteArray} {f : Sg} {x : Stp} {l : List Stp} {k : Nat} (h : l[k]? = some x) : madeO key f (l.drop k) =
    if x.root.size ≤ 100 then (if nextOk f.h (sumS x.root) then (madeO key (turnS x.bad (nextS key f (sumS x.root) x.who x.stamp)) (l.drop (k + 1))).map (turnS x.bad (nextS key f (sumS x.root) x.who x.stamp) :: ·) else none) else none := by
  obtain ⟨hk, e⟩ := List.getElem?_eq_some_iff.1 h
  rw [List.drop_eq_getElem_cons hk, e]; rfl
theorem made_end {key : ByteArray} {f : Sg} {l : List Stp} {k : Nat} (h : l.length ≤ k) : madeO key f (l.drop k) = some [] := by
  rw [List.drop_eq_nil_of_le h]; rfl
def mdRel (key : ByteArray) (w : World) (gl : Nat) (l : List Stp) (R : Option (List Sg)) (v i : Value) (wr : World) : Prop :=
  ∃ (k : Nat) (f : Sg) (acc : List Sg), i = .int .i64 (k : Int) ∧ k ≤ l.length ∧ acc.length = k ∧ Hid ((madeO key f (l.drop k)).map (acc ++ ·) = R) ∧ Hid (Good f) ∧ Hid (Below w.heap.size w wr) ∧
    Hid (wr.heap[gl]? = some (.cells #[.int .u64 f.h.shard, .int .u64 f.h.seq, .string f.h.prev, .string f.h.root, .int .u64 f.h.who, .int .u64 f.h.stamp, .string f.mac] 35 (0, 0))) ∧ Hid (SOw wr (gl + 1) v acc)
def madeR (key : ByteArray) (n : Int) (l : List Stp) : Option (List Sg) := if l.length ≤ 20 ∧ key.size ≤ 100 then madeO key (firstS key n) l else none
set_option maxHeartbeats 8000000 in
set_option maxRecDepth 100000 in
theorem made_prog (key : ByteArray) (hkey : key.size ≤ maxLen) (n : Int) (hn : U64 n) (l : List Stp) (hl : l.length ≤ maxLen) (hx : ∀ x ∈ l, x.Fit) (v : Value) (w : World) (hv : StpSl w v l) :
    Calls Tryd.prog 5 #[.string key, .int .u64 n, v] w fun e w' => ∃ u, e = .returned (.tuple #[u, .bool (madeR key n l).isSome]) ∧ Hid (SOw w' w.heap.size u ((madeR key n l).getD [])) ∧ Below w.heap.size w w' := by
  have bk : (key.size : Int) ≤ 9223372036854775807 := by unfold maxLen at hkey; omega
  have bl : (l.length : Int) ≤ 9223372036854775807 := by unfold maxLen at hl; omega
  have HV := Lib.hid hv
  have HX := Lib.hid hx
  obtain ⟨va, vc, rfl⟩ := hv.shape
  obtain ⟨R, hR⟩ : ∃ R, madeR key n l = R := ⟨_, rfl⟩
  rw [hR]
  obtain ⟨N, hN⟩ : ∃ N, l.length = N := ⟨_, rfl⟩
  unfold madeR at hR
  rw [hN] at hR bl ⊢
  have HN := Lib.hid hN
  clear hkey hl hx hv
  by_cases h1 : N ≤ 20
  · have g1 : ¬ (20 : Int) < (N : Int) := by omega
    by_cases h2 : key.size ≤ 100
    · have g2 : ¬ (100 : Int) < (key.size : Int) := by omega
      rw [if_pos ⟨h1, h2⟩] at hR
      have HR := Lib.hid hR
      have HK : Hid (key.size ≤ 10000) := Lib.hid (by omega)
      have KF := Lib.hid (fun W => rfirst_prog key HK.out n hn W)
      have HG := Lib.hid (first_good key n hn)
      obtain ⟨f0, hf0⟩ : ∃ f, firstS key n = f := ⟨_, rfl⟩
      rw [hf0] at HR KF HG
      unfold sgV at KF
      clear h1 h2 hR hN hf0
      go_enter Tryd.func5, Tryd.ntmps5
      go_wp2_with fail
      refine (KF.out _).mono ?_
      rintro e w1 ⟨rfl, hb1⟩
      obtain ⟨gl, hgl⟩ : ∃ g, g = w1.heap.size := ⟨_, rfl⟩
      obtain ⟨W1, hW1⟩ : ∃ W, W = w1.alloc (.cells #[.int .u64 f0.h.shard, .int .u64 f0.h.seq, .string f0.h.prev, .string f0.h.root, .int .u64 f0.h.who, .int .u64 f0.h.stamp, .string f0.mac] 35) := ⟨_, rfl⟩
      have HB1 : Hid (Below w.heap.size w W1) := Lib.hid (by rw [hW1]; exact hb1.alloc hb1.size _)
      have HF1 : Hid (W1.heap[gl]? = some (.cells #[.int .u64 f0.h.shard, .int .u64 f0.h.seq, .string f0.h.prev, .string f0.h.root, .int .u64 f0.h.who, .int .u64 f0.h.stamp, .string f0.mac] 35 (0, 0))) := Lib.hid (by rw [hW1, hgl]; exact heap_alloc_new _ _)
      have HGL : Hid (w.heap.size ≤ gl) := Lib.hid (by rw [hgl]; exact hb1.size)
      go_upto_region 4 with fail
      simp only [← hW1, ← hgl]
      clear hW1 hgl hb1
      go_wp2_with fail
      go_loopw [9, 27] (mdRel key w gl l R) (fun _ i _ => N - (intOf i).toNat)
      case atStart => exact ⟨0, f0, [], rfl, by omega, rfl, Lib.hid (by rw [List.drop_zero, HR.out]; simp), HG, HB1, HF1, Lib.hid (SOw.nil _ _)⟩
      case round =>
        obtain ⟨k, f, acc, rfl, hk, hac, hq, HG, HB, HF, HS⟩ := hrel
        rw [HN.out] at hk
        by_cases hlt : k < N
        · have i0 : (0 : Int) ≤ (k : Int) := by omega
          have i1 : (k : Int) < (N : Int) := by omega
          obtain ⟨x, hs⟩ : ∃ x, l[k]? = some x := ⟨l[k]'(by rw [HN.out]; exact hlt), List.getElem?_eq_getElem _⟩
          have HXF := Lib.hid (HX.out x (List.mem_of_getElem? hs))
          obtain ⟨g, o, c, ev, _, hcl⟩ := (HV.out.later HB.out).get hs
          rw [HN.out] at ev
          injection ev with e1 e2 e3
          subst e1 e3
          clear e2
          obtain ⟨q0, q1, q2, q3⟩ := hcl
          have HQ := Lib.hid hq.out
          rw [made_step hs] at HQ
          have HLT := Lib.hid hlt
          have HAC := Lib.hid hac
          obtain ⟨av, ac, rfl⟩ := HS.out.shape
          rw [HAC.out] at HS ⊢
          have hk20 : (k : Int) ≤ 20 := by omega
          clear hq hs hac hlt hk
          obtain ⟨gs, hgs⟩ : ∃ g, g = wr.heap.size := ⟨_, rfl⟩
          obtain ⟨W2, hW2⟩ : ∃ W, W = wr.alloc (.cells #[.string x.root, .int .u64 x.who, .int .u64 x.stamp, .int .i64 x.bad] 43) := ⟨_, rfl⟩
          have HB2 : Hid (Below w.heap.size w W2) := Lib.hid (by rw [hW2]; exact HB.out.alloc HB.out.size _)
          have HF2 : Hid (W2.heap[gl]? = some (.cells #[.int .u64 f.h.shard, .int .u64 f.h.seq, .string f.h.prev, .string f.h.root, .int .u64 f.h.who, .int .u64 f.h.stamp, .string f.mac] 35 (0, 0))) := Lib.hid (by rw [hW2]; exact (Below.heap_alloc _ _ _ (block_lt HF.out)).trans HF.out)
          have HX2 : Hid (W2.heap[gs]? = some (.cells #[.string x.root, .int .u64 x.who, .int .u64 x.stamp, .int .i64 x.bad] 43 (0, 0))) := Lib.hid (by rw [hW2, hgs]; exact heap_alloc_new _ _)
          have HS2 : Hid (SOw W2 (gl + 1) (.slice av k ac) acc) := Lib.hid (by rw [hW2]; exact HS.out.later ((Below.refl _ _).alloc (Nat.le_refl _) _))
          have HGS : Hid (gl < gs) := Lib.hid (by rw [hgs]; exact block_lt HF.out)
          have HOW : Hid (∀ kk, (Value.slice av k ac).ownBlock = some kk → kk < gs) := Lib.hid (fun kk hkk => by rw [hgs]; exact (HS.out.own kk hkk).2)
          go_upto_region 8 with fail
          simp only [← hW2, ← hgs]
          clear hW2 hgs q0 q1 q2 q3
          obtain ⟨s0, s1, s2, s3, _, _, _, _⟩ := Cod.block4 HX2.out
          have br : (x.root.size : Int) ≤ 9223372036854775807 := by have := HXF.out.1; unfold maxLen at this; omega
          by_cases hrt : x.root.size ≤ 100
          · have g3 : ¬ (100 : Int) < (x.root.size : Int) := by omega
            rw [if_pos hrt] at HQ
            have KP := Lib.hid (fun W => rsumAt x.root W (by omega) (sumS x.root) rfl)
            have KN := Lib.hid (fun W => rnext_prog key HK.out f 32 HG.out.1 (by decide) (Nat.le_refl _) (sumS x.root) (Nat.le_of_eq (sumS_size _)) x.who x.stamp HXF.out.2.1 HXF.out.2.2.1 W)
            have HNG := Lib.hid (fun h => next_good (key := key) (a := x.who) (b := x.stamp) (root := sumS x.root) HG.out h HXF.out.2.1 HXF.out.2.2.1)
            obtain ⟨P, hP⟩ : ∃ P, sumS x.root = P := ⟨_, rfl⟩
            obtain ⟨y, hy⟩ : ∃ y, nextS key f P x.who x.stamp = y := ⟨_, rfl⟩
            obtain ⟨b, hb⟩ : ∃ b, nextOk f.h P = b := ⟨_, rfl⟩
            rw [hP] at KP KN HNG HQ
            rw [hy, hb] at KN HNG HQ
            unfold sgV at KN
            clear hrt hP hy hb
            obtain ⟨c0, c1, c2, c3, c4, c5, c6⟩ := cells7 HF2.out
            go_upto_region 10 with fail
            clear c0 c1 c2 c3 c4 c5 c6 s0 s1 s2 s3
            go_cut [12, 13] (fun sa sb wx => ∃ g : Nat, sa = .pointer (some ⟨g, 0, none⟩) ∧ sb = .bool b ∧ Hid (W2.heap.size ≤ g ∧ gl < g ∧ gs < g) ∧ Hid (Below W2.heap.size W2 wx) ∧ Hid (wx.heap[gl]? = some (.cells #[.int .u64 f.h.shard, .int .u64 f.h.seq, .string f.h.prev, .string f.h.root, .int .u64 f.h.who, .int .u64 f.h.stamp, .string f.mac] 35 (0, 0))) ∧ Hid (wx.heap[gs]? = some (.cells #[.string x.root, .int .u64 x.who, .int .u64 x.stamp, .int .i64 x.bad] 43 (0, 0))) ∧ Hid (wx.heap[g]? = some (.cells #[.int .u64 y.h.shard, .int .u64 y.h.seq, .string y.h.prev, .string y.h.root, .int .u64 y.h.who, .int .u64 y.h.stamp, .string y.mac] 35 (0, 0))))
            case first =>
              refine wp_region_noPanic ?_
              refine wp_region_held_drew (S := fun w' => Below W2.heap.size W2 w' ∧ (w'.heap[gl]? = some (.cells #[.int .u64 f.h.shard, .int .u64 f.h.seq, .string f.h.prev, .string f.h.root, .int .u64 f.h.who, .int .u64 f.h.stamp, .string f.mac] 35 (0, 0))) ∧ (w'.heap[gs]? = some (.cells #[.string x.root, .int .u64 x.who, .int .u64 x.stamp, .int .i64 x.bad] 43 (0, 0)))) (by kernel_rfl) ⟨(Below.refl W2.heap.size W2).drew, HF2.out, HX2.out⟩ (fun hHeld => ?_)
              generalize W2.drew = WD at hHeld ⊢
              have HBD := hHeld.1
              have FFD := hHeld.2.1
              have FXD := hHeld.2.2
              refine wpAnyH_take (i := 0) (v := ?_) rfl (by kernel_rfl) (by kernel_rfl) (by kernel_rfl) (fun _ _ _ h => h) (Or.inl ⟨by rfl, ?_⟩) ⟨HBD, FFD, FXD⟩ ?_
              rotate_left
              · intro w' hSw; obtain ⟨ac0, ac1, ac2, ac3, ac4, ac5, ac6⟩ := cells7 hSw.2.1; obtain ⟨bc0, bc1, bc2, bc3, _, _, _, _⟩ := Cod.block4 hSw.2.2; go_simp; first | done | with_reducible rfl | rfl
              try simp only [Act.put, List.getElem_toArray, List.getElem_cons_zero, List.setIfInBounds_toArray, List.set_cons_zero, List.set_cons_succ]
              refine wpAnyH_take (i := 1) (v := ?_) rfl (by kernel_rfl) (by kernel_rfl) (by kernel_rfl) (fun _ _ _ h => h) (Or.inl ⟨by rfl, ?_⟩) ⟨HBD, FFD, FXD⟩ ?_
              rotate_left
              · intro w' hSw; obtain ⟨ac0, ac1, ac2, ac3, ac4, ac5, ac6⟩ := cells7 hSw.2.1; obtain ⟨bc0, bc1, bc2, bc3, _, _, _, _⟩ := Cod.block4 hSw.2.2; go_simp; first | done | with_reducible rfl | rfl
              try simp only [Act.put, List.getElem_toArray, List.getElem_cons_zero, List.getElem_cons_succ, List.setIfInBounds_toArray, List.set_cons_zero, List.set_cons_succ]
              refine wpAnyH_take (i := 2) (v := ?_) rfl (by kernel_rfl) (by kernel_rfl) (by kernel_rfl) (fun _ _ _ h => h) (Or.inl ⟨by rfl, ?_⟩) ⟨HBD, FFD, FXD⟩ ?_
              rotate_left
              · intro w' hSw; obtain ⟨ac0, ac1, ac2, ac3, ac4, ac5, ac6⟩ := cells7 hSw.2.1; obtain ⟨bc0, bc1, bc2, bc3, _, _, _, _⟩ := Cod.block4 hSw.2.2; go_simp; first | done | with_reducible rfl | rfl
              try simp only [Act.put, List.getElem_toArray, List.getElem_cons_zero, List.getElem_cons_succ, List.setIfInBounds_toArray, List.set_cons_zero, List.set_cons_succ]
              refine wpAnyH_take (i := 3) (v := ?_) rfl (by kernel_rfl) (by kernel_rfl) (by kernel_rfl) (fun _ _ _ h => h) (Or.inl ⟨by rfl, ?_⟩) ⟨HBD, FFD, FXD⟩ ?_
              rotate_left
              · intro w' hSw; obtain ⟨ac0, ac1, ac2, ac3, ac4, ac5, ac6⟩ := cells7 hSw.2.1; obtain ⟨bc0, bc1, bc2, bc3, _, _, _, _⟩ := Cod.block4 hSw.2.2; go_simp; first | done | with_reducible rfl | rfl
              try simp only [Act.put, List.getElem_toArray, List.getElem_cons_zero, List.getElem_cons_succ, List.setIfInBounds_toArray, List.set_cons_zero, List.set_cons_succ]
              refine wpAnyH_take (i := 5) (v := ?_) rfl (by kernel_rfl) (by kernel_rfl) (by kernel_rfl) (fun _ _ _ h => h) (Or.inl ⟨by rfl, ?_⟩) ⟨HBD, FFD, FXD⟩ ?_
              rotate_left
              · intro w' hSw; obtain ⟨ac0, ac1, ac2, ac3, ac4, ac5, ac6⟩ := cells7 hSw.2.1; obtain ⟨bc0, bc1, bc2, bc3, _, _, _, _⟩ := Cod.block4 hSw.2.2; go_simp; first | done | with_reducible rfl | rfl
              try simp only [Act.put, List.getElem_toArray, List.getElem_cons_zero, List.getElem_cons_succ, List.setIfInBounds_toArray, List.set_cons_zero, List.set_cons_succ]
              refine wpAnyH_take (i := 6) (v := ?_) rfl (by kernel_rfl) (by kernel_rfl) (by kernel_rfl) (fun _ _ _ h => h) (Or.inl ⟨by rfl, ?_⟩) ⟨HBD, FFD, FXD⟩ ?_
              rotate_left
              · intro w' hSw; obtain ⟨ac0, ac1, ac2, ac3, ac4, ac5, ac6⟩ := cells7 hSw.2.1; obtain ⟨bc0, bc1, bc2, bc3, _, _, _, _⟩ := Cod.block4 hSw.2.2; go_simp; first | done | with_reducible rfl | rfl
              try simp only [Act.put, List.getElem_toArray, List.getElem_cons_zero, List.getElem_cons_succ, List.setIfInBounds_toArray, List.set_cons_zero, List.set_cons_succ]
              refine wpAnyH_take (i := 7) (v := ?_) rfl (by kernel_rfl) (by kernel_rfl) (by kernel_rfl) (fun _ _ _ h => h) (Or.inl ⟨by rfl, ?_⟩) ⟨HBD, FFD, FXD⟩ ?_
              rotate_left
              · intro w' hSw; obtain ⟨ac0, ac1, ac2, ac3, ac4, ac5, ac6⟩ := cells7 hSw.2.1; obtain ⟨bc0, bc1, bc2, bc3, _, _, _, _⟩ := Cod.block4 hSw.2.2; go_simp; first | done | with_reducible rfl | rfl
              try simp only [Act.put, List.getElem_toArray, List.getElem_cons_zero, List.getElem_cons_succ, List.setIfInBounds_toArray, List.set_cons_zero, List.set_cons_succ]
              refine wpAnyH_take (i := 8) (v := ?_) rfl (by kernel_rfl) (by kernel_rfl) (by kernel_rfl) (fun _ _ _ h => h) (Or.inl ⟨by rfl, ?_⟩) ⟨HBD, FFD, FXD⟩ ?_
              rotate_left
              · intro w' hSw; obtain ⟨ac0, ac1, ac2, ac3, ac4, ac5, ac6⟩ := cells7 hSw.2.1; obtain ⟨bc0, bc1, bc2, bc3, _, _, _, _⟩ := Cod.block4 hSw.2.2; go_simp; first | done | with_reducible rfl | rfl
              try simp only [Act.put, List.getElem_toArray, List.getElem_cons_zero, List.getElem_cons_succ, List.setIfInBounds_toArray, List.set_cons_zero, List.set_cons_succ]
              refine wpAnyH_ready (rs := [4, 13]) (by kernel_rfl) (by simp) ?_
              refine AllReadyH.cons rfl (fun K hK => ?_) ?_
              · try simp only [Act.put, List.getElem_toArray, List.getElem_cons_zero, List.getElem_cons_succ, List.setIfInBounds_toArray, List.set_cons_zero, List.set_cons_succ]
                go_simp
                go_at_call 12
                refine (KP.out _).mono ?_
                rintro e wq1 ⟨rfl, hb1⟩
                have HBq1 := HBD.trans (hb1.mono HBD.size)
                have FFq1 := ((hb1.block _ (block_lt FFD)).trans FFD)
                have FXq1 := ((hb1.block _ (block_lt FXD)).trans FXD)
                go_wp2_with fail
                refine hK.out _ _ ⟨HBq1, FFq1, FXq1⟩ (fun _ => ?_)
                clear hK K
                try simp only [Act.put, List.getElem_toArray, List.getElem_cons_zero, List.getElem_cons_succ, List.setIfInBounds_toArray, List.set_cons_zero, List.set_cons_succ]
                refine wpAnyH_ready (rs := [9, 13]) (by kernel_rfl) (by simp) ?_
                refine AllReadyH.cons rfl (fun K hK => ?_) ?_
                · try simp only [Act.put, List.getElem_toArray, List.getElem_cons_zero, List.getElem_cons_succ, List.setIfInBounds_toArray, List.set_cons_zero, List.set_cons_succ]
                  go_simp
                  go_at_call 16
                  refine (KN.out _).mono ?_
                  rintro e wq2 ⟨rfl, hb2⟩
                  have HBq2 := HBq1.trans (hb2.mono HBq1.size)
                  have FFq2 := ((hb2.block _ (block_lt FFq1)).trans FFq1)
                  have FXq2 := ((hb2.block _ (block_lt FXq1)).trans FXq1)
                  go_wp2_with fail
                  refine hK.out _ _ ⟨HBq2, FFq2, FXq2⟩ (fun _ => ?_)
                  clear hK K
                  try simp only [Act.put, List.getElem_toArray, List.getElem_cons_zero, List.getElem_cons_succ, List.setIfInBounds_toArray, List.set_cons_zero, List.set_cons_succ]
                  refine wpAnyH_take (i := 10) (v := ?_) rfl (by kernel_rfl) (by kernel_rfl) (by kernel_rfl) (fun _ _ _ h => h) (Or.inl ⟨by rfl, ?_⟩) ⟨HBq2, FFq2, FXq2⟩ ?_
                  rotate_left
                  · intro w' hSw; obtain ⟨ac0, ac1, ac2, ac3, ac4, ac5, ac6⟩ := cells7 hSw.2.1; obtain ⟨bc0, bc1, bc2, bc3, _, _, _, _⟩ := Cod.block4 hSw.2.2; go_simp; first | done | with_reducible rfl | rfl
                  try simp only [Act.put, List.getElem_toArray, List.getElem_cons_zero, List.getElem_cons_succ, List.setIfInBounds_toArray, List.set_cons_zero, List.set_cons_succ]
                  refine wpAnyH_take (i := 11) (v := ?_) rfl (by kernel_rfl) (by kernel_rfl) (by kernel_rfl) (fun _ _ _ h => h) (Or.inl ⟨by rfl, ?_⟩) ⟨HBq2, FFq2, FXq2⟩ ?_
                  rotate_left
                  · intro w' hSw; obtain ⟨ac0, ac1, ac2, ac3, ac4, ac5, ac6⟩ := cells7 hSw.2.1; obtain ⟨bc0, bc1, bc2, bc3, _, _, _, _⟩ := Cod.block4 hSw.2.2; go_simp; first | done | with_reducible rfl | rfl
                  try simp only [Act.put, List.getElem_toArray, List.getElem_cons_zero, List.getElem_cons_succ, List.setIfInBounds_toArray, List.set_cons_zero, List.set_cons_succ]
                  refine wpAnyH_take (i := 12) (v := ?_) rfl (by kernel_rfl) (by kernel_rfl) (by kernel_rfl) (fun _ _ _ h => h) (Or.inl ⟨by rfl, ?_⟩) ⟨HBq2, FFq2, FXq2⟩ ?_
                  rotate_left
                  · intro w' hSw; obtain ⟨ac0, ac1, ac2, ac3, ac4, ac5, ac6⟩ := cells7 hSw.2.1; obtain ⟨bc0, bc1, bc2, bc3, _, _, _, _⟩ := Cod.block4 hSw.2.2; go_simp; first | done | with_reducible rfl | rfl
                  try simp only [Act.put, List.getElem_toArray, List.getElem_cons_zero, List.getElem_cons_succ, List.setIfInBounds_toArray, List.set_cons_zero, List.set_cons_succ]
                  refine wpAnyH_ready (rs := [13]) (by kernel_rfl) (by simp) ?_
                  refine AllReadyH.cons rfl (fun K hK => ?_) AllReadyH.nil
                  try simp only [Act.put, List.getElem_toArray, List.getElem_cons_zero, List.getElem_cons_succ, List.setIfInBounds_toArray, List.set_cons_zero, List.set_cons_succ]
                  go_simp
                  refine hK.out _ _ ⟨HBq2.alloc HBq2.size _, ((((Below.refl _ _).alloc (Nat.le_refl _) _).block _ (block_lt FFq2)).trans FFq2), ((((Below.refl _ _).alloc (Nat.le_refl _) _).block _ (block_lt FXq2)).trans FXq2)⟩ (fun _ => ?_)
                  clear hK K
                  try simp only [Act.put, List.getElem_toArray, List.getElem_cons_zero, List.getElem_cons_succ, List.setIfInBounds_toArray, List.set_cons_zero, List.set_cons_succ]
                  refine named (M := wpAnyH _ _ _ _ _ _ _ _) ?_
                  intro wq3 hk3 hb3 sz3
                  have HBq3 := HBq2.trans (hb3.mono HBq2.size)
                  have FFq3 := ((hb3.block _ (block_lt FFq2)).trans FFq2)
                  have FXq3 := ((hb3.block _ (block_lt FXq2)).trans FXq2)
                  have lt3 : W2.heap.size ≤ wq2.heap.size ∧ gl < wq2.heap.size ∧ gs < wq2.heap.size := ⟨HBq2.size, block_lt FFq2, block_lt FXq2⟩
                  refine wpAnyH_ready (rs := [14]) (by kernel_rfl) (by simp) ?_
                  refine AllReadyH.cons rfl (fun K hK => ?_) AllReadyH.nil
                  obtain ⟨z0, z1, z2, z3, z4, z5, z6⟩ := cells7 hk3
                  obtain ⟨y0, y1, y2, y3, y4, y5, y6⟩ := free7 hk3
                  try simp only [Act.put, List.getElem_toArray, List.getElem_cons_zero, List.getElem_cons_succ]
                  go_simp
                  have HBq4 := HBq3.trans (set7_below (w := wq3) (G := wq2.heap.size) (by have := lt3; omega) (.int .u64 y.h.shard) (.int .u64 y.h.seq) (.string y.h.prev) (.string y.h.root) (.int .u64 y.h.who) (.int .u64 y.h.stamp) (.string y.mac))
                  have FFq4 := ((set7_other _ (wq2.heap.size) (.int .u64 y.h.shard) (.int .u64 y.h.seq) (.string y.h.prev) (.string y.h.root) (.int .u64 y.h.who) (.int .u64 y.h.stamp) (.string y.mac) (gl) (by have := lt3; omega)).trans FFq3)
                  have FXq4 := ((set7_other _ (wq2.heap.size) (.int .u64 y.h.shard) (.int .u64 y.h.seq) (.string y.h.prev) (.string y.h.root) (.int .u64 y.h.who) (.int .u64 y.h.stamp) (.string y.mac) (gs) (by have := lt3; omega)).trans FXq3)
                  have HGq4 := set7_heap hk3 (.int .u64 y.h.shard) (.int .u64 y.h.seq) (.string y.h.prev) (.string y.h.root) (.int .u64 y.h.who) (.int .u64 y.h.stamp) (.string y.mac)
                  refine hK.out _ (set7 wq3 (wq2.heap.size) (.int .u64 y.h.shard) (.int .u64 y.h.seq) (.string y.h.prev) (.string y.h.root) (.int .u64 y.h.who) (.int .u64 y.h.stamp) (.string y.mac)) ⟨HBq4, FFq4, FXq4⟩ (fun _ => ?_)
                  clear hK K z0 z1 z2 z3 z4 z5 z6 y0 y1 y2 y3 y4 y5 y6
                  try simp only [Act.put, List.getElem_toArray, List.getElem_cons_zero, List.getElem_cons_succ]
                  refine wpAnyH_take (i := 15) (v := ?_) rfl (by kernel_rfl) (by kernel_rfl) (by kernel_rfl) (fun _ _ _ h => h) (Or.inl ⟨by rfl, ?_⟩) ⟨HBq4, FFq4, FXq4⟩ ?_
                  rotate_left
                  · intro w' hSw; obtain ⟨ac0, ac1, ac2, ac3, ac4, ac5, ac6⟩ := cells7 hSw.2.1; obtain ⟨bc0, bc1, bc2, bc3, _, _, _, _⟩ := Cod.block4 hSw.2.2; go_simp; first | done | with_reducible rfl | rfl
                  try simp only [Act.put, List.getElem_toArray, List.getElem_cons_zero, List.getElem_cons_succ, List.setIfInBounds_toArray, List.set_cons_zero, List.set_cons_succ]
                  refine wpAnyH_done (by kernel_rfl) ?_ _
                  refine NoPanic.normal ?_
                  go_wp2_with fail
                  go_meet
                  exact ⟨wq2.heap.size, rfl, rfl, Lib.hid (by have := lt3; omega), Lib.hid HBq4, Lib.hid FFq4, Lib.hid FXq4, Lib.hid HGq4⟩
                refine AllReadyH.cons rfl (fun K hK => ?_) AllReadyH.nil
                · try simp only [Act.put, List.getElem_toArray, List.getElem_cons_zero, List.getElem_cons_succ, List.setIfInBounds_toArray, List.set_cons_zero, List.set_cons_succ]
                  go_simp
                  refine hK.out _ _ ⟨HBq1.alloc HBq1.size _, ((((Below.refl _ _).alloc (Nat.le_refl _) _).block _ (block_lt FFq1)).trans FFq1), ((((Below.refl _ _).alloc (Nat.le_refl _) _).block _ (block_lt FXq1)).trans FXq1)⟩ (fun _ => ?_)
                  clear hK K
                  try simp only [Act.put, List.getElem_toArray, List.getElem_cons_zero, List.getElem_cons_succ, List.setIfInBounds_toArray, List.set_cons_zero, List.set_cons_succ]
                  refine named (M := wpAnyH _ _ _ _ _ _ _ _) ?_
                  intro wq5 hk5 hb5 sz5
                  have HBq5 := HBq1.trans (hb5.mono HBq1.size)
                  have FFq5 := ((hb5.block _ (block_lt FFq1)).trans FFq1)
                  have FXq5 := ((hb5.block _ (block_lt FXq1)).trans FXq1)
                  have lt5 : W2.heap.size ≤ wq1.heap.size ∧ gl < wq1.heap.size ∧ gs < wq1.heap.size := ⟨HBq1.size, block_lt FFq1, block_lt FXq1⟩
                  refine wpAnyH_ready (rs := [9]) (by kernel_rfl) (by simp) ?_
                  refine AllReadyH.cons rfl (fun K hK => ?_) AllReadyH.nil
                  try simp only [Act.put, List.getElem_toArray, List.getElem_cons_zero, List.getElem_cons_succ, List.setIfInBounds_toArray, List.set_cons_zero, List.set_cons_succ]
                  go_simp
                  go_at_call 16
                  refine (KN.out _).mono ?_
                  rintro e wq6 ⟨rfl, hb6⟩
                  have HBq6 := HBq5.trans (hb6.mono HBq5.size)
                  have FFq6 := ((hb6.block _ (block_lt FFq5)).trans FFq5)
                  have FXq6 := ((hb6.block _ (block_lt FXq5)).trans FXq5)
                  have HGq6 := (hb6.block _ (block_lt hk5)).trans hk5
                  go_wp2_with fail
                  refine hK.out _ _ ⟨HBq6, FFq6, FXq6⟩ (fun _ => ?_)
                  clear hK K
                  try simp only [Act.put, List.getElem_toArray, List.getElem_cons_zero, List.getElem_cons_succ, List.setIfInBounds_toArray, List.set_cons_zero, List.set_cons_succ]
                  refine wpAnyH_take (i := 10) (v := ?_) rfl (by kernel_rfl) (by kernel_rfl) (by kernel_rfl) (fun _ _ _ h => h) (Or.inl ⟨by rfl, ?_⟩) ⟨HBq6, FFq6, FXq6⟩ ?_
                  rotate_left
                  · intro w' hSw; obtain ⟨ac0, ac1, ac2, ac3, ac4, ac5, ac6⟩ := cells7 hSw.2.1; obtain ⟨bc0, bc1, bc2, bc3, _, _, _, _⟩ := Cod.block4 hSw.2.2; go_simp; first | done | with_reducible rfl | rfl
                  try simp only [Act.put, List.getElem_toArray, List.getElem_cons_zero, List.getElem_cons_succ, List.setIfInBounds_toArray, List.set_cons_zero, List.set_cons_succ]
                  refine wpAnyH_take (i := 11) (v := ?_) rfl (by kernel_rfl) (by kernel_rfl) (by kernel_rfl) (fun _ _ _ h => h) (Or.inl ⟨by rfl, ?_⟩) ⟨HBq6, FFq6, FXq6⟩ ?_
                  rotate_left
                  · intro w' hSw; obtain ⟨ac0, ac1, ac2, ac3, ac4, ac5, ac6⟩ := cells7 hSw.2.1; obtain ⟨bc0, bc1, bc2, bc3, _, _, _, _⟩ := Cod.block4 hSw.2.2; go_simp; first | done | with_reducible rfl | rfl
                  try simp only [Act.put, List.getElem_toArray, List.getElem_cons_zero, List.getElem_cons_succ, List.setIfInBounds_toArray, List.set_cons_zero, List.set_cons_succ]
                  refine wpAnyH_take (i := 12) (v := ?_) rfl (by kernel_rfl) (by kernel_rfl) (by kernel_rfl) (fun _ _ _ h => h) (Or.inl ⟨by rfl, ?_⟩) ⟨HBq6, FFq6, FXq6⟩ ?_
                  rotate_left
                  · intro w' hSw; obtain ⟨ac0, ac1, ac2, ac3, ac4, ac5, ac6⟩ := cells7 hSw.2.1; obtain ⟨bc0, bc1, bc2, bc3, _, _, _, _⟩ := Cod.block4 hSw.2.2; go_simp; first | done | with_reducible rfl | rfl
                  try simp only [Act.put, List.getElem_toArray, List.getElem_cons_zero, List.getElem_cons_succ, List.setIfInBounds_toArray, List.set_cons_zero, List.set_cons_succ]
                  refine wpAnyH_ready (rs := [14]) (by kernel_rfl) (by simp) ?_
                  refine AllReadyH.cons rfl (fun K hK => ?_) AllReadyH.nil
                  obtain ⟨z0, z1, z2, z3, z4, z5, z6⟩ := cells7 HGq6
                  obtain ⟨y0, y1, y2, y3, y4, y5, y6⟩ := free7 HGq6
                  try simp only [Act.put, List.getElem_toArray, List.getElem_cons_zero, List.getElem_cons_succ]
                  go_simp
                  have HBq7 := HBq6.trans (set7_below (w := wq6) (G := wq1.heap.size) (by have := lt5; omega) (.int .u64 y.h.shard) (.int .u64 y.h.seq) (.string y.h.prev) (.string y.h.root) (.int .u64 y.h.who) (.int .u64 y.h.stamp) (.string y.mac))
                  have FFq7 := ((set7_other _ (wq1.heap.size) (.int .u64 y.h.shard) (.int .u64 y.h.seq) (.string y.h.prev) (.string y.h.root) (.int .u64 y.h.who) (.int .u64 y.h.stamp) (.string y.mac) (gl) (by have := lt5; omega)).trans FFq6)
                  have FXq7 := ((set7_other _ (wq1.heap.size) (.int .u64 y.h.shard) (.int .u64 y.h.seq) (.string y.h.prev) (.string y.h.root) (.int .u64 y.h.who) (.int .u64 y.h.stamp) (.string y.mac) (gs) (by have := lt5; omega)).trans FXq6)
                  have HGq7 := set7_heap HGq6 (.int .u64 y.h.shard) (.int .u64 y.h.seq) (.string y.h.prev) (.string y.h.root) (.int .u64 y.h.who) (.int .u64 y.h.stamp) (.string y.mac)
                  refine hK.out _ (set7 wq6 (wq1.heap.size) (.int .u64 y.h.shard) (.int .u64 y.h.seq) (.string y.h.prev) (.string y.h.root) (.int .u64 y.h.who) (.int .u64 y.h.stamp) (.string y.mac)) ⟨HBq7, FFq7, FXq7⟩ (fun _ => ?_)
                  clear hK K z0 z1 z2 z3 z4 z5 z6 y0 y1 y2 y3 y4 y5 y6
                  try simp only [Act.put, List.getElem_toArray, List.getElem_cons_zero, List.getElem_cons_succ]
                  refine wpAnyH_take (i := 15) (v := ?_) rfl (by kernel_rfl) (by kernel_rfl) (by kernel_rfl) (fun _ _ _ h => h) (Or.inl ⟨by rfl, ?_⟩) ⟨HBq7, FFq7, FXq7⟩ ?_
                  rotate_left
                  · intro w' hSw; obtain ⟨ac0, ac1, ac2, ac3, ac4, ac5, ac6⟩ := cells7 hSw.2.1; obtain ⟨bc0, bc1, bc2, bc3, _, _, _, _⟩ := Cod.block4 hSw.2.2; go_simp; first | done | with_reducible rfl | rfl
                  try simp only [Act.put, List.getElem_toArray, List.getElem_cons_zero, List.getElem_cons_succ, List.setIfInBounds_toArray, List.set_cons_zero, List.set_cons_succ]
                  refine wpAnyH_done (by kernel_rfl) ?_ _
                  refine NoPanic.normal ?_
                  go_wp2_with fail
                  go_meet
                  exact ⟨wq1.heap.size, rfl, rfl, Lib.hid (by have := lt5; omega), Lib.hid HBq7, Lib.hid FFq7, Lib.hid FXq7, Lib.hid HGq7⟩
              refine AllReadyH.cons rfl (fun K hK => ?_) AllReadyH.nil
              · try simp only [Act.put, List.getElem_toArray, List.getElem_cons_zero, List.getElem_cons_succ, List.setIfInBounds_toArray, List.set_cons_zero, List.set_cons_succ]
                go_simp
                refine hK.out _ _ ⟨HBD.alloc HBD.size _, ((((Below.refl _ _).alloc (Nat.le_refl _) _).block _ (block_lt FFD)).trans FFD), ((((Below.refl _ _).alloc (Nat.le_refl _) _).block _ (block_lt FXD)).trans FXD)⟩ (fun _ => ?_)
                clear hK K
                try simp only [Act.put, List.getElem_toArray, List.getElem_cons_zero, List.getElem_cons_succ, List.setIfInBounds_toArray, List.set_cons_zero, List.set_cons_succ]
                refine named (M := wpAnyH _ _ _ _ _ _ _ _) ?_
                intro wq8 hk8 hb8 sz8
                have HBq8 := HBD.trans (hb8.mono HBD.size)
                have FFq8 := ((hb8.block _ (block_lt FFD)).trans FFD)
                have FXq8 := ((hb8.block _ (block_lt FXD)).trans FXD)
                have lt8 : W2.heap.size ≤ WD.heap.size ∧ gl < WD.heap.size ∧ gs < WD.heap.size := ⟨HBD.size, block_lt FFD, block_lt FXD⟩
                refine wpAnyH_ready (rs := [4]) (by kernel_rfl) (by simp) ?_
                refine AllReadyH.cons rfl (fun K hK => ?_) AllReadyH.nil
                try simp only [Act.put, List.getElem_toArray, List.getElem_cons_zero, List.getElem_cons_succ, List.setIfInBounds_toArray, List.set_cons_zero, List.set_cons_succ]
                go_simp
                go_at_call 12
                refine (KP.out _).mono ?_
                rintro e wq9 ⟨rfl, hb9⟩
                have HBq9 := HBq8.trans (hb9.mono HBq8.size)
                have FFq9 := ((hb9.block _ (block_lt FFq8)).trans FFq8)
                have FXq9 := ((hb9.block _ (block_lt FXq8)).trans FXq8)
                have HGq9 := (hb9.block _ (block_lt hk8)).trans hk8
                go_wp2_with fail
                refine hK.out _ _ ⟨HBq9, FFq9, FXq9⟩ (fun _ => ?_)
                clear hK K
                try simp only [Act.put, List.getElem_toArray, List.getElem_cons_zero, List.getElem_cons_succ, List.setIfInBounds_toArray, List.set_cons_zero, List.set_cons_succ]
                refine wpAnyH_ready (rs := [9]) (by kernel_rfl) (by simp) ?_
                refine AllReadyH.cons rfl (fun K hK => ?_) AllReadyH.nil
                try simp only [Act.put, List.getElem_toArray, List.getElem_cons_zero, List.getElem_cons_succ, List.setIfInBounds_toArray, List.set_cons_zero, List.set_cons_succ]
                go_simp
                go_at_call 16
                refine (KN.out _).mono ?_
                rintro e wq10 ⟨rfl, hb10⟩
                have HBq10 := HBq9.trans (hb10.mono HBq9.size)
                have FFq10 := ((hb10.block _ (block_lt FFq9)).trans FFq9)
                have FXq10 := ((hb10.block _ (block_lt FXq9)).trans FXq9)
                have HGq10 := (hb10.block _ (block_lt HGq9)).trans HGq9
                go_wp2_with fail
                refine hK.out _ _ ⟨HBq10, FFq10, FXq10⟩ (fun _ => ?_)
                clear hK K
                try simp only [Act.put, List.getElem_toArray, List.getElem_cons_zero, List.getElem_cons_succ, List.setIfInBounds_toArray, List.set_cons_zero, List.set_cons_succ]
                refine wpAnyH_take (i := 10) (v := ?_) rfl (by kernel_rfl) (by kernel_rfl) (by kernel_rfl) (fun _ _ _ h => h) (Or.inl ⟨by rfl, ?_⟩) ⟨HBq10, FFq10, FXq10⟩ ?_
                rotate_left
                · intro w' hSw; obtain ⟨ac0, ac1, ac2, ac3, ac4, ac5, ac6⟩ := cells7 hSw.2.1; obtain ⟨bc0, bc1, bc2, bc3, _, _, _, _⟩ := Cod.block4 hSw.2.2; go_simp; first | done | with_reducible rfl | rfl
                try simp only [Act.put, List.getElem_toArray, List.getElem_cons_zero, List.getElem_cons_succ, List.setIfInBounds_toArray, List.set_cons_zero, List.set_cons_succ]
                refine wpAnyH_take (i := 11) (v := ?_) rfl (by kernel_rfl) (by kernel_rfl) (by kernel_rfl) (fun _ _ _ h => h) (Or.inl ⟨by rfl, ?_⟩) ⟨HBq10, FFq10, FXq10⟩ ?_
                rotate_left
                · intro w' hSw; obtain ⟨ac0, ac1, ac2, ac3, ac4, ac5, ac6⟩ := cells7 hSw.2.1; obtain ⟨bc0, bc1, bc2, bc3, _, _, _, _⟩ := Cod.block4 hSw.2.2; go_simp; first | done | with_reducible rfl | rfl
                try simp only [Act.put, List.getElem_toArray, List.getElem_cons_zero, List.getElem_cons_succ, List.setIfInBounds_toArray, List.set_cons_zero, List.set_cons_succ]
                refine wpAnyH_take (i := 12) (v := ?_) rfl (by kernel_rfl) (by kernel_rfl) (by kernel_rfl) (fun _ _ _ h => h) (Or.inl ⟨by rfl, ?_⟩) ⟨HBq10, FFq10, FXq10⟩ ?_
                rotate_left
                · intro w' hSw; obtain ⟨ac0, ac1, ac2, ac3, ac4, ac5, ac6⟩ := cells7 hSw.2.1; obtain ⟨bc0, bc1, bc2, bc3, _, _, _, _⟩ := Cod.block4 hSw.2.2; go_simp; first | done | with_reducible rfl | rfl
                try simp only [Act.put, List.getElem_toArray, List.getElem_cons_zero, List.getElem_cons_succ, List.setIfInBounds_toArray, List.set_cons_zero, List.set_cons_succ]
                refine wpAnyH_ready (rs := [14]) (by kernel_rfl) (by simp) ?_
                refine AllReadyH.cons rfl (fun K hK => ?_) AllReadyH.nil
                obtain ⟨z0, z1, z2, z3, z4, z5, z6⟩ := cells7 HGq10
                obtain ⟨y0, y1, y2, y3, y4, y5, y6⟩ := free7 HGq10
                try simp only [Act.put, List.getElem_toArray, List.getElem_cons_zero, List.getElem_cons_succ]
                go_simp
                have HBq11 := HBq10.trans (set7_below (w := wq10) (G := WD.heap.size) (by have := lt8; omega) (.int .u64 y.h.shard) (.int .u64 y.h.seq) (.string y.h.prev) (.string y.h.root) (.int .u64 y.h.who) (.int .u64 y.h.stamp) (.string y.mac))
                have FFq11 := ((set7_other _ (WD.heap.size) (.int .u64 y.h.shard) (.int .u64 y.h.seq) (.string y.h.prev) (.string y.h.root) (.int .u64 y.h.who) (.int .u64 y.h.stamp) (.string y.mac) (gl) (by have := lt8; omega)).trans FFq10)
                have FXq11 := ((set7_other _ (WD.heap.size) (.int .u64 y.h.shard) (.int .u64 y.h.seq) (.string y.h.prev) (.string y.h.root) (.int .u64 y.h.who) (.int .u64 y.h.stamp) (.string y.mac) (gs) (by have := lt8; omega)).trans FXq10)
                have HGq11 := set7_heap HGq10 (.int .u64 y.h.shard) (.int .u64 y.h.seq) (.string y.h.prev) (.string y.h.root) (.int .u64 y.h.who) (.int .u64 y.h.stamp) (.string y.mac)
                refine hK.out _ (set7 wq10 (WD.heap.size) (.int .u64 y.h.shard) (.int .u64 y.h.seq) (.string y.h.prev) (.string y.h.root) (.int .u64 y.h.who) (.int .u64 y.h.stamp) (.string y.mac)) ⟨HBq11, FFq11, FXq11⟩ (fun _ => ?_)
                clear hK K z0 z1 z2 z3 z4 z5 z6 y0 y1 y2 y3 y4 y5 y6
                try simp only [Act.put, List.getElem_toArray, List.getElem_cons_zero, List.getElem_cons_succ]
                refine wpAnyH_take (i := 15) (v := ?_) rfl (by kernel_rfl) (by kernel_rfl) (by kernel_rfl) (fun _ _ _ h => h) (Or.inl ⟨by rfl, ?_⟩) ⟨HBq11, FFq11, FXq11⟩ ?_
                rotate_left
                · intro w' hSw; obtain ⟨ac0, ac1, ac2, ac3, ac4, ac5, ac6⟩ := cells7 hSw.2.1; obtain ⟨bc0, bc1, bc2, bc3, _, _, _, _⟩ := Cod.block4 hSw.2.2; go_simp; first | done | with_reducible rfl | rfl
                try simp only [Act.put, List.getElem_toArray, List.getElem_cons_zero, List.getElem_cons_succ, List.setIfInBounds_toArray, List.set_cons_zero, List.set_cons_succ]
                refine wpAnyH_done (by kernel_rfl) ?_ _
                refine NoPanic.normal ?_
                go_wp2_with fail
                go_meet
                exact ⟨WD.heap.size, rfl, rfl, Lib.hid (by have := lt8; omega), Lib.hid HBq11, Lib.hid FFq11, Lib.hid FXq11, Lib.hid HGq11⟩
            case rest =>
              obtain ⟨gt, rfl, rfl, HLG, HB3, HF3, HX3, HY3⟩ := hcut
              obtain ⟨s0, s1, s2, s3, _, _, _, _⟩ := Cod.block4 HX3.out
              cases b with
              | false =>
                have HN0 : Hid (R = none) := Lib.hid (by rw [← HQ.out]; rfl)
                go_wp2_with fail
                go_ret2
                exact ⟨_, by rw [HN0.out]; rfl, Lib.hid (by rw [HN0.out]; exact SOw.nil _ _), HB2.out.trans (HB3.out.mono HB2.out.size)⟩
              | true =>
                have HYG := Lib.hid (HNG.out rfl)
                rw [if_pos rfl] at HQ
                obtain ⟨y0, y1, y2, y3, y4, y5, y6⟩ := cells7 HY3.out
                obtain ⟨f0', f1, f2, f3, f4, f5, f6⟩ := free7 HY3.out
                have hgf : gl ≠ gt := by have := HLG.out; omega
                have hwg : W2.heap.size ≤ gt := HLG.out.1
                clear KP KN HNG HF2 HX2
                go_upto_block 2 with fail
                go_cut [] from 52 to 97 (fun wx => ∃ z : Sg, Hid (z = turnS x.bad y) ∧ Hid (Below W2.heap.size W2 wx) ∧ Hid (wx.heap[gl]? = some (.cells #[.int .u64 f.h.shard, .int .u64 f.h.seq, .string f.h.prev, .string f.h.root, .int .u64 f.h.who, .int .u64 f.h.stamp, .string f.mac] 35 (0, 0))) ∧ Hid (wx.heap[gt]? = some (.cells #[.int .u64 z.h.shard, .int .u64 z.h.seq, .string z.h.prev, .string z.h.root, .int .u64 z.h.who, .int .u64 z.h.stamp, .string z.mac] 35 (0, 0))))
                case first =>
                  by_cases e1 : x.bad = 1
                  · have b1 : (x.bad == 1) = true := by simpa using e1
                    have HE1 := Lib.hid e1
                    clear e1
                    have hw1 : IntKind.u64.wrap (y.h.seq + 1) = up64 y.h.seq := rfl
                    go_wp2_with fail
                    go_meet
                    exact ⟨⟨{ y.h with seq := (up64 y.h.seq) }, y.mac⟩, Lib.hid (by unfold turnS; rw [ if_pos HE1.out]), Lib.hid (HB3.out.setCell hwg _), Lib.hid ((heap_setCell_other wc ⟨gt, 1, none⟩ gl _ hgf).trans HF3.out), Lib.hid (heap_setCell_same wc gt 1 _ _ _ HY3.out)⟩
                  · have b1 : (x.bad == 1) = false := by simpa using e1
                    have HE1 := Lib.hid e1
                    clear e1
                    by_cases e2 : x.bad = 2
                    · have b2 : (x.bad == 2) = true := by simpa using e2
                      have HE2 := Lib.hid e2
                      clear e2
                      have KP := Lib.hid (fun W => rsumAt y.h.prev W (Nat.le_trans (HYG.out.1.2.2.1) (by decide)) (sumS y.h.prev) rfl)
                      go_wp2_with fail
                      refine (KP.out _).mono ?_
                      rintro e w7 ⟨rfl, hb7⟩
                      have HB7 := Lib.hid (HB3.out.trans (hb7.mono HB3.out.size))
                      have HF7 := Lib.hid ((hb7.block _ (block_lt HF3.out)).trans HF3.out)
                      have HY7 := Lib.hid ((hb7.block _ (block_lt HY3.out)).trans HY3.out)
                      clear hb7 y0 y1 y2 y3 y4 y5 y6 f0' f1 f2 f3 f4 f5 f6
                      obtain ⟨y0, y1, y2, y3, y4, y5, y6⟩ := cells7 HY7.out
                      obtain ⟨f0', f1, f2, f3, f4, f5, f6⟩ := free7 HY7.out
                      go_wp2_with fail
                      go_meet
                      exact ⟨⟨{ y.h with prev := (sumS y.h.prev) }, y.mac⟩, Lib.hid (by unfold turnS; rw [if_neg HE1.out, if_pos HE2.out]), Lib.hid (HB7.out.setCell hwg _), Lib.hid ((heap_setCell_other w7 ⟨gt, 2, none⟩ gl _ hgf).trans HF7.out), Lib.hid (heap_setCell_same w7 gt 2 _ _ _ HY7.out)⟩
                    · have b2 : (x.bad == 2) = false := by simpa using e2
                      have HE2 := Lib.hid e2
                      clear e2
                      by_cases e3 : x.bad = 3
                      · have b3 : (x.bad == 3) = true := by simpa using e3
                        have HE3 := Lib.hid e3
                        clear e3
                        have KP := Lib.hid (fun W => rsumAt y.h.root W (Nat.le_trans (HYG.out.1.2.2.2.1) (by decide)) (sumS y.h.root) rfl)
                        go_wp2_with fail
                        refine (KP.out _).mono ?_
                        rintro e w7 ⟨rfl, hb7⟩
                        have HB7 := Lib.hid (HB3.out.trans (hb7.mono HB3.out.size))
                        have HF7 := Lib.hid ((hb7.block _ (block_lt HF3.out)).trans HF3.out)
                        have HY7 := Lib.hid ((hb7.block _ (block_lt HY3.out)).trans HY3.out)
                        clear hb7 y0 y1 y2 y3 y4 y5 y6 f0' f1 f2 f3 f4 f5 f6
                        obtain ⟨y0, y1, y2, y3, y4, y5, y6⟩ := cells7 HY7.out
                        obtain ⟨f0', f1, f2, f3, f4, f5, f6⟩ := free7 HY7.out
                        go_wp2_with fail
                        go_meet
                        exact ⟨⟨{ y.h with root := (sumS y.h.root) }, y.mac⟩, Lib.hid (by unfold turnS; rw [if_neg HE1.out, if_neg HE2.out, if_pos HE3.out]), Lib.hid (HB7.out.setCell hwg _), Lib.hid ((heap_setCell_other w7 ⟨gt, 3, none⟩ gl _ hgf).trans HF7.out), Lib.hid (heap_setCell_same w7 gt 3 _ _ _ HY7.out)⟩
                      · have b3 : (x.bad == 3) = false := by simpa using e3
                        have HE3 := Lib.hid e3
                        clear e3
                        by_cases e4 : x.bad = 4
                        · have b4 : (x.bad == 4) = true := by simpa using e4
                          have HE4 := Lib.hid e4
                          clear e4
                          have KP := Lib.hid (fun W => rsumAt y.mac W (Nat.le_trans (Nat.le_of_eq HYG.out.2.2) (by decide)) (sumS y.mac) rfl)
                          go_wp2_with fail
                          refine (KP.out _).mono ?_
                          rintro e w7 ⟨rfl, hb7⟩
                          have HB7 := Lib.hid (HB3.out.trans (hb7.mono HB3.out.size))
                          have HF7 := Lib.hid ((hb7.block _ (block_lt HF3.out)).trans HF3.out)
                          have HY7 := Lib.hid ((hb7.block _ (block_lt HY3.out)).trans HY3.out)
                          clear hb7 y0 y1 y2 y3 y4 y5 y6 f0' f1 f2 f3 f4 f5 f6
                          obtain ⟨y0, y1, y2, y3, y4, y5, y6⟩ := cells7 HY7.out
                          obtain ⟨f0', f1, f2, f3, f4, f5, f6⟩ := free7 HY7.out
                          go_wp2_with fail
                          go_meet
                          exact ⟨⟨y.h, (sumS y.mac)⟩, Lib.hid (by unfold turnS; rw [if_neg HE1.out, if_neg HE2.out, if_neg HE3.out, if_pos HE4.out]), Lib.hid (HB7.out.setCell hwg _), Lib.hid ((heap_setCell_other w7 ⟨gt, 6, none⟩ gl _ hgf).trans HF7.out), Lib.hid (heap_setCell_same w7 gt 6 _ _ _ HY7.out)⟩
                        · have b4 : (x.bad == 4) = false := by simpa using e4
                          have HE4 := Lib.hid e4
                          clear e4
                          by_cases e5 : x.bad = 5
                          · have b5 : (x.bad == 5) = true := by simpa using e5
                            have HE5 := Lib.hid e5
                            clear e5
                            have hw1 : IntKind.u64.wrap (y.h.shard + 1) = up64 y.h.shard := rfl
                            go_wp2_with fail
                            go_meet
                            exact ⟨⟨{ y.h with shard := (up64 y.h.shard) }, y.mac⟩, Lib.hid (by unfold turnS; rw [if_neg HE1.out, if_neg HE2.out, if_neg HE3.out, if_neg HE4.out, if_pos HE5.out]), Lib.hid (HB3.out.setCell hwg _), Lib.hid ((heap_setCell_other wc ⟨gt, 0, none⟩ gl _ hgf).trans HF3.out), Lib.hid (heap_setCell_same wc gt 0 _ _ _ HY3.out)⟩
                          · have b5 : (x.bad == 5) = false := by simpa using e5
                            have HE5 := Lib.hid e5
                            clear e5
                            by_cases e6 : x.bad = 6
                            · have b6 : (x.bad == 6) = true := by simpa using e6
                              have HE6 := Lib.hid e6
                              clear e6
                              have hw1 : IntKind.u64.wrap (y.h.who + 1) = up64 y.h.who := rfl
                              go_wp2_with fail
                              go_meet
                              exact ⟨⟨{ y.h with who := (up64 y.h.who) }, y.mac⟩, Lib.hid (by unfold turnS; rw [if_neg HE1.out, if_neg HE2.out, if_neg HE3.out, if_neg HE4.out, if_neg HE5.out, if_pos HE6.out]), Lib.hid (HB3.out.setCell hwg _), Lib.hid ((heap_setCell_other wc ⟨gt, 4, none⟩ gl _ hgf).trans HF3.out), Lib.hid (heap_setCell_same wc gt 4 _ _ _ HY3.out)⟩
                            · have b6 : (x.bad == 6) = false := by simpa using e6
                              have HE6 := Lib.hid e6
                              clear e6
                              go_wp2_with fail
                              go_meet
                              exact ⟨y, Lib.hid (by unfold turnS; rw [if_neg HE1.out, if_neg HE2.out, if_neg HE3.out, if_neg HE4.out, if_neg HE5.out, if_neg HE6.out]), HB3, HF3, HY3⟩
                case rest =>
                  obtain ⟨z, HZ, HB4, HF4, HZ4⟩ := hcut
                  have HZG : Hid (Good z) := Lib.hid (by rw [HZ.out]; exact turnS_good _ HYG.out)
                  rw [← HZ.out] at HQ
                  have HS4 : Hid (SOw wc (gl + 1) (.slice av k ac) acc) := Lib.hid (HS2.out.later HB4.out)
                  obtain ⟨gz, hgz⟩ : ∃ gz, gz = wc.heap.size := ⟨_, rfl⟩
                  obtain ⟨W5, hW5⟩ : ∃ W, W = wc.alloc (.cells #[.int .u64 z.h.shard, .int .u64 z.h.seq, .string z.h.prev, .string z.h.root, .int .u64 z.h.who, .int .u64 z.h.stamp, .string z.mac] 35) := ⟨_, rfl⟩
                  have HB5 : Hid (Below W2.heap.size W2 W5) := Lib.hid (by rw [hW5]; exact HB4.out.alloc HB4.out.size _)
                  have HF5 : Hid (W5.heap[gl]? = some (.cells #[.int .u64 f.h.shard, .int .u64 f.h.seq, .string f.h.prev, .string f.h.root, .int .u64 f.h.who, .int .u64 f.h.stamp, .string f.mac] 35 (0, 0))) := Lib.hid (by rw [hW5]; exact (Below.heap_alloc _ _ _ (block_lt HF4.out)).trans HF4.out)
                  have HZ5 : Hid (W5.heap[gt]? = some (.cells #[.int .u64 z.h.shard, .int .u64 z.h.seq, .string z.h.prev, .string z.h.root, .int .u64 z.h.who, .int .u64 z.h.stamp, .string z.mac] 35 (0, 0))) := Lib.hid (by rw [hW5]; exact (Below.heap_alloc _ _ _ (block_lt HZ4.out)).trans HZ4.out)
                  have HN5 : Hid (SSl W5 (.slice (some ⟨gz, 0, none⟩) 1 1) [z]) := Lib.hid (by rw [hW5, hgz]; exact SSl.one (heap_alloc_new _ _) (Nat.le_refl _))
                  have HS5 : Hid (SOw W5 (gl + 1) (.slice av k ac) acc) := Lib.hid (by rw [hW5]; exact HS4.out.later ((Below.refl _ _).alloc (Nat.le_refl _) _))
                  have HL5 : Hid (gl < W5.heap.size) := Lib.hid (block_lt HF5.out)
                  obtain ⟨z0, z1, z2, z3, z4, z5, z6⟩ := cells7 HZ4.out
                  go_wp2_with (first
                    | (at_builtin; simp only [← hW5, ← hgz]; refine list_app1 rfl _ _ rfl (gl + 1) (.slice av k ac) acc rfl HS5.out (some ⟨gz, 0, none⟩) 1 [z] rfl HN5.out (by rw [HAC.out]; simp; omega) (by have := HL5.out; omega) ?_))
                  intro v6 w6 hs6 hg6
                  rw [← hW5] at hg6
                  have hng : ∀ kk, (Value.slice av k ac).ownBlock = some kk → gl + 1 ≤ kk ∧ kk < gs := fun kk hkk => ⟨(HS.out.own kk hkk).1, HOW.out kk hkk⟩
                  have HF6 : Hid (w6.heap[gl]? = some (.cells #[.int .u64 f.h.shard, .int .u64 f.h.seq, .string f.h.prev, .string f.h.root, .int .u64 f.h.who, .int .u64 f.h.stamp, .string f.mac] 35 (0, 0))) := Lib.hid ((hg6.block (block_lt HF5.out) (fun e => by have := (hng _ e).1; omega)).trans HF5.out)
                  have HZ6 : Hid (w6.heap[gt]? = some (.cells #[.int .u64 z.h.shard, .int .u64 z.h.seq, .string z.h.prev, .string z.h.root, .int .u64 z.h.who, .int .u64 z.h.stamp, .string z.mac] 35 (0, 0))) := Lib.hid ((hg6.block (block_lt HZ5.out) (fun e => by have := (hng _ e).2; have := HLG.out.2.2; omega)).trans HZ5.out)
                  have HB6 : Hid (Below w.heap.size w w6) := Lib.hid ((HB2.out.trans (HB5.out.mono HB2.out.size)).trans (hg6.below (Nat.le_trans HB2.out.size HB5.out.size) (fun kk hkk => by have := (hng kk hkk).1; have := HGL.out; omega)))
                  have HS6 := Lib.hid hs6
                  have HV6 : Hid (∀ kk, v6.ownBlock = some kk → gl + 1 ≤ kk) := Lib.hid (fun kk hkk => (hs6.own kk hkk).1)
                  clear hng hs6 hg6 z0 z1 z2 z3 z4 z5 z6
                  obtain ⟨z0, z1, z2, z3, z4, z5, z6⟩ := cells7 HZ6.out
                  obtain ⟨d0, d1, d2, d3, d4, d5, d6⟩ := cells7 HF6.out
                  obtain ⟨l0, l1, l2, l3, l4, l5, l6⟩ := free7 HF6.out
                  have hgf2 : gt ≠ gl := fun e => hgf e.symm
                  go_wp2_with fail
                  go_roundw
                  case rel =>
                    refine ⟨k + 1, z, acc ++ [z], by go_num, by rw [HN.out]; exact HLT.out, by simp [HAC.out], Lib.hid ?_, HZG, Lib.hid (HB6.out.trans (set7_below HGL.out _ _ _ _ _ _ _)), Lib.hid (set7_heap HF6.out _ _ _ _ _ _ _), Lib.hid ?_⟩
                    · rw [← HQ.out]
                      cases madeO key z (l.drop (k + 1)) with
                      | none => rfl
                      | some m => simp
                    · exact HS6.out.mv (fun kk hkk => set7_other _ gl _ _ _ _ _ _ _ kk (by have := HV6.out kk hkk; omega))
                  case measure => simp [intOf]; omega
          · have g3 : (100 : Int) < (x.root.size : Int) := by omega
            rw [if_neg hrt] at HQ
            have HN0 : Hid (R = none) := Lib.hid (by rw [← HQ.out]; rfl)
            clear hrt
            go_wp2_with fail
            go_ret2
            exact ⟨_, by rw [HN0.out]; rfl, Lib.hid (by rw [HN0.out]; exact SOw.nil _ _), HB2.out⟩
        · have hkN : k = N := by omega
          have hlt2 : ¬ (k : Int) < (N : Int) := by omega
          have HE : Hid (R = some acc) := Lib.hid (by rw [← hq.out, made_end (by rw [HN.out]; omega)]; simp)
          obtain ⟨av, ac, rfl⟩ := HS.out.shape
          rw [hac] at HS ⊢
          clear hq hkN hk hac
          go_wp2_with fail
          go_ret2
          exact ⟨_, by rw [HE.out]; rfl, Lib.hid (by rw [HE.out]; exact HS.out.base (B' := w.heap.size) (by have := HGL.out; omega)), HB.out⟩
    · have g2 : (100 : Int) < (key.size : Int) := by omega
      rw [if_neg (fun h => h2 h.2)] at hR
      have HN0 := Lib.hid hR
      clear hR h1 h2
      go_enter Tryd.func5, Tryd.ntmps5
      go_wp2_with fail
      go_ret2
      exact ⟨_, by rw [← HN0.out]; rfl, Lib.hid (by rw [← HN0.out]; exact SOw.nil _ _), Below.refl _ _⟩
  · have g1 : (20 : Int) < (N : Int) := by omega
    rw [if_neg (fun h => h1 h.1)] at hR
    have HN0 := Lib.hid hR
    clear hR h1
    go_enter Tryd.func5, Tryd.ntmps5
    go_wp2_with fail
    go_ret2
    exact ⟨_, by rw [← HN0.out]; rfl, Lib.hid (by rw [← HN0.out]; exact SOw.nil _ _), Below.refl _ _⟩
end Go.Proofs.YtpkkdjmcabefbaaDoor
