/- Steps that turn nothing. -/
import Derived.Test.YtgcaaigfgbglcaaDoorEMade
namespace Go.Proofs.YtgcaaigfgbglcaaDoor
open Go.RowKit
open Cod (SlN Grew ownN_low ownN_mv ownN_base)
theorem StpSl.nil (w : World) : StpSl w (.slice none 0 0) [] := ⟨none, 0, rfl, Nat.le_refl _, fun h => absurd rfl h⟩
theorem Tryd.stSl : SlN Tryd.prog 36 44 (.agg #[.string ⟨#[]⟩, .int .u64 0, .int .u64 0, .int .i64 0]) 4 40 := ⟨Tryd.underlying36, by kernel_rfl, rfl, by decide⟩
def stL (s : Stp) : List Value := [.string s.root, .int .u64 s.who, .int .u64 s.stamp, .int .i64 s.bad]
/-- The cells of signed headers. -/
def stsC (l : List Stp) : List Value := l.flatMap stL
theorem stsC_append (a b : List Stp) : stsC (a ++ b) = stsC a ++ stsC b := List.flatMap_append ..
theorem stsC_length (l : List Stp) : (stsC l).length = l.length * 4 := by
  induction l with
  | nil => rfl
  | cons x l ih => simp only [stsC, stL, List.flatMap_cons, List.length_append, List.length_cons, List.length_nil] at ih ⊢; omega
theorem stsC_get : ∀ (q : List Stp) (i : Nat) (y : Stp), q[i]? = some y → ∀ j u, (stL y)[j]? = some u → (stsC q)[i * 4 + j]? = some u
  | [], i, y, h, _, _, _ => by simp at h
  | x :: q, 0, y, h, j, u, hu => by
    obtain rfl : x = y := by simpa using h
    have e : stsC (x :: q) = stL x ++ stsC q := rfl
    have hl := (List.getElem?_eq_some_iff.1 hu).1
    rw [e, Nat.zero_mul, Nat.zero_add, List.getElem?_append_left hl]
    exact hu
  | x :: q, i + 1, y, h, j, u, hu => by
    have e : stsC (x :: q) = stL x ++ stsC q := rfl
    have hl : (stL x).length = 4 := rfl
    rw [e, show (i + 1) * 4 + j = 4 + (i * 4 + j) by omega, List.getElem?_append_right (by rw [hl]; omega), hl, Nat.add_sub_cancel_left]
    exact stsC_get q i y (by simpa using h) j u hu
theorem stL_one (s : Stp) : ∀ u ∈ stL s, u.oneCell' = true := by
  intro u hu
  simp only [stL, List.mem_cons, List.not_mem_nil, or_false] at hu
  rcases hu with rfl | rfl | rfl | rfl <;> rfl
theorem stsC_one (l : List Stp) : ∀ u ∈ stsC l, u.oneCell' = true := by
  intro u hu
  obtain ⟨x, _, hx⟩ := List.mem_flatMap.1 hu
  exact stL_one x u hx
/-- The slice value owns these signed headers; no block below B is its own. -/
def TOw (w : World) (B : Nat) (v : Value) (l : List Stp) : Prop := w.ownsRow B 44 4 v l.length (stsC l)
theorem TOw.nil (w : World) (B : Nat) : TOw w B (.slice none 0 0) [] := World.ownsRow_nil _ _ _ _
theorem TOw.own {w : World} {B : Nat} {v : Value} {l : List Stp} (h : TOw w B v l) : ∀ k, v.ownBlock = some k → B ≤ k ∧ k < w.heap.size := fun k hk => World.ownsRow.lt h k hk
theorem TOw.mv {w w' : World} {B : Nat} {v : Value} {l : List Stp} (h : TOw w B v l) (hb : ∀ k, v.ownBlock = some k → w'.heap[k]? = w.heap[k]?) : TOw w' B v l := ownN_mv h hb
theorem TOw.later {w w' : World} {B : Nat} {v : Value} {l : List Stp} (h : TOw w B v l) (hb : Below w.heap.size w w') : TOw w' B v l := h.mv (fun k hk => hb.block k (h.own k hk).2)
theorem TOw.base {w : World} {B B' : Nat} {v : Value} {l : List Stp} (h : TOw w B v l) (hB : B' ≤ B) : TOw w B' v l := ownN_base h fun k hk => Nat.le_trans hB (ownN_low h k hk)
theorem TOw.shape {w : World} {B : Nat} {v : Value} {l : List Stp} (h : TOw w B v l) : ∃ a c, v = .slice a l.length c := by
  rcases h.2 with ⟨h1, h2⟩ | ⟨g, cap, cur, hv, _⟩
  · exact ⟨none, 0, by rw [h1, h2]⟩
  · exact ⟨_, _, hv⟩
theorem TOw.sl {w : World} {B : Nat} {v : Value} {l : List Stp} (h : TOw w B v l) : StpSl w v l := by
  rcases h.2 with ⟨h1, h2⟩ | ⟨g, cap, cur, he, hB, hg, hn, hm, hs, ht⟩
  · obtain rfl := List.eq_nil_of_length_eq_zero h2
    rw [h1]; exact StpSl.nil w
  · refine ⟨_, cap, he, hn, fun _ => ⟨g, 0, rfl, block_lt hg, fun i x hx => ?_⟩⟩
    have hcell : ∀ (j : Nat) (u : Value), (stL x)[j]? = some u → w.cell? ⟨g, 0 + i * 4 + j, none⟩ = some u := fun j u hu => by
      have hu := stsC_get l i x hx j u hu
      have hj : i * 4 + j < (stsC l).length := (List.getElem?_eq_some_iff.1 hu).1
      rw [← ht, List.getElem?_take] at hu
      split at hu
      · unfold World.cell?
        rw [hg]
        simpa using hu
      · cases hu
    exact ⟨hcell 0 _ rfl, hcell 1 _ rfl, hcell 2 _ rfl, hcell 3 _ rfl⟩
/-- append(out, s): the block of the one new element is cells of its own. -/
theorem list_appT {ops : Array Oper} {rest : List Oper} {o : Oper} {a : Act} {w : World} {Q : Exit → Act → World → Prop} (hgd : o.guard = none) (s x : Operand)
    (ho : o.op = .call { callee := .builtin .append, args := #[s, x], argTypes := #[36, 36] })
    (B : Nat) (v : Value) (l : List Stp) (hs : a.eval s = v) (hown : TOw w B v l) (ad : Option Addr) (c : Nat) (k : List Stp) (hx : a.eval x = .slice ad k.length c) (hk : StpSl w (.slice ad k.length c) k) (hl : (l.length + k.length) * 40 ≤ 140737488355328) (hbase : B ≤ w.heap.size)
    (h : ∀ v' w', TOw w' B v' (l ++ k) → Grew w v w' v' → wpList Tryd.prog ops Q rest (a.put o.dst v') w') :
    wpList Tryd.prog ops Q (o :: rest) a w := by
  refine list_appN2 Tryd.stSl hgd s x ho B v l.length (stsC l) hs hown ad k.length c (stsC k) hx (stsC_length k) (fun hm => ?_) (stsC_one k) (by unfold maxLen; omega) (by omega) hbase ?_
  · obtain ⟨a', c', e, _, h3⟩ := hk
    obtain ⟨g, o', ha, _, hc⟩ := h3 (fun e => by rw [e] at hm; simp at hm)
    injection e with e
    refine ⟨g, o', by rw [e, ha], fun j u hu => ?_⟩
    have hj : j < k.length * 4 := by rw [← stsC_length]; exact (List.getElem?_eq_some_iff.1 hu).1
    obtain ⟨y, hy⟩ : ∃ y, k[j / 4]? = some y := ⟨k[j / 4]'(by omega), List.getElem?_eq_getElem _⟩
    obtain ⟨u', hu'⟩ : ∃ u', (stL y)[j % 4]? = some u' := ⟨(stL y)[j % 4]'(by show j % 4 < 4; omega), List.getElem?_eq_getElem _⟩
    have e2 := stsC_get k _ y hy _ u' hu'
    rw [show j / 4 * 4 + j % 4 = j by omega, hu] at e2
    injection e2 with e2
    subst e2
    have cc := hc _ y hy
    have hq : j = j / 4 * 4 + j % 4 := by omega
    have hm4 : j % 4 < 4 := Nat.mod_lt _ (by decide)
    rw [hq, ← Nat.add_assoc]
    generalize j % 4 = q at hu' hm4 ⊢
    match q, hm4 with
    | 0, _ => obtain rfl : _ = u := by simpa [stL] using hu'
              exact cc.c0
    | 1, _ => obtain rfl : _ = u := by simpa [stL] using hu'
              exact cc.c1
    | 2, _ => obtain rfl : _ = u := by simpa [stL] using hu'
              exact cc.c2
    | 3, _ => obtain rfl : _ = u := by simpa [stL] using hu'
              exact cc.c3
  · intro v' w' g1 g2
    refine h v' w' ?_ g2
    unfold TOw
    rw [List.length_append, stsC_append]
    exact g1
theorem StpSl.one {w : World} {g c : Nat} {s : Stp} {ty : TypeId} (h : w.heap[g]? = some (.cells #[.string s.root, .int .u64 s.who, .int .u64 s.stamp, .int .i64 s.bad] ty (0, 0))) (hc : 1 ≤ c) : StpSl w (.slice (some ⟨g, 0, none⟩) 1 c) [s] := by
  refine ⟨_, c, rfl, hc, fun _ => ⟨g, 0, rfl, block_lt h, fun i x hx => ?_⟩⟩
  obtain ⟨c0, c1, c2, c3, _, _, _, _⟩ := Cod.block4 h
  cases i with
  | zero => obtain rfl : s = x := by simpa using hx
            exact ⟨c0, c1, c2, c3⟩
  | succ i => simp at hx
def unturn (x : Stp) : Stp := { x with bad := 0 }
def rgRel (w : World) (l : List Stp) (v i : Value) (wr : World) : Prop := ∃ k : Nat, i = .int .i64 (k : Int) ∧ k ≤ l.length ∧ Hid (Below w.heap.size w wr) ∧ Hid (TOw wr w.heap.size v ((l.take k).map unturn))
set_option maxHeartbeats 4000000 in
set_option maxRecDepth 100000 in
theorem unturn_prog (l : List Stp) (hl : l.length * 40 ≤ 140737488355328) (v : Value) (w : World) (hv : StpSl w v l) :
    Calls Tryd.prog 33 #[v] w fun e w' => ∃ u, e = .returned u ∧ Hid (StpSl w' u (l.map unturn)) ∧ Below w.heap.size w w' := by
  have bl : (l.length : Int) ≤ 9223372036854775807 := by omega
  have HV := Lib.hid hv
  obtain ⟨va, vc, rfl⟩ := hv.shape
  obtain ⟨N, hN⟩ : ∃ N, l.length = N := ⟨_, rfl⟩
  rw [hN] at bl hl ⊢
  have HN := Lib.hid hN
  have HL := Lib.hid hl
  clear hv hN hl
  go_enter Tryd.func33, Tryd.ntmps33
  go_wp2_with fail
  go_loopw [3, 8] (rgRel w l) (fun _ i _ => N - (intOf i).toNat)
  case atStart => exact ⟨0, rfl, by omega, Lib.hid (Below.refl _ _), Lib.hid (TOw.nil _ _)⟩
  case round =>
    obtain ⟨k, rfl, hk, HB, HS⟩ := hrel
    rw [HN.out] at hk
    by_cases hlt : k < N
    · have i0 : (0 : Int) ≤ (k : Int) := by omega
      have i1 : (k : Int) < (N : Int) := by omega
      obtain ⟨x, hs⟩ : ∃ x, l[k]? = some x := ⟨l[k]'(by rw [HN.out]; exact hlt), List.getElem?_eq_getElem _⟩
      obtain ⟨g, o, c, ev, _, hcl⟩ := (HV.out.later HB.out).get hs
      rw [HN.out] at ev
      injection ev with e1 e2 e3
      subst e1 e3
      clear e2
      obtain ⟨q0, q1, q2, q3⟩ := hcl
      have HTK : Hid ((l.take (k + 1)).map unturn = (l.take k).map unturn ++ [unturn x]) := Lib.hid (by
        obtain ⟨h1, h2⟩ := List.getElem?_eq_some_iff.1 hs
        rw [List.take_succ_eq_append_getElem h1, h2]; simp)
      have HLT := Lib.hid hlt
      have htk : ((l.take k).map unturn).length = k := by simp [HN.out]; omega
      have HTL := Lib.hid htk
      obtain ⟨av, ac, rfl⟩ := HS.out.shape
      rw [HTL.out] at HS ⊢
      have HK40 : Hid ((k + 1) * 40 ≤ 140737488355328) := Lib.hid (by have := HL.out; omega)
      clear hs hlt hk htk
      obtain ⟨W2, hW2⟩ : ∃ W, W = wr.alloc (.cells #[.string x.root, .int .u64 x.who, .int .u64 x.stamp, .int .i64 x.bad] 44) := ⟨_, rfl⟩
      obtain ⟨gs, hgs⟩ : ∃ g, g = wr.heap.size := ⟨_, rfl⟩
      have HB2 : Hid (Below w.heap.size w W2) := Lib.hid (by rw [hW2]; exact HB.out.alloc HB.out.size _)
      have HX2 : Hid (W2.heap[gs]? = some (.cells #[.string x.root, .int .u64 x.who, .int .u64 x.stamp, .int .i64 x.bad] 44 (0, 0))) := Lib.hid (by rw [hW2, hgs]; exact heap_alloc_new _ _)
      have HS2 : Hid (TOw W2 w.heap.size (.slice av k ac) ((l.take k).map unturn)) := Lib.hid (by rw [hW2]; exact HS.out.later ((Below.refl _ _).alloc (Nat.le_refl _) _))
      have HOW : Hid (∀ kk, (Value.slice av k ac).ownBlock = some kk → kk < gs) := Lib.hid (fun kk hkk => by rw [hgs]; exact (HS.out.own kk hkk).2)
      have HGS : Hid (w.heap.size ≤ gs) := Lib.hid (by rw [hgs]; exact HB.out.size)
      go_upto_region 5 with fail
      simp only [← hW2, ← hgs]
      clear hW2 hgs q0 q1 q2 q3
      obtain ⟨s0, s1, s2, s3, z0, z1, z2, z3⟩ := Cod.block4 HX2.out
      obtain ⟨W3, hW3⟩ : ∃ W, W = W2.setCell ⟨gs, 3, none⟩ (.int .i64 0) := ⟨_, rfl⟩
      have HB3 : Hid (Below w.heap.size w W3) := Lib.hid (by rw [hW3]; exact HB2.out.setCell HGS.out _)
      have HX3 : Hid (W3.heap[gs]? = some (.cells #[.string x.root, .int .u64 x.who, .int .u64 x.stamp, .int .i64 0] 44 (0, 0))) := Lib.hid (by rw [hW3]; exact heap_setCell_same W2 gs 3 _ _ _ HX2.out)
      have HS3 : Hid (TOw W3 w.heap.size (.slice av k ac) ((l.take k).map unturn)) := Lib.hid (by rw [hW3]; exact HS2.out.mv (fun kk hkk => heap_setCell_other W2 ⟨gs, 3, none⟩ kk _ (by have := HOW.out kk hkk; show kk ≠ gs; omega)))
      go_upto_region 6 with fail
      simp only [← hW3]
      clear hW3 s0 s1 s2 s3 z0 z1 z2 z3
      obtain ⟨s0, s1, s2, s3, _, _, _, _⟩ := Cod.block4 HX3.out
      obtain ⟨gz, hgz⟩ : ∃ gz, gz = W3.heap.size := ⟨_, rfl⟩
      obtain ⟨W5, hW5⟩ : ∃ W, W = W3.alloc (.cells #[.string x.root, .int .u64 x.who, .int .u64 x.stamp, .int .i64 0] 44) := ⟨_, rfl⟩
      have HB5 : Hid (Below w.heap.size w W5) := Lib.hid (by rw [hW5]; exact HB3.out.alloc HB3.out.size _)
      have HN5 : Hid (StpSl W5 (.slice (some ⟨gz, 0, none⟩) 1 1) [unturn x]) := Lib.hid (by rw [hW5, hgz]; exact StpSl.one (heap_alloc_new _ _) (Nat.le_refl _))
      have HS5 : Hid (TOw W5 w.heap.size (.slice av k ac) ((l.take k).map unturn)) := Lib.hid (by rw [hW5]; exact HS3.out.later ((Below.refl _ _).alloc (Nat.le_refl _) _))
      go_wp2_with (first
        | (at_builtin; simp only [← hW5, ← hgz]; refine list_appT rfl _ _ rfl w.heap.size (.slice av k ac) ((l.take k).map unturn) rfl HS5.out (some ⟨gz, 0, none⟩) 1 [unturn x] rfl HN5.out (by rw [HTL.out]; exact HK40.out) HB5.out.size ?_))
      intro v6 w6 hs6 hg6
      rw [← hW5] at hg6
      have HB6 : Hid (Below w.heap.size w w6) := Lib.hid (HB5.out.trans (hg6.below HB5.out.size (fun kk hkk => (HS.out.own kk hkk).1)))
      have HS6 := Lib.hid hs6
      clear hs6 hg6
      go_wp2_with fail
      go_roundw
      case rel => exact ⟨k + 1, by go_num, by rw [HN.out]; exact HLT.out, HB6, Lib.hid (by rw [HTK.out, List.map_take]; exact HS6.out)⟩
      case measure => simp [intOf]; omega
    · have hkN : k = N := by omega
      have hlt2 : ¬ (k : Int) < (N : Int) := by omega
      have HE : Hid ((l.take k).map unturn = l.map unturn) := Lib.hid (by rw [List.take_of_length_le (by rw [HN.out]; omega)])
      clear hk
      go_wp2_with fail
      go_ret
      exact ⟨_, rfl, Lib.hid (by rw [← HE.out]; exact HS.out.sl), HB.out⟩
end Go.Proofs.YtgcaaigfgbglcaaDoor
