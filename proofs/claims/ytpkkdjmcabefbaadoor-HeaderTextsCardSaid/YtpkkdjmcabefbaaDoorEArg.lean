/- Arguments of layer 12's laws: a signed header, steps, two bytes. -/
import Derived.Test.YtpkkdjmcabefbaaDoorArgs
import Derived.Test.YtpkkdjmcabefbaaDoorArgs4
import Derived.Test.YtpkkdjmcabefbaaDoorELawS
import Derived.ChangeMaps5
import Derived.Deep.Slices
import Derived.ChangeSame
namespace Go.Proofs.YtpkkdjmcabefbaaDoor
open Go.ChangeShapes Go.WideShapes Go.RowKit Go.Deep

/-- A step: its root's text, who, for which, what is turned. -/
structure Stp where
  root : ByteArray
  who : Int
  stamp : Int
  bad : Int
def Stp.Fit (x : Stp) : Prop := x.root.size ≤ maxLen ∧ U64 x.who ∧ U64 x.stamp ∧ (-9223372036854775808 ≤ x.bad ∧ x.bad ≤ 9223372036854775807)
/-- A step's four cells. -/
structure TCl (w : World) (g o : Nat) (x : Stp) : Prop where
  c0 : w.cell? ⟨g, o, none⟩ = some (.string x.root)
  c1 : w.cell? ⟨g, o + 1, none⟩ = some (.int .u64 x.who)
  c2 : w.cell? ⟨g, o + 2, none⟩ = some (.int .u64 x.stamp)
  c3 : w.cell? ⟨g, o + 3, none⟩ = some (.int .i64 x.bad)
theorem TCl.later {w w' : World} {g o : Nat} {s : Stp} (h : TCl w g o s) (hb : Below w.heap.size w w') : TCl w' g o s :=
  ⟨cellE hb h.c0, cellE hb h.c1, cellE hb h.c2, cellE hb h.c3⟩
theorem TCl.mv {w w' : World} {g o : Nat} {s : Stp} (h : TCl w g o s) (e : w'.heap[g]? = w.heap[g]?) : TCl w' g o s := by
  have f : ∀ k, w'.cell? ⟨g, k, none⟩ = w.cell? ⟨g, k, none⟩ := fun k => World.cell?_of_block (a := ⟨g, k, none⟩) e
  exact ⟨by rw [f]; exact h.c0, by rw [f]; exact h.c1, by rw [f]; exact h.c2, by rw [f]; exact h.c3⟩
/-- The slice's elements are these steps. -/
def StpSl (w : World) (v : Value) (l : List Stp) : Prop := ∃ a c, v = .slice a l.length c ∧ l.length ≤ c ∧ (l ≠ [] → ∃ g o, a = some ⟨g, o, none⟩ ∧ g < w.heap.size ∧ ∀ i s, l[i]? = some s → TCl w g (o + i * 4) s)
theorem StpSl.later {w w' : World} {v : Value} {l : List Stp} (h : StpSl w v l) (hb : Below w.heap.size w w') : StpSl w' v l := by
  obtain ⟨a, c, h1, h2, h3⟩ := h
  refine ⟨a, c, h1, h2, fun hne => ?_⟩
  obtain ⟨g, o, ha, hg, hc⟩ := h3 hne
  exact ⟨g, o, ha, Nat.lt_of_lt_of_le hg hb.size, fun i x hx => (hc i x hx).later hb⟩
theorem StpSl.shape {w : World} {v : Value} {l : List Stp} (h : StpSl w v l) : ∃ a c, v = .slice a l.length c := by
  obtain ⟨a, c, h1, _⟩ := h; exact ⟨a, c, h1⟩
theorem StpSl.get {w : World} {v : Value} {l : List Stp} (h : StpSl w v l) {i : Nat} {s : Stp} (hi : l[i]? = some s) : ∃ g o c, v = .slice (some ⟨g, o, none⟩) l.length c ∧ g < w.heap.size ∧ TCl w g (o + i * 4) s := by
  obtain ⟨a, c, h1, h2, h3⟩ := h
  obtain ⟨g, o, ha, hg, hc⟩ := h3 (fun e => by rw [e] at hi; cases hi)
  exact ⟨g, o, c, by rw [h1, ha], hg, hc i s hi⟩
section
variable {H : Type} {enc : TypeId × Value → H} {P : Program} {W W' : World}
theorem list_of {Q : Nat → Stp → Prop} (n : Nat) (h : ∀ i, i < n → ∃ x, Q i x) : ∃ E : List Stp, E.length = n ∧ ∀ i x, E[i]? = some x → Q i x := by
  induction n with
  | zero => exact ⟨[], rfl, fun i x hx => by simp at hx⟩
  | succ n ih =>
    obtain ⟨E, h1, h2⟩ := ih (fun i hi => h i (by omega))
    obtain ⟨y, hy⟩ := h n (Nat.lt_succ_self n)
    refine ⟨E ++ [y], by simp [h1], fun i x hx => ?_⟩
    rw [List.getElem?_append] at hx
    split at hx
    · exact h2 i x hx
    · rename_i hi
      have h3 : i - E.length < 1 := by simpa using (List.getElem?_eq_some_iff.1 hx).1
      obtain rfl : i = n := by omega
      rw [h1, Nat.sub_self] at hx
      obtain rfl : y = x := by simpa using hx
      exact hy

set_option maxRecDepth 100000 in
theorem open_steps {t e : TypeId} {f0 f1 f2 f3 : Field} {v : Value} {d : DataW H} {ps : List MemPlace} (ht : P.underlying t = some (.slice e)) (he : P.underlying e = some (.struct #[f0, f1, f2, f3]))
    (ce : P.cellsOf e = 4) (o0 : f0.offset = 0) (o1 : f1.offset = 1) (o2 : f2.offset = 2) (o3 : f3.offset = 3) (c0 : P.cellsOf f0.type = 1) (c1 : P.cellsOf f1.type = 1) (c2 : P.cellsOf f2.type = 1) (c3 : P.cellsOf f3.type = 1)
    (u0 : P.underlying f0.type = some .string) (u1 : P.underlying f1.type = some (.int .u64)) (u2 : P.underlying f2.type = some (.int .u64)) (u3 : P.underlying f3.type = some (.int .i64))
    (hv : ∃ a n c, v = .slice a n c) (h : DataW.Trod enc P W 0 (fun _ => true) true t v d ps) : ∃ L, StpSl W v L ∧ L.length ≤ maxLen ∧ ∀ x ∈ L, x.Fit := by
  obtain ⟨a0, n0, c00, rfl⟩ := hv
  obtain ⟨fuel, hf⟩ := h
  rcases open_slice ht hf with ⟨hcs, _⟩ | ⟨a, len, cap, m, n, D, Pl, hcs, _, hl, hm, hmm, _, hx⟩
  · simp [Value.cells] at hcs
    obtain ⟨rfl, rfl, rfl⟩ := hcs
    exact ⟨[], ⟨none, 0, rfl, Nat.le_refl _, fun h => absurd rfl h⟩, by simp, fun x hx => by cases hx⟩
  · simp [Value.cells] at hcs
    obtain ⟨rfl, rfl, rfl⟩ := hcs
    simp only [if_true] at hmm
    have each : ∀ i, i < n0 → ∃ x : Stp, x.Fit ∧ W.cell? (a.add (i * 4)) = some (.string x.root) ∧ W.cell? (a.add (i * 4 + 1)) = some (.int .u64 x.who) ∧ W.cell? (a.add (i * 4 + 2)) = some (.int .u64 x.stamp) ∧ W.cell? (a.add (i * 4 + 3)) = some (.int .i64 x.bad) := fun i hi => by
      obtain ⟨cs', h1, h2⟩ := hx i (by omega)
      rw [ce] at h1
      obtain ⟨_, hlen, hcell⟩ := World.cells?_some h1
      obtain ⟨xs, k, _, _, _, hxl, hfs⟩ := DataW.trod_struct he h2
      match xs, hxl, cs', hlen with
      | [y0, y1, y2, y3], _, [v0, v1, v2, v3], _ =>
        have g0 := hfs 0 f0 rfl
        have g1 := hfs 1 f1 rfl
        have g2 := hfs 2 f2 rfl
        have g3 := hfs 3 f3 rfl
        simp [o0, o1, o2, o3, c0, c1, c2, c3] at g0 g1 g2 g3
        have q0 := hcell 0 (by omega)
        have q1 := hcell 1 (by omega)
        have q2 := hcell 2 (by omega)
        have q3 := hcell 3 (by omega)
        rw [add_add] at q0 q1 q2 q3
        obtain ⟨s, e0, _, hs⟩ := DataW.trod_string u0 g0
        obtain ⟨a1, e1, _, w1⟩ := DataW.trod_int u1 g1
        obtain ⟨a2, e2, _, w2⟩ := DataW.trod_int u2 g2
        obtain ⟨a3, e3, _, w3⟩ := DataW.trod_int u3 g3
        obtain rfl : v0 = .string s := by simpa using e0
        obtain rfl : v1 = .int .u64 a1 := by simpa using e1
        obtain rfl : v2 = .int .u64 a2 := by simpa using e2
        obtain rfl : v3 = .int .i64 a3 := by simpa using e3
        simp [Lit.wf, IntKind.min, IntKind.max, IntKind.signed, IntKind.bits] at w1 w2 w3
        exact ⟨⟨s, a1, a2, a3⟩, ⟨hs, ⟨w1.1, by show a1 < _; omega⟩, ⟨w2.1, by show a2 < _; omega⟩, w3.1, by show a3 ≤ _; omega⟩, by simpa using q0, by simpa using q1, by simpa using q2, by simpa using q3⟩
    by_cases h0 : n0 = 0
    · subst h0
      exact ⟨[], ⟨some a, c00, rfl, Nat.zero_le _, fun h => absurd rfl h⟩, by simp, fun x hx => by cases hx⟩
    · obtain ⟨x0, _, z0, _⟩ := each 0 (by omega)
      obtain ⟨g, o, rfl⟩ := spot_of (by omega) z0
      obtain ⟨L, hL, hP⟩ := list_of (Q := fun i (x : Stp) => x.Fit ∧ TCl W g (o + i * 4) x) n0 (fun i hi => by
        obtain ⟨x, h1, h2, h3, h4, h5⟩ := each i hi
        rw [add_spot] at h2 h3 h4 h5
        exact ⟨x, h1, ⟨h2, by rw [Nat.add_assoc]; exact h3, by rw [Nat.add_assoc]; exact h4, by rw [Nat.add_assoc]; exact h5⟩⟩)
      rw [add_spot] at z0
      refine ⟨L, ⟨some ⟨g, o, none⟩, c00, by rw [hL], by omega, fun _ => ⟨g, o, rfl, World.block_lt_of_cell? W _ z0, fun i x hx => (hP i x hx).2⟩⟩, by omega, fun x hx => ?_⟩
      obtain ⟨i, hi⟩ := List.getElem?_of_mem hx
      exact (hP i x hi).1
set_option maxRecDepth 100000 in
theorem open_u8s2 {k e : TypeId} {base : Nat} {sp : Nat → Bool} {held : Bool} (hu : P.underlying k = some (.array 2 e)) (he : P.underlying e = some (.int .u8)) (hn : P.cellsOf k = 2) (hc : P.cellsOf e = 1) {r : Reach} {b0 : Nat} {v : Value} {d : DataW H} {ps : List MemPlace}
    (hval : Value.okWide P W r b0 k v) (hd : DataW.Trod enc P W base sp held k v d ps) :
    ∃ a b : Int, v = .agg #[.int .u8 a, .int .u8 b] ∧ d = .agg [.lit (.int .u8 a), .lit (.int .u8 b)] ∧ ps = [] ∧ (0 ≤ a ∧ a ≤ 255) ∧ (0 ≤ b ∧ b ≤ 255) := by
  simp only [Value.okWide, hu] at hval
  obtain ⟨cs, rfl, h2, _⟩ := hval
  obtain ⟨fuel, hf⟩ := hd
  cases fuel with
  | zero => simp [DataW.trod] at hf
  | succ m =>
    rw [DataW.trod_step] at hf
    unfold DataW.trodStep at hf
    simp only [hu, Value.cells] at hf
    rw [if_pos (by simpa using h2)] at hf
    simp only [Option.map_eq_some_iff] at hf
    obtain ⟨ys, hy, e1⟩ := hf
    rw [show List.range 2 = [0, 1] from rfl] at hy
    simp only [List.mapM_cons, List.mapM_nil, bind, Option.bind_eq_some_iff, pure, Option.some.injEq] at hy
    obtain ⟨y0, h0, _, ⟨y1, h1, _, rfl, rfl⟩, rfl⟩ := hy
    obtain ⟨s, es, rfl, hs⟩ := DataW.trod_int he h0
    obtain ⟨t, et, rfl, ht⟩ := DataW.trod_int he h1
    simp only [Prod.mk.injEq] at e1
    rw [hc] at es et
    have hlen : cs.toList.length = 2 := by
      have := h2
      simp [hn] at this
      simpa using this
    obtain ⟨a, b, hab⟩ : ∃ a b, cs.toList = [a, b] := by
      match hl : cs.toList, hlen with
      | [a, b], _ => exact ⟨a, b, rfl⟩
    rw [hab] at es et
    simp at es et
    subst es et
    simp [Lit.wf, IntKind.min, IntKind.max, IntKind.signed, IntKind.bits] at hs ht
    refine ⟨s, t, ?_, e1.1.symm, e1.2.symm, hs, ht⟩
    congr 1
    apply Array.toList_inj.1
    rw [hab]
end
section
variable {H : Type} {enc : TypeId × Value → H} {W : World}
/-- A signed header, handed in. -/
def SgAt (v : Value) : Prop := ∃ s, v = sgV s ∧ s.Fit
set_option maxRecDepth 100000 in
theorem open_signed {r : Reach} {base : Nat} {v : Value} {d : DataW H} {ps : List MemPlace}
    (hval : Value.okWide Tryd.prog W r base 35 v) (hd : DataW.Trod enc Tryd.prog W 0 (fun _ => true) true 35 v d ps) : SgAt v := by
  have hu := Tryd.underlying35
  simp only [Value.okWide, hu] at hval
  obtain ⟨cs, rfl, h2, _⟩ := hval
  have hn : Tryd.prog.cellsOf 35 = 7 := by kernel_rfl
  have hlen : cs.toList.length = 7 := by simpa [hn] using h2
  obtain ⟨fuel, hf⟩ := hd
  simp only [Value.cells] at hf
  match hl : cs.toList, hlen with
  | [a0, a1, a2, a3, a4, a5, a6], _ =>
    rw [hl] at hf
    obtain ⟨xs, k, _, _, _, hxl, hfs⟩ := DataW.trod_struct hu hf
    have kh : Tryd.prog.cellsOf 33 = 6 := by kernel_rfl
    have k2 : Tryd.prog.cellsOf 27 = 1 := by kernel_rfl
    have k5 : Tryd.prog.cellsOf 9 = 1 := by kernel_rfl
    match xs, hxl with
    | [y0, y1], _ =>
      have g0 := hfs 0 _ rfl
      have g1 := hfs 1 _ rfl
      simp [kh, k5] at g0 g1
      obtain ⟨zs, k', _, _, _, hzl, hfz⟩ := DataW.trod_struct Tryd.underlying33 g0
      match zs, hzl with
      | [z0, z1, z2, z3, z4, z5], _ =>
        have r0 := hfz 0 _ rfl
        have r1 := hfz 1 _ rfl
        have r2 := hfz 2 _ rfl
        have r3 := hfz 3 _ rfl
        have r4 := hfz 4 _ rfl
        have r5 := hfz 5 _ rfl
        simp [k2, k5] at r0 r1 r2 r3 r4 r5
        obtain ⟨i0, e0, _, w0⟩ := DataW.trod_int Tryd.underlying27 r0
        obtain ⟨i1, e1, _, w1⟩ := DataW.trod_int Tryd.underlying27 r1
        obtain ⟨s2, e2, _, hs2⟩ := DataW.trod_string Tryd.underlying9 r2
        obtain ⟨s3, e3, _, hs3⟩ := DataW.trod_string Tryd.underlying9 r3
        obtain ⟨i4, e4, _, w4⟩ := DataW.trod_int Tryd.underlying27 r4
        obtain ⟨i5, e5, _, w5⟩ := DataW.trod_int Tryd.underlying27 r5
        obtain ⟨s6, e6, _, hs6⟩ := DataW.trod_string Tryd.underlying9 g1
        obtain rfl : a0 = .int .u64 i0 := by simpa using e0
        obtain rfl : a1 = .int .u64 i1 := by simpa using e1
        obtain rfl : a2 = .string s2 := by simpa using e2
        obtain rfl : a3 = .string s3 := by simpa using e3
        obtain rfl : a4 = .int .u64 i4 := by simpa using e4
        obtain rfl : a5 = .int .u64 i5 := by simpa using e5
        obtain rfl : a6 = .string s6 := by simpa using e6
        simp [Lit.wf, IntKind.min, IntKind.max, IntKind.signed, IntKind.bits] at w0 w1 w4 w5
        refine ⟨⟨⟨i0, i1, s2, s3, i4, i5⟩, s6⟩, ?_, ⟨w0.1, by show i0 < _; omega⟩, ⟨w1.1, by show i1 < _; omega⟩, hs2, hs3, ⟨w4.1, by show i4 < _; omega⟩, ⟨w5.1, by show i5 < _; omega⟩, hs6⟩
        unfold sgV
        congr 1
        apply Array.toList_inj.1
        rw [hl]
end
end Go.Proofs.YtpkkdjmcabefbaaDoor
