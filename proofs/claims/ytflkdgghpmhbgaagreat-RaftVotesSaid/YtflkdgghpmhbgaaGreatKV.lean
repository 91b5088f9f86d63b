/- raft: arguments: entries, messages, acts. -/
import Derived.Test.YtflkdgghpmhbgaaGreatArgs
import Derived.Test.YtflkdgghpmhbgaaGreatKP
import Derived.ChangeMaps5
import Derived.Deep.Slices
namespace Go.Proofs.YtflkdgghpmhbgaaGreat
open Go.ChangeShapes Go.WideShapes Go.RowKit Go.Deep

/-- The numbers of a message lie where Go's do. -/
structure WfMsg (m : Mg) : Prop where
  k0 : -9223372036854775808 ≤ m.kind ∧ m.kind ≤ 9223372036854775807
  s0 : -9223372036854775808 ≤ m.src ∧ m.src ≤ 9223372036854775807
  d0 : -9223372036854775808 ≤ m.dst ∧ m.dst ≤ 9223372036854775807
  t0 : m.term < 18446744073709551616
  i0 : m.index < 18446744073709551616
  l0 : m.lterm < 18446744073709551616
  c0 : m.commit < 18446744073709551616
  e0 : ∀ y ∈ m.ents, y.1 < 18446744073709551616
section
variable {H : Type} {enc : TypeId × Value → H} {P : Program} {W W' : World}
theorem list_of {Q : Nat → Ent → Prop} (n : Nat) (h : ∀ i, i < n → ∃ x, Q i x) : ∃ E : List Ent, E.length = n ∧ ∀ i x, E[i]? = some x → Q i x := by
  induction n with
  | zero => exact ⟨[], rfl, fun i x hx => by simp at hx⟩
  | succ n ih =>
    obtain ⟨E, h1, h2⟩ := ih (fun i hi => h i (by omega))
    obtain ⟨y, hy⟩ := h n (Nat.lt_succ_self n)
    refine ⟨E ++ [y], by simp [h1], fun i x hx => ?_⟩
    rw [List.getElem?_append] at hx
    split at hx
    · exact h2 i x hx
    · rename_i hi
      have h3 : i - E.length < 1 := by simpa using (List.getElem?_eq_some_iff.1 hx).1
      obtain rfl : i = n := by omega
      rw [h1, Nat.sub_self] at hx
      obtain rfl : y = x := by simpa using hx
      exact hy
theorem open_entsL {t e : TypeId} {f0 f1 : Field} {v : Value} {x : DataW H × List MemPlace} {fuel : Nat} (ht : P.underlying t = some (.slice e)) (he : P.underlying e = some (.struct #[f0, f1]))
    (ce : P.cellsOf e = 2) (o0 : f0.offset = 0) (o1 : f1.offset = 1) (c0 : P.cellsOf f0.type = 1) (c1 : P.cellsOf f1.type = 1)
    (u0 : P.underlying f0.type = some (.int .u64)) (u1 : P.underlying f1.type = some .string)
    (hf : DataW.trod enc P W 0 (fun _ => true) true fuel t [v] = some x) : ∃ E, ESl W v E ∧ ∀ y ∈ E, y.1 < 18446744073709551616 := by
  rcases open_slice ht hf with ⟨hcs, _⟩ | ⟨a, len, cap, m, n, D, Pl, hcs, _, hl, hm, hmm, _, hx⟩
  · obtain rfl : v = .slice none 0 0 := by simpa using hcs
    exact ⟨[], ⟨none, 0, rfl, Nat.le_refl _, fun h => absurd rfl h⟩, (fun x hx => by cases hx)⟩
  · obtain rfl : v = .slice (some a) len cap := by simpa using hcs
    simp only [if_true] at hmm
    have each : ∀ i, i < len → ∃ x : Ent, x.1 < 18446744073709551616 ∧ W.cell? (a.add (i * 2)) = some (.int .u64 (x.1 : Int)) ∧ W.cell? (a.add (i * 2 + 1)) = some (.string x.2) := fun i hi => by
      obtain ⟨cs', h1, h2⟩ := hx i (by omega)
      rw [ce] at h1
      obtain ⟨_, hlen, hcell⟩ := World.cells?_some h1
      obtain ⟨xs, k, _, _, _, hxl, hfs⟩ := DataW.trod_struct he h2
      match xs, hxl, cs', hlen with
      | [y0, y1], _, [v0, v1], _ =>
        have g0 := hfs 0 f0 rfl
        have g1 := hfs 1 f1 rfl
        simp [o0, o1, c0, c1] at g0 g1
        have q0 := hcell 0 (by omega)
        have q1 := hcell 1 (by omega)
        rw [add_add] at q0 q1
        obtain ⟨y, e1, _, w1⟩ := DataW.trod_int u0 g0
        obtain ⟨s, e2, _, hs⟩ := DataW.trod_string u1 g1
        obtain rfl : v0 = .int .u64 y := by simpa using e1
        obtain rfl : v1 = .string s := by simpa using e2
        have hy : 0 ≤ y ∧ y ≤ 18446744073709551615 := by simpa [Lit.wf, IntKind.min, IntKind.max, IntKind.signed, IntKind.bits] using w1
        have hyn : ((y.toNat : Nat) : Int) = y := by omega
        exact ⟨(y.toNat, s), by simp only; omega, by rw [hyn]; simpa using q0, by simpa using q1⟩
    obtain ⟨E, hE, hq⟩ := list_of len each
    subst hE
    refine ⟨E, ⟨_, _, rfl, by omega, fun hne => ?_⟩, fun x hx => ?_⟩
    · have hpos : 0 < E.length := by cases E with
        | nil => exact absurd rfl hne
        | cons _ _ => simp
      obtain ⟨_, _, z0, _⟩ := each 0 hpos
      obtain ⟨g, o, rfl⟩ := spot_of (by omega) z0
      refine ⟨g, o, rfl, ?_, fun i x hx => ?_⟩
      · rw [add_spot] at z0
        exact World.block_lt_of_cell? W _ z0
      · obtain ⟨_, h1, h2⟩ := hq i x hx
        rw [add_spot] at h1 h2
        exact ⟨h1, h2⟩
    · obtain ⟨i, hi, e⟩ := List.getElem_of_mem hx
      exact (hq i x (by rw [List.getElem?_eq_getElem hi, e])).1
theorem bool_of {t : TypeId} {c : Value} {x : DataW H × List MemPlace} {fuel : Nat} (ht : P.underlying t = some .bool) (hf : DataW.trod enc P W 0 (fun _ => true) true fuel t [c] = some x) : ∃ b, c = .bool b := by
  obtain ⟨b, e, _⟩ := DataW.trod_bool ht hf
  exact ⟨b, by simpa using e⟩
/-- Ten cells that read as a message. -/
theorem open_msgL {c0 c1 c2 c3 c4 c5 c6 c7 c8 c9 : Value} {x : DataW H × List MemPlace} {fuel : Nat} (hf : DataW.trod enc Tryz.prog W 0 (fun _ => true) true fuel 40 [c0, c1, c2, c3, c4, c5, c6, c7, c8, c9] = some x) :
    ∃ m ev, [c0, c1, c2, c3, c4, c5, c6, c7, c8, c9] = mgL m ev ∧ ESl W ev m.ents ∧ WfMsg m := by
  obtain ⟨xs, k, _, _, _, hxl, hfs⟩ := DataW.trod_struct Tryz.underlying40 hf
  have k1 : Tryz.prog.cellsOf 3 = 1 := by kernel_rfl
  have k2 : Tryz.prog.cellsOf 37 = 1 := by kernel_rfl
  have k3 : Tryz.prog.cellsOf 4 = 1 := by kernel_rfl
  have k4 : Tryz.prog.cellsOf 38 = 1 := by kernel_rfl
  have k5 : Tryz.prog.cellsOf 9 = 1 := by kernel_rfl
  match xs, hxl with
  | [y0, y1, y2, y3, y4, y5, y6, y7, y8, y9], _ =>
    have g0 := hfs 0 _ rfl
    have g1 := hfs 1 _ rfl
    have g2 := hfs 2 _ rfl
    have g3 := hfs 3 _ rfl
    have g4 := hfs 4 _ rfl
    have g5 := hfs 5 _ rfl
    have g6 := hfs 6 _ rfl
    have g7 := hfs 7 _ rfl
    have g8 := hfs 8 _ rfl
    have g9 := hfs 9 _ rfl
    simp [k1, k2, k3, k4, k5] at g0 g1 g2 g3 g4 g5 g6 g7 g8 g9
    obtain ⟨a0, e0, _, w0⟩ := DataW.trod_int Tryz.underlying3 g0
    obtain ⟨a1, e1, _, w1⟩ := DataW.trod_int Tryz.underlying3 g1
    obtain ⟨a2, e2, _, w2⟩ := DataW.trod_int Tryz.underlying3 g2
    obtain ⟨a3, e3, _, w3⟩ := DataW.trod_int Tryz.underlying37 g3
    obtain ⟨a4, e4, _, w4⟩ := DataW.trod_int Tryz.underlying37 g4
    obtain ⟨a5, e5, _, w5⟩ := DataW.trod_int Tryz.underlying37 g5
    obtain ⟨a6, e6, _, w6⟩ := DataW.trod_int Tryz.underlying37 g6
    obtain ⟨a7, e7⟩ := bool_of Tryz.underlying4 g7
    obtain ⟨E, hE, hEo⟩ := open_entsL Tryz.underlying38 Tryz.underlying70 (by kernel_rfl) rfl rfl (by kernel_rfl) (by kernel_rfl) Tryz.underlying37 Tryz.underlying9 g8
    obtain ⟨s, e9, _, hs⟩ := DataW.trod_string Tryz.underlying9 g9
    obtain rfl : c0 = .int .i64 a0 := by simpa using e0
    obtain rfl : c1 = .int .i64 a1 := by simpa using e1
    obtain rfl : c2 = .int .i64 a2 := by simpa using e2
    obtain rfl : c3 = .int .u64 a3 := by simpa using e3
    obtain rfl : c4 = .int .u64 a4 := by simpa using e4
    obtain rfl : c5 = .int .u64 a5 := by simpa using e5
    obtain rfl : c6 = .int .u64 a6 := by simpa using e6
    obtain rfl : c9 = .string s := by simpa using e9
    subst e7
    simp [Lit.wf, IntKind.min, IntKind.max, IntKind.signed, IntKind.bits] at w0 w1 w2 w3 w4 w5 w6
    refine ⟨⟨a0, a1, a2, a3.toNat, a4.toNat, a5.toNat, a6.toNat, a7, E, s⟩, c8, ?_, hE, ⟨by simp only; omega, by simp only; omega, by simp only; omega, by simp only; omega, by simp only; omega, by simp only; omega, by simp only; omega, hEo⟩⟩
    simp only [mgL, Int.toNat_of_nonneg w3.1, Int.toNat_of_nonneg w4.1, Int.toNat_of_nonneg w5.1, Int.toNat_of_nonneg w6.1]
end
/-- An act: what, how often, the message, the slice of its entries, near, the index, the text. -/
abbrev Ac := Int × Int × Mg × Value × Bool × Nat × ByteArray
def acC (x : Ac) : List Value := .int .i64 x.1 :: .int .i64 x.2.1 :: (mgL x.2.2.1 x.2.2.2.1 ++ [.bool x.2.2.2.2.1, .int .u64 (x.2.2.2.2.2.1 : Int), .string x.2.2.2.2.2.2])
/-- The numbers of an act lie where Go's do. -/
def WfA (x : Ac) : Prop := WfMsg x.2.2.1 ∧ (-9223372036854775808 ≤ x.2.1 ∧ x.2.1 ≤ 9223372036854775807) ∧ x.2.2.2.2.2.1 < 18446744073709551616
/-- The slice's elements are these acts. -/
def ASl (w : World) (v : Value) (A : List Ac) : Prop := ∃ a c, v = .slice a A.length c ∧ A.length ≤ maxLen ∧ (∀ x ∈ A, ESl w x.2.2.2.1 x.2.2.1.ents ∧ WfA x) ∧
  (A ≠ [] → ∃ g o, a = some ⟨g, o, none⟩ ∧ g < w.heap.size ∧ ∀ i x, A[i]? = some x → ∀ j u, (acC x)[j]? = some u → w.cell? ⟨g, o + i * 15 + j, none⟩ = some u)
section
variable {H : Type} {enc : TypeId × Value → H} {W : World}
theorem list_ofA {Q : Nat → Ac → Prop} (n : Nat) (h : ∀ i, i < n → ∃ x, Q i x) : ∃ E : List Ac, E.length = n ∧ ∀ i x, E[i]? = some x → Q i x := by
  induction n with
  | zero => exact ⟨[], rfl, fun i x hx => by simp at hx⟩
  | succ n ih =>
    obtain ⟨E, h1, h2⟩ := ih (fun i hi => h i (by omega))
    obtain ⟨y, hy⟩ := h n (Nat.lt_succ_self n)
    refine ⟨E ++ [y], by simp [h1], fun i x hx => ?_⟩
    rw [List.getElem?_append] at hx
    split at hx
    · exact h2 i x hx
    · rename_i hi
      have h3 : i - E.length < 1 := by simpa using (List.getElem?_eq_some_iff.1 hx).1
      obtain rfl : i = n := by omega
      rw [h1, Nat.sub_self] at hx
      obtain rfl : y = x := by simpa using hx
      exact hy
set_option maxRecDepth 100000 in
/-- Fifteen cells that read as an act. -/
theorem open_actL {cs : List Value} {x : DataW H × List MemPlace} {fuel : Nat} (hcs : cs.length = 15) (hf : DataW.trod enc Tryz.prog W 0 (fun _ => true) true fuel 42 cs = some x) :
    ∃ y : Ac, cs = acC y ∧ ESl W y.2.2.2.1 y.2.2.1.ents ∧ WfA y := by
  obtain ⟨xs, k, _, _, _, hxl, hfs⟩ := DataW.trod_struct Tryz.underlying42 hf
  have k1 : Tryz.prog.cellsOf 3 = 1 := by kernel_rfl
  have k2 : Tryz.prog.cellsOf 40 = 10 := by kernel_rfl
  have k3 : Tryz.prog.cellsOf 4 = 1 := by kernel_rfl
  have k4 : Tryz.prog.cellsOf 37 = 1 := by kernel_rfl
  have k5 : Tryz.prog.cellsOf 9 = 1 := by kernel_rfl
  match cs, hcs, xs, hxl with
  | [v0, v1, c0, c1, c2, c3, c4, c5, c6, c7, c8, c9, b3, b4, b5], _, [y0, y1, y2, y3, y4, y5], _ =>
    have g0 := hfs 0 _ rfl
    have g1 := hfs 1 _ rfl
    have g2 := hfs 2 _ rfl
    have g3 := hfs 3 _ rfl
    have g4 := hfs 4 _ rfl
    have g5 := hfs 5 _ rfl
    simp [k1, k2, k3, k4, k5] at g0 g1 g2 g3 g4 g5
    obtain ⟨a0, e0, _, _⟩ := DataW.trod_int Tryz.underlying3 g0
    obtain ⟨a1, e1, _, w1⟩ := DataW.trod_int Tryz.underlying3 g1
    obtain ⟨a3, rfl⟩ := bool_of Tryz.underlying4 g3
    obtain ⟨a4, e4, _, w4⟩ := DataW.trod_int Tryz.underlying37 g4
    obtain ⟨a5, e5, _, _⟩ := DataW.trod_string Tryz.underlying9 g5
    obtain rfl : b4 = .int .u64 a4 := by simpa using e4
    obtain rfl : b5 = .string a5 := by simpa using e5
    simp [Lit.wf, IntKind.min, IntKind.max, IntKind.signed, IntKind.bits] at w1 w4
    obtain rfl : v0 = .int .i64 a0 := by simpa using e0
    obtain rfl : v1 = .int .i64 a1 := by simpa using e1
    obtain ⟨m, ev, e2, hE, hW⟩ := open_msgL g2
    exact ⟨(a0, a1, m, ev, a3, a4.toNat, a5), by unfold acC; rw [← e2]; simp only [List.cons_append, List.nil_append, Int.toNat_of_nonneg w4.1], hE, hW, by simp only; omega, by simp only; omega⟩
theorem open_acts {v : Value} {d : DataW H} {ps : List MemPlace} (hv : ∃ a n c, v = .slice a n c) (h : DataW.Trod enc Tryz.prog W 0 (fun _ => true) true 22 v d ps) : ∃ A, ASl W v A := by
  obtain ⟨a0, n0, c0, rfl⟩ := hv
  obtain ⟨fuel, hf⟩ := h
  rcases open_slice Tryz.underlying22 hf with ⟨hcs, _⟩ | ⟨a, len, cap, m, n, D, Pl, hcs, _, hl, hm, hmm, _, hx⟩
  · simp [Value.cells] at hcs
    obtain ⟨rfl, rfl, rfl⟩ := hcs
    exact ⟨[], none, 0, rfl, Nat.zero_le _, (fun x hx => by cases hx), fun h => absurd rfl h⟩
  · simp [Value.cells] at hcs
    obtain ⟨rfl, rfl, rfl⟩ := hcs
    simp only [if_true] at hmm
    have hk : Tryz.prog.cellsOf 42 = 15 := by kernel_rfl
    have each : ∀ i, i < n0 → ∃ y : Ac, (ESl W y.2.2.2.1 y.2.2.1.ents ∧ WfA y) ∧ ∀ j u, (acC y)[j]? = some u → W.cell? (a.add (i * 15 + j)) = some u := fun i hi => by
      obtain ⟨cs', h1, h2⟩ := hx i (by omega)
      rw [hk] at h1
      obtain ⟨_, hlen, hcell⟩ := World.cells?_some h1
      obtain ⟨y, rfl, hE, hW⟩ := open_actL hlen h2
      refine ⟨y, ⟨hE, hW⟩, fun j u hu => ?_⟩
      have hj := (List.getElem?_eq_some_iff.1 hu).1
      have q0 := hcell j (by omega)
      rw [add_add] at q0
      rw [q0]
      exact hu
    obtain ⟨A, hA, hq⟩ := list_ofA n0 each
    subst hA
    refine ⟨A, _, _, rfl, by omega, fun x hx => ?_, fun hne => ?_⟩
    · obtain ⟨i, hi, e⟩ := List.getElem_of_mem hx
      exact (hq i x (by rw [List.getElem?_eq_getElem hi, e])).1
    · have hpos : 0 < A.length := by cases A with
        | nil => exact absurd rfl hne
        | cons _ _ => simp
      obtain ⟨y, _, z0⟩ := each 0 hpos
      have z1 := z0 0 _ rfl
      obtain ⟨g, o, rfl⟩ := spot_of (by omega) z1
      refine ⟨g, o, rfl, ?_, fun i x hx j u hu => ?_⟩
      · rw [add_spot] at z1
        exact World.block_lt_of_cell? W _ z1
      · have h1 := (hq i x hx).2 j u hu
        rw [add_spot] at h1
        rw [Nat.add_assoc]; exact h1
end
end Go.Proofs.YtflkdgghpmhbgaaGreat
