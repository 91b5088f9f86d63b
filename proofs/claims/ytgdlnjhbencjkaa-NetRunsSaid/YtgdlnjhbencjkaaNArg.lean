/- net: arguments: entries, messages. -/
import Derived.Test.YtgdlnjhbencjkaaArgs
import Derived.Test.YtgdlnjhbencjkaaNLawB
import Derived.ChangeMaps5
import Derived.Deep.Slices
namespace Go.Proofs.Ytgdlnjhbencjkaa
open Go.ChangeShapes Go.WideShapes Go.RowKit Go.Deep

section
variable {H : Type} {enc : TypeId × Value → H} {P : Program} {W W' : World}
theorem list_of {Q : Nat → Ent → Prop} (n : Nat) (h : ∀ i, i < n → ∃ x, Q i x) : ∃ E : List Ent, E.length = n ∧ ∀ i x, E[i]? = some x → Q i x := by
  induction n with
  | zero => exact ⟨[], rfl, fun i x hx => by simp at hx⟩
  | succ n ih =>
    obtain ⟨E, h1, h2⟩ := ih (fun i hi => h i (by omega))
    obtain ⟨y, hy⟩ := h n (Nat.lt_succ_self n)
    refine ⟨E ++ [y], by simp [h1], fun i x hx => ?_⟩
    rw [List.getElem?_append] at hx
    split at hx
    · exact h2 i x hx
    · rename_i hi
      have h3 : i - E.length < 1 := by simpa using (List.getElem?_eq_some_iff.1 hx).1
      obtain rfl : i = n := by omega
      rw [h1, Nat.sub_self] at hx
      obtain rfl : y = x := by simpa using hx
      exact hy
theorem open_entsL {t e : TypeId} {f0 f1 : Field} {v : Value} {x : DataW H × List MemPlace} {fuel : Nat} (ht : P.underlying t = some (.slice e)) (he : P.underlying e = some (.struct #[f0, f1]))
    (ce : P.cellsOf e = 2) (o0 : f0.offset = 0) (o1 : f1.offset = 1) (c0 : P.cellsOf f0.type = 1) (c1 : P.cellsOf f1.type = 1)
    (u0 : P.underlying f0.type = some (.int .u64)) (u1 : P.underlying f1.type = some .string)
    (hf : DataW.trod enc P W 0 (fun _ => true) true fuel t [v] = some x) : ∃ E, ESl W v E ∧ ∀ y ∈ E, y.1 < 18446744073709551616 := by
  rcases open_slice ht hf with ⟨hcs, _⟩ | ⟨a, len, cap, m, n, D, Pl, hcs, _, hl, hm, hmm, _, hx⟩
  · obtain rfl : v = .slice none 0 0 := by simpa using hcs
    exact ⟨[], ⟨none, 0, rfl, Nat.le_refl _, fun h => absurd rfl h⟩, (fun x hx => by cases hx)⟩
  · obtain rfl : v = .slice (some a) len cap := by simpa using hcs
    simp only [if_true] at hmm
    have each : ∀ i, i < len → ∃ x : Ent, x.1 < 18446744073709551616 ∧ W.cell? (a.add (i * 2)) = some (.int .u64 (x.1 : Int)) ∧ W.cell? (a.add (i * 2 + 1)) = some (.string x.2) := fun i hi => by
      obtain ⟨cs', h1, h2⟩ := hx i (by omega)
      rw [ce] at h1
      obtain ⟨_, hlen, hcell⟩ := World.cells?_some h1
      obtain ⟨xs, k, _, _, _, hxl, hfs⟩ := DataW.trod_struct he h2
      match xs, hxl, cs', hlen with
      | [y0, y1], _, [v0, v1], _ =>
        have g0 := hfs 0 f0 rfl
        have g1 := hfs 1 f1 rfl
        simp [o0, o1, c0, c1] at g0 g1
        have q0 := hcell 0 (by omega)
        have q1 := hcell 1 (by omega)
        rw [add_add] at q0 q1
        obtain ⟨y, e1, _, w1⟩ := DataW.trod_int u0 g0
        obtain ⟨s, e2, _, hs⟩ := DataW.trod_string u1 g1
        obtain rfl : v0 = .int .u64 y := by simpa using e1
        obtain rfl : v1 = .string s := by simpa using e2
        have hy : 0 ≤ y ∧ y ≤ 18446744073709551615 := by simpa [Lit.wf, IntKind.min, IntKind.max, IntKind.signed, IntKind.bits] using w1
        have hyn : ((y.toNat : Nat) : Int) = y := by omega
        exact ⟨(y.toNat, s), by simp only; omega, by rw [hyn]; simpa using q0, by simpa using q1⟩
    obtain ⟨E, hE, hq⟩ := list_of len each
    subst hE
    refine ⟨E, ⟨_, _, rfl, by omega, fun hne => ?_⟩, fun x hx => ?_⟩
    · have hpos : 0 < E.length := by cases E with
        | nil => exact absurd rfl hne
        | cons _ _ => simp
      obtain ⟨_, _, z0, _⟩ := each 0 hpos
      obtain ⟨g, o, rfl⟩ := spot_of (by omega) z0
      refine ⟨g, o, rfl, ?_, fun i x hx => ?_⟩
      · rw [add_spot] at z0
        exact World.block_lt_of_cell? W _ z0
      · obtain ⟨_, h1, h2⟩ := hq i x hx
        rw [add_spot] at h1 h2
        exact ⟨h1, h2⟩
    · obtain ⟨i, hi, e⟩ := List.getElem_of_mem hx
      exact (hq i x (by rw [List.getElem?_eq_getElem hi, e])).1
theorem bool_of {t : TypeId} {c : Value} {x : DataW H × List MemPlace} {fuel : Nat} (ht : P.underlying t = some .bool) (hf : DataW.trod enc P W 0 (fun _ => true) true fuel t [c] = some x) : ∃ b, c = .bool b := by
  obtain ⟨b, e, _⟩ := DataW.trod_bool ht hf
  exact ⟨b, by simpa using e⟩
/-- Ten cells that read as a message. -/
theorem open_msgL {c0 c1 c2 c3 c4 c5 c6 c7 c8 c9 : Value} {x : DataW H × List MemPlace} {fuel : Nat} (hf : DataW.trod enc Try.prog W 0 (fun _ => true) true fuel 32 [c0, c1, c2, c3, c4, c5, c6, c7, c8, c9] = some x) :
    ∃ m ev, [c0, c1, c2, c3, c4, c5, c6, c7, c8, c9] = mgL m ev ∧ ESl W ev m.ents ∧ WfMsg m := by
  obtain ⟨xs, k, _, _, _, hxl, hfs⟩ := DataW.trod_struct Try.underlying32 hf
  have k1 : Try.prog.cellsOf 3 = 1 := by kernel_rfl
  have k2 : Try.prog.cellsOf 27 = 1 := by kernel_rfl
  have k3 : Try.prog.cellsOf 4 = 1 := by kernel_rfl
  have k4 : Try.prog.cellsOf 30 = 1 := by kernel_rfl
  have k5 : Try.prog.cellsOf 9 = 1 := by kernel_rfl
  match xs, hxl with
  | [y0, y1, y2, y3, y4, y5, y6, y7, y8, y9], _ =>
    have g0 := hfs 0 _ rfl
    have g1 := hfs 1 _ rfl
    have g2 := hfs 2 _ rfl
    have g3 := hfs 3 _ rfl
    have g4 := hfs 4 _ rfl
    have g5 := hfs 5 _ rfl
    have g6 := hfs 6 _ rfl
    have g7 := hfs 7 _ rfl
    have g8 := hfs 8 _ rfl
    have g9 := hfs 9 _ rfl
    simp [k1, k2, k3, k4, k5] at g0 g1 g2 g3 g4 g5 g6 g7 g8 g9
    obtain ⟨a0, e0, _, w0⟩ := DataW.trod_int Try.underlying3 g0
    obtain ⟨a1, e1, _, w1⟩ := DataW.trod_int Try.underlying3 g1
    obtain ⟨a2, e2, _, w2⟩ := DataW.trod_int Try.underlying3 g2
    obtain ⟨a3, e3, _, w3⟩ := DataW.trod_int Try.underlying27 g3
    obtain ⟨a4, e4, _, w4⟩ := DataW.trod_int Try.underlying27 g4
    obtain ⟨a5, e5, _, w5⟩ := DataW.trod_int Try.underlying27 g5
    obtain ⟨a6, e6, _, w6⟩ := DataW.trod_int Try.underlying27 g6
    obtain ⟨a7, e7⟩ := bool_of Try.underlying4 g7
    obtain ⟨E, hE, hEo⟩ := open_entsL Try.underlying30 Try.underlying60 (by kernel_rfl) rfl rfl (by kernel_rfl) (by kernel_rfl) Try.underlying27 Try.underlying9 g8
    obtain ⟨s, e9, _, hs⟩ := DataW.trod_string Try.underlying9 g9
    obtain rfl : c0 = .int .i64 a0 := by simpa using e0
    obtain rfl : c1 = .int .i64 a1 := by simpa using e1
    obtain rfl : c2 = .int .i64 a2 := by simpa using e2
    obtain rfl : c3 = .int .u64 a3 := by simpa using e3
    obtain rfl : c4 = .int .u64 a4 := by simpa using e4
    obtain rfl : c5 = .int .u64 a5 := by simpa using e5
    obtain rfl : c6 = .int .u64 a6 := by simpa using e6
    obtain rfl : c9 = .string s := by simpa using e9
    subst e7
    simp [Lit.wf, IntKind.min, IntKind.max, IntKind.signed, IntKind.bits] at w0 w1 w2 w3 w4 w5 w6
    refine ⟨⟨a0, a1, a2, a3.toNat, a4.toNat, a5.toNat, a6.toNat, a7, E, s⟩, c8, ?_, hE, ⟨by simp only; omega, by simp only; omega, by simp only; omega, by simp only; omega, by simp only; omega, by simp only; omega, by simp only; omega, hEo⟩⟩
    simp only [mgL, Int.toNat_of_nonneg w3.1, Int.toNat_of_nonneg w4.1, Int.toNat_of_nonneg w5.1, Int.toNat_of_nonneg w6.1]
theorem open_msg {v : Value} {d : DataW H} {ps : List MemPlace} (hv : ∃ cs, v = .agg cs ∧ cs.size = Try.prog.cellsOf 32) (h : DataW.Trod enc Try.prog W 0 (fun _ => true) true 32 v d ps) :
    ∃ m ev, v = .agg (mgL m ev).toArray ∧ ESl W ev m.ents ∧ WfMsg m := by
  obtain ⟨cs, rfl, hcs⟩ := hv
  have hk : Try.prog.cellsOf 32 = 10 := by kernel_rfl
  rw [hk] at hcs
  obtain ⟨fuel, hf⟩ := h
  have hl : cs.toList.length = 10 := by simpa using hcs
  match hc : cs.toList, hl with
  | [c0, c1, c2, c3, c4, c5, c6, c7, c8, c9], _ =>
    have e : cs = [c0, c1, c2, c3, c4, c5, c6, c7, c8, c9].toArray := by rw [← hc]
    have hf2 : DataW.trod enc Try.prog W 0 (fun _ => true) true fuel 32 [c0, c1, c2, c3, c4, c5, c6, c7, c8, c9] = some (d, ps) := by
      rw [← hc]; simpa [Value.cells] using hf
    obtain ⟨m, ev, h1, h2, h3⟩ := open_msgL hf2
    exact ⟨m, ev, by rw [e, h1], h2, h3⟩
end
end Go.Proofs.Ytgdlnjhbencjkaa
