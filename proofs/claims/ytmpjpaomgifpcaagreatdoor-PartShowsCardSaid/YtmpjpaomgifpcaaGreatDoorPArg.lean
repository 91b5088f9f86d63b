/- Arguments of the law: what is asked. -/
import Derived.Test.YtmpjpaomgifpcaaGreatDoorPKeys
import Derived.Test.YtmpjpaomgifpcaaGreatDoorBRefA
import Derived.ChangeSame
namespace Go.Proofs.YtmpjpaomgifpcaaGreatDoor
open Go.ChangeShapes Go.WideShapes Go.RowKit Go.Deep

section
variable {H : Type} {enc : TypeId × Value → H} {P : Program} {W W' : World}

theorem open_texts {t e : TypeId} {fuel : Nat} {cs : List Value} {x : DataW H × List MemPlace} (ht : P.underlying t = some (.slice e)) (he : P.underlying e = some .string) (ce : P.cellsOf e = 1)
    (h : DataW.trod enc P W 0 (fun _ => true) true fuel t cs = some x) : ∃ v K, cs = [v] ∧ K.length ≤ maxLen ∧ (∀ s ∈ K, s.size ≤ maxLen) ∧ StrSl W v K := by
  rcases open_slice ht h with ⟨hcs, _⟩ | ⟨a, len, cap, m, n, D, Pl, hcs, _, hl, hm, hmm, _, hx⟩
  · exact ⟨_, [], hcs, by simp, by simp, none, 0, rfl, fun h => absurd rfl h⟩
  · simp only [if_true] at hmm
    have each : ∀ i, i < len → ∃ s : ByteArray, s.size ≤ maxLen ∧ W.cell? (a.add i) = some (.string s) := fun i hi => by
      obtain ⟨cs', h1, h2⟩ := hx i (by omega)
      rw [ce] at h1
      obtain ⟨_, hlen, hcell⟩ := World.cells?_some h1
      obtain ⟨s, e0, _, hs⟩ := DataW.trod_string he h2
      have q0 := hcell 0 (by omega)
      subst e0
      exact ⟨s, hs, by simpa [Nat.mul_one, Addr.add] using q0⟩
    by_cases h0 : len = 0
    · subst h0
      exact ⟨_, [], hcs, by simp, by simp, some a, cap, rfl, fun h => absurd rfl h⟩
    · obtain ⟨s0, _, z0⟩ := each 0 (by omega)
      obtain ⟨g, o, rfl⟩ := spot_of rfl z0
      obtain ⟨K, hK, hP⟩ := list_of (fun i (s : ByteArray) => s.size ≤ maxLen ∧ W.cell? ⟨g, o + i, none⟩ = some (.string s)) len (fun i hi => by
        obtain ⟨s, h1, h2⟩ := each i hi
        rw [add_spot] at h2
        exact ⟨s, h1, h2⟩)
      rw [add_spot] at z0
      refine ⟨_, K, hcs, by omega, fun s hs => ?_, some ⟨g, o, none⟩, cap, by rw [hK], fun _ => ⟨g, o, rfl, World.block_lt_of_cell? W _ z0, fun i x hx => (hP i x hx).2⟩⟩
      obtain ⟨i, hi⟩ := List.getElem?_of_mem hs
      exact (hP i s hi).1

theorem open_asks {t e : TypeId} {f0 f1 : Field} {fuel : Nat} {cs : List Value} {x : DataW H × List MemPlace} (ht : P.underlying t = some (.slice e)) (he : P.underlying e = some (.struct #[f0, f1])) (ce : P.cellsOf e = 2)
    (o0 : f0.offset = 0) (o1 : f1.offset = 1) (c0 : P.cellsOf f0.type = 1) (c1 : P.cellsOf f1.type = 1) (u0 : P.underlying f0.type = some .string) (u1 : P.underlying f1.type = some (.int .i64))
    (h : DataW.trod enc P W 0 (fun _ => true) true fuel t cs = some x) : ∃ v U, cs = [v] ∧ U.length ≤ maxLen ∧ (∀ s ∈ U, s.1.size ≤ maxLen) ∧ ASl W v U := by
  rcases open_slice ht h with ⟨hcs, _⟩ | ⟨a, len, cap, m, n, D, Pl, hcs, _, hl, hm, hmm, _, hx⟩
  · exact ⟨_, [], hcs, by simp, by simp, none, 0, rfl, Nat.le_refl _, fun h => absurd rfl h⟩
  · simp only [if_true] at hmm
    have each : ∀ i, i < len → ∃ (s : ByteArray) (y : Int), s.size ≤ maxLen ∧ W.cell? (a.add (i * 2)) = some (.string s) ∧ W.cell? (a.add (i * 2 + 1)) = some (.int .i64 y) := fun i hi => by
      obtain ⟨cs', h1, h2⟩ := hx i (by omega)
      rw [ce] at h1
      obtain ⟨_, hlen, hcell⟩ := World.cells?_some h1
      obtain ⟨y0, y1, n, _, _, g0, g1⟩ := trod_struct2 he h2
      match cs', hlen with
      | [v0, v1], _ =>
        simp [o0, o1, c0, c1] at g0 g1
        have q0 := hcell 0 (by omega)
        have q1 := hcell 1 (by omega)
        rw [add_add] at q0 q1
        obtain ⟨s, e0, _, hs⟩ := DataW.trod_string u0 g0
        obtain ⟨y, e1, _, _⟩ := DataW.trod_int u1 g1
        obtain rfl : v0 = .string s := by simpa using e0
        obtain rfl : v1 = .int .i64 y := by simpa using e1
        exact ⟨s, y, hs, by simpa using q0, by simpa using q1⟩
    by_cases h0 : len = 0
    · subst h0
      exact ⟨_, [], hcs, by simp, by simp, some a, cap, rfl, Nat.zero_le _, fun h => absurd rfl h⟩
    · obtain ⟨s0, _, _, z0, _⟩ := each 0 (by omega)
      obtain ⟨g, o, rfl⟩ := spot_of (by omega) z0
      obtain ⟨U, hU, hP⟩ := list_of (fun i (x : AI) => x.1.size ≤ maxLen ∧ W.cell? ⟨g, o + i * 2, none⟩ = some (.string x.1) ∧ W.cell? ⟨g, o + i * 2 + 1, none⟩ = some (.int .i64 x.2)) len (fun i hi => by
        obtain ⟨s, y, h1, h2, h3⟩ := each i hi
        rw [add_spot] at h2 h3
        exact ⟨(s, y), h1, h2, by rw [Nat.add_assoc]; exact h3⟩)
      rw [add_spot] at z0
      refine ⟨_, U, hcs, by omega, fun s hs => ?_, some ⟨g, o, none⟩, cap, by rw [hU], by omega, fun _ => ⟨g, o, rfl, World.block_lt_of_cell? W _ z0, fun i x hx => (hP i x hx).2⟩⟩
      obtain ⟨i, hi⟩ := List.getElem?_of_mem hs
      exact (hP i s hi).1

/-- What is asked, handed in. -/
def AskAt (w : World) (v : Value) : Prop := ∃ K U kv uv, v = .agg #[kv, uv] ∧ K.length ≤ maxLen ∧ U.length ≤ maxLen ∧ (∀ x ∈ K, x.size ≤ maxLen) ∧ (∀ x ∈ U, x.1.size ≤ maxLen) ∧ StrSl w kv K ∧ ASl w uv U
theorem open_asked {t t0 t1 e0 e1 : TypeId} {F0 F1 f0 f1 : Field} {base : Nat} {r : Reach} {v : Value} {d : DataW H} {ps : List MemPlace} (hu : P.underlying t = some (.struct #[F0, F1])) (hn : P.cellsOf t = 2) (p0 : F0.offset = 0) (p1 : F1.offset = 1)
    (b0 : P.cellsOf F0.type = 1) (b1 : P.cellsOf F1.type = 1) (w0 : F0.type = t0) (w1 : F1.type = t1) (ht0 : P.underlying t0 = some (.slice e0)) (he0 : P.underlying e0 = some .string) (ce0 : P.cellsOf e0 = 1)
    (ht : P.underlying t1 = some (.slice e1)) (he : P.underlying e1 = some (.struct #[f0, f1])) (ce : P.cellsOf e1 = 2)
    (o0 : f0.offset = 0) (o1 : f1.offset = 1) (c0 : P.cellsOf f0.type = 1) (c1 : P.cellsOf f1.type = 1) (u0 : P.underlying f0.type = some .string) (u1 : P.underlying f1.type = some (.int .i64))
    (hval : Value.okWide P W r base t v) (hd : DataW.Trod enc P W 0 (fun _ => true) true t v d ps) : AskAt W v := by
  simp only [Value.okWide, hu] at hval
  obtain ⟨cs, rfl, h2, _⟩ := hval
  obtain ⟨fuel, hf⟩ := hd
  obtain ⟨y0, y1, n, _, hl, g0, g1⟩ := trod_struct2 hu hf
  have hlen : cs.toList.length = 2 := by simpa [hn] using h2
  obtain ⟨a, b, hab⟩ : ∃ a b, cs.toList = [a, b] := by
    match hl : cs.toList, hlen with
    | [a, b], _ => exact ⟨a, b, rfl⟩
  simp only [Value.cells] at g0 g1
  rw [hab, p0, b0, w0] at g0
  rw [hab, p1, b1, w1] at g1
  obtain ⟨kv, K, ek, hK, hKs, hks⟩ := open_texts ht0 he0 ce0 g0
  obtain ⟨uv, U, eu, hU, hUs, hus⟩ := open_asks ht he ce o0 o1 c0 c1 u0 u1 g1
  obtain rfl : a = kv := by simpa using ek
  obtain rfl : b = uv := by simpa using eu
  refine ⟨K, U, a, b, ?_, hK, hU, hKs, hUs, hks, hus⟩
  congr 1
  apply Array.toList_inj.1
  rw [hab]
end
end Go.Proofs.YtmpjpaomgifpcaaGreatDoor
