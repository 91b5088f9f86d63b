/- Messages in slices. -/
import Derived.Test.YtgdlnjhbencjkaaNAt
namespace Go.Proofs.Ytgdlnjhbencjkaa
open Go.RowKit

theorem toList_inj {a b : ByteArray} (h : a.toList = b.toList) : a = b := by
  rw [ByteArray.toList_eq, ByteArray.toList_eq] at h
  exact ByteArray.ext (Array.toList_inj.1 h)
/-- A message lies at that place. -/
structure MCl (w : World) (g o : Nat) (m : Mg) (ev : Value) : Prop where
  c0 : w.cell? ⟨g, o, none⟩ = some (.int .i64 m.kind)
  c1 : w.cell? ⟨g, o + 1, none⟩ = some (.int .i64 m.src)
  c2 : w.cell? ⟨g, o + 2, none⟩ = some (.int .i64 m.dst)
  c3 : w.cell? ⟨g, o + 3, none⟩ = some (.int .u64 (m.term : Int))
  c4 : w.cell? ⟨g, o + 4, none⟩ = some (.int .u64 (m.index : Int))
  c5 : w.cell? ⟨g, o + 5, none⟩ = some (.int .u64 (m.lterm : Int))
  c6 : w.cell? ⟨g, o + 6, none⟩ = some (.int .u64 (m.commit : Int))
  c7 : w.cell? ⟨g, o + 7, none⟩ = some (.bool m.ok)
  c8 : w.cell? ⟨g, o + 8, none⟩ = some (ev)
  c9 : w.cell? ⟨g, o + 9, none⟩ = some (.string m.state)
/-- The slice's elements are these messages. -/
def MSl (w : World) (v : Value) (l : List Mg) : Prop := (v = .slice none 0 0 ∧ l = []) ∨ ∃ g c, v = .slice (some ⟨g, 0, none⟩) l.length c ∧ g < w.heap.size ∧ ∀ i m, l[i]? = some m → ∃ ev, MCl w g (i * 10) m ev ∧ ESl w ev m.ents
theorem MCl.later {w w' : World} {g o : Nat} {m : Mg} {ev : Value} (h : MCl w g o m ev) (hb : Below w.heap.size w w') : MCl w' g o m ev :=
  ⟨cellB hb h.c0, cellB hb h.c1, cellB hb h.c2, cellB hb h.c3, cellB hb h.c4, cellB hb h.c5, cellB hb h.c6, cellB hb h.c7, cellB hb h.c8, cellB hb h.c9⟩
theorem MCl.ofBlock {w : World} {g : Nat} {m : Mg} {ev : Value} {ty : TypeId} (h : w.heap[g]? = some (.cells (mgL m ev).toArray ty (0, 0))) : MCl w g 0 m ev := by
  obtain ⟨c0, c1, c2, c3, c4, c5, c6, c7, c8, c9⟩ := cells10 h
  exact ⟨c0, c1, c2, c3, c4, c5, c6, c7, c8, c9⟩
theorem MSl.later {w w' : World} {v : Value} {l : List Mg} (h : MSl w v l) (hb : Below w.heap.size w w') : MSl w' v l := by
  rcases h with h | ⟨g, c, h1, h2, h3⟩
  · exact .inl h
  · exact .inr ⟨g, c, h1, Nat.lt_of_lt_of_le h2 hb.size, fun i m hm => by obtain ⟨ev, e1, e2⟩ := h3 i m hm; exact ⟨ev, e1.later hb, e2.later hb⟩⟩
theorem MSl.one {w : World} {g : Nat} {m : Mg} {ev : Value} {ty : TypeId} (h : w.heap[g]? = some (.cells (mgL m ev).toArray ty (0, 0))) (he : ESl w ev m.ents) (c : Nat) : MSl w (.slice (some ⟨g, 0, none⟩) 1 c) [m] :=
  .inr ⟨g, c, rfl, block_lt h, fun i m' hm => by
    cases i with
    | zero => obtain rfl : m = m' := by simpa using hm
              exact ⟨ev, by simpa using MCl.ofBlock h, he⟩
    | succ i => simp at hm⟩
theorem MSl.shape {w : World} {v : Value} {l : List Mg} (h : MSl w v l) : ∃ a c, v = .slice a l.length c := by
  rcases h with ⟨rfl, rfl⟩ | ⟨g, c, rfl, _⟩
  · exact ⟨_, _, rfl⟩
  · exact ⟨_, _, rfl⟩

end Go.Proofs.Ytgdlnjhbencjkaa
