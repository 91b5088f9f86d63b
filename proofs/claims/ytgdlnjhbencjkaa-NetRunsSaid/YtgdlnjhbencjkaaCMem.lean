/- How nodes lie in memory. -/
import Derived.Test.YtgdlnjhbencjkaaChecked
import Derived.Test.YtgdlnjhbencjkaaLib
import Derived.Test.YtgdlnjhbencjkaaCMath
import Derived.IntWalk
namespace Go.Proofs.Ytgdlnjhbencjkaa
open Go.RowKit

/-- Block g is of cells, none of them frozen. -/
def Unf (w : World) (g : Nat) : Prop := ∃ c t, w.heap[g]? = some (.cells c t (0, 0))
theorem Unf.of {w w' : World} {g : Nat} (h : Unf w g) (hb : w'.heap[g]? = w.heap[g]?) : Unf w' g := by obtain ⟨c, t, e⟩ := h; exact ⟨c, t, by rw [hb]; exact e⟩
/-- The nodes f lie, one behind the other, from the cell o of block g on; kids' blocks are in S. -/
def Lies (w : World) (S : Nat → Prop) : F → Nat → Nat → Prop
  | .nil, _, _ => True
  | .cons k n s c r, g, o => (w.cell? ⟨g, o, none⟩ = some (.int .i64 k) ∧ w.cell? ⟨g, o + 1, none⟩ = some (.int .u64 n) ∧ w.cell? ⟨g, o + 2, none⟩ = some (.string s) ∧
      ∃ v, w.cell? ⟨g, o + 3, none⟩ = some v ∧ ((v = .slice none 0 0 ∧ c.len = 0) ∨ ∃ g' o' cap, v = .slice (some ⟨g', o', none⟩) c.len cap ∧ S g' ∧ Unf w g' ∧ c.len ≤ cap ∧ Lies w S c g' o')) ∧ Lies w S r g (o + 4)
/-- The slice v is the nodes f. -/
def KidsAt (w : World) (S : Nat → Prop) (f : F) (v : Value) : Prop :=
  (v = .slice none 0 0 ∧ f.len = 0) ∨ ∃ g o cap, v = .slice (some ⟨g, o, none⟩) f.len cap ∧ S g ∧ Unf w g ∧ f.len ≤ cap ∧ Lies w S f g o

def nodeV (k n : Int) (s : ByteArray) (v : Value) : Value := .agg #[.int .i64 k, .int .u64 n, .string s, v]

theorem lies_cons {w : World} {S : Nat → Prop} {k n : Int} {s : ByteArray} {c r : F} {g o : Nat} : Lies w S (.cons k n s c r) g o ↔
    (∃ v, w.cell? ⟨g, o, none⟩ = some (.int .i64 k) ∧ w.cell? ⟨g, o + 1, none⟩ = some (.int .u64 n) ∧ w.cell? ⟨g, o + 2, none⟩ = some (.string s) ∧ w.cell? ⟨g, o + 3, none⟩ = some v ∧ KidsAt w S c v) ∧ Lies w S r g (o + 4) := by
  constructor
  · rintro ⟨⟨h1, h2, h3, v, h4, h5⟩, h6⟩; exact ⟨⟨v, h1, h2, h3, h4, h5⟩, h6⟩
  · rintro ⟨⟨v, h1, h2, h3, h4, h5⟩, h6⟩; exact ⟨⟨h1, h2, h3, v, h4, h5⟩, h6⟩

theorem Lies.mono {w w' : World} {S S' : Nat → Prop} (hS : ∀ b, S b → S' b) (hw : ∀ b, S b → w'.heap[b]? = w.heap[b]?) :
    ∀ (f : F) (g o : Nat), w'.heap[g]? = w.heap[g]? → Lies w S f g o → Lies w' S' f g o
  | .nil, _, _, _, _ => trivial
  | .cons k n s c r, g, o, hg, h => by
    obtain ⟨⟨h1, h2, h3, v, h4, h5⟩, h6⟩ := h
    have e : ∀ j, w'.cell? ⟨g, j, none⟩ = w.cell? ⟨g, j, none⟩ := fun j => World.cell?_of_block (a := ⟨g, j, none⟩) hg
    refine ⟨⟨by rw [e]; exact h1, by rw [e]; exact h2, by rw [e]; exact h3, v, by rw [e]; exact h4, ?_⟩, Lies.mono hS hw r g (o + 4) hg h6⟩
    rcases h5 with h5 | ⟨g', o', cap, hv, hs, hu, hcp, hl⟩
    · exact .inl h5
    · exact .inr ⟨g', o', cap, hv, hS _ hs, hu.of (hw _ hs), hcp, Lies.mono hS hw c g' o' (hw _ hs) hl⟩
theorem KidsAt.mono {w w' : World} {S S' : Nat → Prop} {f : F} {v : Value} (h : KidsAt w S f v) (hS : ∀ b, S b → S' b) (hw : ∀ b, S b → w'.heap[b]? = w.heap[b]?) : KidsAt w' S' f v := by
  rcases h with h | ⟨g, o, cap, hv, hs, hu, hcp, hl⟩
  · exact .inl h
  · exact .inr ⟨g, o, cap, hv, hS _ hs, hu.of (hw _ hs), hcp, Lies.mono hS hw f g o (hw _ hs) hl⟩
/-- Nothing below B has turned. -/
theorem KidsAt.below {w w' : World} {B : Nat} {f : F} {v : Value} (h : KidsAt w (· < B) f v) (hb : Below B w w') : KidsAt w' (· < B) f v := h.mono (fun _ h => h) (fun b h => hb.block b h)
theorem Lies.below {w w' : World} {B : Nat} {f : F} {g o : Nat} (h : Lies w (· < B) f g o) (hg : g < B) (hb : Below B w w') : Lies w' (· < B) f g o :=
  Lies.mono (fun _ h => h) (fun b h => hb.block b h) f g o (hb.block g hg) h
theorem KidsAt.up {w w' : World} {B B' : Nat} {f : F} {v : Value} (h : KidsAt w (· < B) f v) (hB : B ≤ B') (hb : Below B w w') : KidsAt w' (· < B') f v := h.mono (fun _ h => Nat.lt_of_lt_of_le h hB) (fun b h => hb.block b h)

theorem KidsAt.shape {w : World} {S : Nat → Prop} {f : F} {v : Value} (h : KidsAt w S f v) : ∃ a cap, v = .slice a f.len cap := by
  rcases h with ⟨hv, h0⟩ | ⟨g, o, cap, hv, _⟩
  · exact ⟨none, 0, by rw [hv, h0]⟩
  · exact ⟨_, cap, hv⟩
theorem KidsAt.nil (w : World) (S : Nat → Prop) : KidsAt w S .nil (.slice none 0 0) := .inl ⟨rfl, rfl⟩
theorem KidsAt.lies {w : World} {S : Nat → Prop} {f : F} {v : Value} (h : KidsAt w S f v) (h0 : 0 < f.len) : ∃ g o cap, v = .slice (some ⟨g, o, none⟩) f.len cap ∧ S g ∧ Lies w S f g o := by
  rcases h with ⟨_, h1⟩ | ⟨g, o, cap, hv, hs, _, _, hl⟩
  · omega
  · exact ⟨g, o, cap, hv, hs, hl⟩
theorem KidsAt.unf {w : World} {S : Nat → Prop} {f : F} {v : Value} (h : KidsAt w S f v) (h0 : 0 < f.len) : ∃ g o cap, v = .slice (some ⟨g, o, none⟩) f.len cap ∧ S g ∧ Unf w g ∧ Lies w S f g o := by
  rcases h with ⟨_, h1⟩ | ⟨g, o, cap, hv, hs, hu, _, hl⟩
  · omega
  · exact ⟨g, o, cap, hv, hs, hu, hl⟩
theorem KidsAt.full {w : World} {S : Nat → Prop} {f : F} {v : Value} (h : KidsAt w S f v) (h0 : 0 < f.len) : ∃ g o cap, v = .slice (some ⟨g, o, none⟩) f.len cap ∧ S g ∧ Unf w g ∧ f.len ≤ cap ∧ Lies w S f g o := by
  rcases h with ⟨_, h1⟩ | h
  · omega
  · exact h

/-- What stands from the place i on. -/
def F.drop : F → Nat → F
  | f, 0 => f
  | .nil, _ => .nil
  | .cons _ _ _ _ r, i + 1 => r.drop i
theorem F.drop_len : ∀ (f : F) (i : Nat), (f.drop i).len = f.len - i
  | f, 0 => by simp [F.drop]
  | .nil, i + 1 => by simp [F.drop, F.len]
  | .cons _ _ _ _ r, i + 1 => by simp only [F.drop, F.len]; rw [F.drop_len r i]; omega
theorem F.drop_nil (i : Nat) : F.nil.drop i = .nil := by cases i <;> rfl
theorem F.drop_at : ∀ (f : F) (i : Nat), i < f.len → ∃ k n s c, f.drop i = .cons k n s c (f.drop (i + 1))
  | .nil, i, h => by simp [F.len] at h
  | .cons k n s c r, 0, h => ⟨k, n, s, c, by simp [F.drop]⟩
  | .cons k n s c r, i + 1, h => by
    obtain ⟨k', n', s', c', e⟩ := F.drop_at r i (by simp [F.len] at h; omega)
    exact ⟨k', n', s', c', by simpa [F.drop] using e⟩
theorem Lies.drop {w : World} {S : Nat → Prop} : ∀ (i : Nat) (f : F) (g o : Nat), Lies w S f g o → Lies w S (f.drop i) g (o + i * 4)
  | 0, f, g, o, h => by simpa [F.drop] using h
  | i + 1, .nil, g, o, _ => by simp [F.drop_nil, Lies]
  | i + 1, .cons k n s c r, g, o, h => by
    have := Lies.drop i r g (o + 4) h.2
    rw [show o + 4 + i * 4 = o + (i + 1) * 4 by omega] at this
    simpa [F.drop] using this
theorem F.drop_deep : ∀ (f : F) (i : Nat), (f.drop i).deep ≤ f.deep
  | f, 0 => by simp [F.drop]
  | .nil, i + 1 => by simp [F.drop]
  | .cons _ _ _ _ r, i + 1 => by have := F.drop_deep r i; simp [F.drop, F.deep]; omega
theorem F.drop_ok : ∀ (f : F) (i : Nat), f.ok → (f.drop i).ok
  | f, 0, h => by simpa [F.drop] using h
  | .nil, i + 1, h => by simp [F.drop, F.ok]
  | .cons _ _ _ _ r, i + 1, h => F.drop_ok r i h.2.2.2.2
theorem F.drop_end (f : F) : f.drop f.len = .nil := F.len_zero (by rw [F.drop_len]; omega)
end Go.Proofs.Ytgdlnjhbencjkaa
