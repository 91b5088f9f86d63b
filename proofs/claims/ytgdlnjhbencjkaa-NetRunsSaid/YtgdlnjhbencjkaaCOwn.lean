/- Slices of nodes that a call owns. -/
import Derived.Test.YtgdlnjhbencjkaaCMem
import Derived.Test.YtgdlnjhbencjkaaCSize
namespace Go.Proofs.Ytgdlnjhbencjkaa
open Go.RowKit

theorem Try.nodeSl : SlN Try.prog 74 76 (.agg #[.int .i64 0, .int .u64 0, .string ⟨#[]⟩, .slice none 0 0]) 4 56 := ⟨Try.underlying74, by kernel_rfl, rfl, by decide⟩

def F.app : F → F → F
  | .nil, h => h
  | .cons k n s c r, h => .cons k n s c (r.app h)
theorem F.app_nil : ∀ f : F, f.app .nil = f
  | .nil => rfl
  | .cons k n s c r => by rw [F.app, F.app_nil r]
theorem F.app_assoc : ∀ f g h : F, (f.app g).app h = f.app (g.app h)
  | .nil, _, _ => rfl
  | .cons k n s c r, g, h => by simp only [F.app]; rw [F.app_assoc r]
theorem F.app_len : ∀ f g : F, (f.app g).len = f.len + g.len
  | .nil, g => by simp [F.app, F.len]
  | .cons k n s c r, g => by simp only [F.app, F.len]; rw [F.app_len r]; omega

/-- The cells cs are the nodes f; kids' blocks are in S. -/
def CellsOf (w : World) (S : Nat → Prop) : F → List Value → Prop
  | .nil, cs => cs = []
  | .cons k n s c r, cs => ∃ v rest, cs = .int .i64 k :: .int .u64 n :: .string s :: v :: rest ∧ KidsAt w S c v ∧ CellsOf w S r rest
theorem CellsOf.mono {w w' : World} {S S' : Nat → Prop} (hS : ∀ b, S b → S' b ∧ w'.heap[b]? = w.heap[b]?) : ∀ (f : F) (cs : List Value), CellsOf w S f cs → CellsOf w' S' f cs
  | .nil, _, h => h
  | .cons k n s c r, cs, h => by
    obtain ⟨v, rest, e, hk, hr⟩ := h
    exact ⟨v, rest, e, hk.mono (fun b h => (hS b h).1) (fun b h => (hS b h).2), CellsOf.mono hS r rest hr⟩
theorem CellsOf.length {w : World} {S : Nat → Prop} : ∀ (f : F) (cs : List Value), CellsOf w S f cs → cs.length = f.len * 4
  | .nil, _, h => by rw [show _ = [] from h]; rfl
  | .cons k n s c r, cs, h => by
    obtain ⟨v, rest, e, hk, hr⟩ := h
    rw [e]; simp only [List.length_cons, F.len]; rw [CellsOf.length r rest hr]; omega
theorem CellsOf.snoc {w : World} {S : Nat → Prop} {k n : Int} {s : ByteArray} {c : F} {v : Value} (hk : KidsAt w S c v) : ∀ (f : F) (cs : List Value), CellsOf w S f cs → CellsOf w S (f.app (.cons k n s c .nil)) (cs ++ [.int .i64 k, .int .u64 n, .string s, v])
  | .nil, cs, h => by rw [show cs = [] from h]; exact ⟨v, [], rfl, hk, rfl⟩
  | .cons _ _ _ _ r, cs, h => by
    obtain ⟨v', rest, e, hk', hr⟩ := h
    exact ⟨v', _, by rw [e]; rfl, hk', CellsOf.snoc hk r rest hr⟩
theorem lies_of_cells {w : World} {S : Nat → Prop} {g : Nat} : ∀ (f : F) (o : Nat) (cs : List Value), (∀ j u, cs[j]? = some u → w.cell? ⟨g, o + j, none⟩ = some u) → CellsOf w S f cs → Lies w S f g o
  | .nil, _, _, _, _ => trivial
  | .cons k n s c r, o, cs, h, hc => by
    obtain ⟨v, rest, rfl, hk, hr⟩ := hc
    refine lies_cons.2 ⟨⟨v, ?_, ?_, ?_, ?_, hk⟩, lies_of_cells r (o + 4) rest (fun j u hu => ?_) hr⟩
    · simpa using h 0 _ rfl
    · exact h 1 _ rfl
    · exact h 2 _ rfl
    · exact h 3 _ rfl
    · have := h (j + 4) u (by simpa using hu)
      rwa [show o + (j + 4) = o + 4 + j by omega] at this

theorem ownN_mv {w w' : World} {B : Nat} {e : TypeId} {size n : Nat} {v : Value} {xs : List Value} (h : w.ownsRow B e size v n xs) (hb : ∀ k, v.ownBlock = some k → w'.heap[k]? = w.heap[k]?) : w'.ownsRow B e size v n xs := by
  refine ⟨h.1, ?_⟩
  rcases h.2 with h0 | ⟨g, cap, cur, hv, hB, hg, rest⟩
  · exact .inl h0
  · exact .inr ⟨g, cap, cur, hv, hB, by rw [hb g (by rw [hv]; rfl)]; exact hg, rest⟩
theorem ownN_base {w : World} {B B' : Nat} {e : TypeId} {size n : Nat} {v : Value} {xs : List Value} (h : w.ownsRow B e size v n xs) (hb : ∀ k, v.ownBlock = some k → B' ≤ k) : w.ownsRow B' e size v n xs := by
  refine ⟨h.1, ?_⟩
  rcases h.2 with h0 | ⟨g, cap, cur, hv, hB, hg, rest⟩
  · exact .inl h0
  · exact .inr ⟨g, cap, cur, hv, hb g (by rw [hv]; rfl), hg, rest⟩

theorem kids_of_own {w : World} {B : Nat} {e : TypeId} {S S' : Nat → Prop} {f : F} {v : Value} {cs : List Value} (h : w.ownsRow B e 4 v f.len cs) (hc : CellsOf w S f cs) (hS : ∀ b, S b → S' b) (hv : ∀ k, v.ownBlock = some k → S' k) : KidsAt w S' f v := by
  rcases h.2 with ⟨h0, h1⟩ | ⟨g, cap, cur, he, hB, hg, hn, hm, hs, ht⟩
  · exact .inl ⟨h0, h1⟩
  · refine .inr ⟨g, 0, cap, he, hv g (by rw [he]; rfl), ⟨_, _, hg⟩, hn, ?_⟩
    refine Lies.mono hS (fun _ _ => rfl) f g 0 rfl (lies_of_cells f 0 cs (fun j u hu => ?_) hc)
    have := h.cells (g := g) (by rw [he]; rfl) j u hu
    rw [Nat.zero_add]
    unfold Addr.add at this
    split at this
    · rename_i h0; subst h0; exact this
    · simpa using this

theorem setCell_ne (w : World) (g o : Nat) (x : Value) (b : Nat) (h : b ≠ g) : (w.setCell ⟨g, o, none⟩ x).heap[b]? = w.heap[b]? := Below.heap_setCell _ _ _ _ h
theorem grew_blocks {w w' : World} {v v' : Value} {B : Nat} (h : Grew w v w' v') (hB : B ≤ w.heap.size) (hv : ∀ k, v.ownBlock = some k → B ≤ k) {b : Nat} (hb : b < B) : w'.heap[b]? = w.heap[b]? := (h.below hB hv).block b hb
theorem size_setCell (w : World) (a : Addr) (x : Value) : (w.setCell a x).heap.size = w.heap.size := by simp [World.setCell]
theorem kids_set4 {w2 : World} {A B g0 : Nat} {f : F} {kv : Value} {o1 o2 o3 o4 : Nat} {x1 x2 x3 x4 : Value} (h : KidsAt w2 (fun g => A ≤ g ∧ g < w2.heap.size) f kv) (hg : g0 < A) (hB : B ≤ A) :
    KidsAt ((((w2.setCell ⟨g0, o1, none⟩ x1).setCell ⟨g0, o2, none⟩ x2).setCell ⟨g0, o3, none⟩ x3).setCell ⟨g0, o4, none⟩ x4) (fun g => B ≤ g ∧ g < ((((w2.setCell ⟨g0, o1, none⟩ x1).setCell ⟨g0, o2, none⟩ x2).setCell ⟨g0, o3, none⟩ x3).setCell ⟨g0, o4, none⟩ x4).heap.size) f kv := by
  refine h.mono (fun b hb => ⟨Nat.le_trans hB hb.1, by simp only [World.setCell, Array.size_modify]; exact hb.2⟩) (fun b hb => ?_)
  have hne : b ≠ g0 := by have := hb.1; omega
  rw [setCell_ne _ _ _ _ _ hne, setCell_ne _ _ _ _ _ hne, setCell_ne _ _ _ _ _ hne, setCell_ne _ _ _ _ _ hne]

end Go.Proofs.Ytgdlnjhbencjkaa
