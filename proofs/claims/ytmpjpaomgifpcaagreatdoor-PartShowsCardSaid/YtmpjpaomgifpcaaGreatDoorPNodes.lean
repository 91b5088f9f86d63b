/- The reference's S, N, L; lists of nodes put together. -/
import Derived.Test.YtmpjpaomgifpcaaGreatDoorPSides
import Derived.Test.YtmpjpaomgifpcaaGreatDoorPShown
import Derived.Test.YtmpjpaomgifpcaaGreatDoorBRefF
import Derived.Test.YtmpjpaomgifpcaaGreatDoorBCodW
namespace Go.Proofs.YtmpjpaomgifpcaaGreatDoor
open Go.RowKit
open Cod (F Nd KidsAt Lies nodeV CellsOf)

theorem s_ref (s : ByteArray) (w : World) : Calls Tryz.prog 75 #[.string s] w fun e w' => e = .returned (.agg #[.int .i64 1, .int .u64 0, .string s, .slice none 0 0]) ∧ Below w.heap.size w w' := by
  go_enter Tryz.func75, Tryz.ntmps75
  go_wp2_with fail
  refine bodyPost_ret (v := .agg #[.int .i64 1, .int .u64 0, .string s, .slice none 0 0]) (by simp [results, Tryz.results75, go_sem]) rfl ⟨rfl, ?_⟩
  exact (Below.refl _ w).alloc (Nat.le_refl _) _
theorem n_ref (n : Int) (w : World) : Calls Tryz.prog 76 #[.int .u64 n] w fun e w' => e = .returned (.agg #[.int .i64 0, .int .u64 n, .string ⟨#[]⟩, .slice none 0 0]) ∧ Below w.heap.size w w' := by
  go_enter Tryz.func76, Tryz.ntmps76
  go_wp2_with fail
  refine bodyPost_ret (v := .agg #[.int .i64 0, .int .u64 n, .string ⟨#[]⟩, .slice none 0 0]) (by simp [results, Tryz.results76, go_sem]) rfl ⟨rfl, ?_⟩
  exact (Below.refl _ w).alloc (Nat.le_refl _) _
theorem l_ref (a : Option Addr) (n c : Nat) (w : World) : Calls Tryz.prog 38 #[.slice a n c] w fun e w' => e = .returned (.agg #[.int .i64 2, .int .u64 0, .string ⟨#[]⟩, .slice a n c]) ∧ Below w.heap.size w w' := by
  go_enter Tryz.func38, Tryz.ntmps38
  go_wp2_with fail
  refine bodyPost_ret (v := .agg #[.int .i64 2, .int .u64 0, .string ⟨#[]⟩, .slice a n c]) (by simp [results, Tryz.results38, go_sem]) rfl ⟨rfl, ?_⟩
  exact (Below.refl _ w).alloc (Nat.le_refl _) _

theorem CellsOf.app {w : World} {S : Nat → Prop} : ∀ (f g : F) (cs ds : List Value), CellsOf w S f cs → CellsOf w S g ds → CellsOf w S (f.app g) (cs ++ ds)
  | .nil, _, _, _, h, h2 => by rw [show _ = [] from h]; exact h2
  | .cons k n s c r, g, cs, ds, h, h2 => by
    obtain ⟨v, rest, e, hk, hr⟩ := h
    exact ⟨v, _, by rw [e]; rfl, hk, CellsOf.app r g rest ds hr h2⟩
theorem CellsOf.one {w : World} {S : Nat → Prop} : ∀ (f : F) (cs : List Value), CellsOf w S f cs → ∀ u ∈ cs, u.oneCell' = true
  | .nil, _, h, u, hu => by rw [show _ = [] from h] at hu; cases hu
  | .cons k n s c r, cs, h, u, hu => by
    obtain ⟨v, rest, e, hk, hr⟩ := h
    subst e
    simp only [List.mem_cons] at hu
    rcases hu with rfl | rfl | rfl | rfl | hu
    · rfl
    · rfl
    · rfl
    · obtain ⟨a, m, rfl⟩ := hk.shape; rfl
    · exact CellsOf.one r rest hr u hu
theorem NOwn.news {w : World} {B : Nat} {v : Value} {f : F} {cs : List Value} (h : w.ownsRow B 80 4 v f.len cs) : ∃ ad c, v = .slice ad f.len c ∧ (0 < f.len → ∃ g o, ad = some ⟨g, o, none⟩ ∧ ∀ j u, cs[j]? = some u → w.cell? ⟨g, o + j, none⟩ = some u) := by
  rcases h.2 with ⟨h1, h2⟩ | ⟨g, cap, cur, he, hB, hg, hn, hm, hs, ht⟩
  · exact ⟨none, 0, by rw [h1, h2], fun h => by omega⟩
  · refine ⟨_, cap, he, fun _ => ⟨g, 0, rfl, fun i u hi => ?_⟩⟩
    rw [Nat.zero_add]
    rw [← ht, List.getElem?_take] at hi
    split at hi
    · unfold World.cell?
      rw [hg]
      simpa using hi
    · cases hi
/-- append of a list of nodes that lies apart. -/
theorem list_appNN {ops : Array Oper} {rest : List Oper} {o : Oper} {a : Act} {w : World} {Q : Exit → Act → World → Prop} (hgd : o.guard = none) (s x : Operand)
    (ho : o.op = .call { callee := .builtin .append, args := #[s, x], argTypes := #[72, 72] })
    (B B' : Nat) (v v2 : Value) (f f2 : F) (hs : a.eval s = v) (hown : NOwn w B v f) (hx : a.eval x = v2) (hown2 : NOwn w B' v2 f2) (hBB : B ≤ B') (hsep : ∀ k, v.ownBlock = some k → k < B')
    (hl : f.len + f2.len ≤ 100000) (hbase : B ≤ w.heap.size)
    (h : ∀ v' w', NOwn w' B v' (f.app f2) → Grew w v w' v' → wpList Tryz.prog ops Q rest (a.put o.dst v') w') :
    wpList Tryz.prog ops Q (o :: rest) a w := by
  obtain ⟨cs, hw1, hw2⟩ := hown
  obtain ⟨ds, hd1, hd2⟩ := hown2
  obtain ⟨ad, c, rfl, hn⟩ := NOwn.news hd1
  refine list_appN2 Tryz.nodeSlM hgd s x ho B v f.len cs hs hw1 ad f2.len c ds hx (CellsOf.length f2 ds hd2) hn (CellsOf.one f2 ds hd2) (by unfold maxLen; omega) (by omega) hbase ?_
  intro v' w' h3 hg
  refine h v' w' ⟨cs ++ ds, by rw [Cod.F.app_len]; exact h3, CellsOf.app f f2 cs ds ?_ ?_⟩ hg
  · refine CellsOf.mono (fun b hb => ⟨⟨hb.1, Nat.lt_of_lt_of_le hb.2.1 hg.size, fun e => ?_⟩, hg.block hb.2.1 hb.2.2⟩) f cs hw2
    rcases hg.loc b e with h | h
    · exact hb.2.2 h
    · omega
  · have key : ∀ b, (B' ≤ b ∧ b < w.heap.size ∧ (Value.slice ad f2.len c).ownBlock ≠ some b) → v.ownBlock ≠ some b := fun b hb e => by have := hsep b e; omega
    refine CellsOf.mono (fun b hb => ⟨⟨Nat.le_trans hBB hb.1, Nat.lt_of_lt_of_le hb.2.1 hg.size, fun e => ?_⟩, hg.block hb.2.1 (key b hb)⟩) f2 ds hd2
    rcases hg.loc b e with h | h
    · exact key b hb h
    · omega
/-- One node in a block of its own. -/
theorem NOwn.one {w : World} {B : Nat} (hB : B ≤ w.heap.size) (k n : Int) (s : ByteArray) (a : Option Addr) (m cp : Nat) (c : F) (hk : KidsAt w (fun b => B ≤ b ∧ b < w.heap.size) c (.slice a m cp)) :
    NOwn (w.alloc (.cells #[.int .i64 k, .int .u64 n, .string s, .slice a m cp] 80)) B (.slice (some ⟨w.heap.size, 0, none⟩) 1 1) (.cons k n s c .nil) := by
  refine ⟨[.int .i64 k, .int .u64 n, .string s, .slice a m cp], World.ownsRow_lit w #[.int .i64 k, .int .u64 n, .string s, .slice a m cp] 1 hB (by decide) (by simp), _, [], rfl, ?_, rfl⟩
  refine hk.mono (fun b hb => ⟨hb.1, by simp; omega, fun e => ?_⟩) (fun b hb => Below.heap_alloc _ _ _ hb.2)
  have : w.heap.size = b := by simpa [Value.ownBlock] using e
  omega
end Go.Proofs.YtmpjpaomgifpcaaGreatDoor
