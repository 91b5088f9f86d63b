/- Tree's stack: pushing a node, opening one, shutting one. -/
import Derived.Test.YtaojcbdljgcfgaaCTr
namespace Go.Proofs.Ytaojcbdljgcfgaa
open Go.RowKit

def stWt : List (Value × F) → Nat
  | [] => 0
  | p :: r => 1024 + p.2.wt + stWt r
def stNok : List (Value × F) → Prop
  | [] => True
  | p :: r => p.2.nok ∧ stNok r
theorem set4_app (a b c d z0 z1 z2 z3 : Value) : ∀ (cs : List Value), (((((cs ++ [z0, z1, z2, z3]).set cs.length a).set (cs.length + 1) b).set (cs.length + 2) c).set (cs.length + 3) d) = cs ++ [a, b, c, d]
  | [] => rfl
  | x :: r => by
    have := set4_app a b c d z0 z1 z2 z3 r
    simp only [List.cons_append, List.length_cons, List.set_cons_succ, show r.length + 1 + 1 = (r.length + 1) + 1 from rfl, show r.length + 1 + 2 = (r.length + 2) + 1 from rfl, show r.length + 1 + 3 = (r.length + 3) + 1 from rfl]
    rw [this]
def set4 (w : World) (g i : Nat) (a b c d : Value) : World := (((w.setCell ⟨g, i, none⟩ a).setCell ⟨g, i + 1, none⟩ b).setCell ⟨g, i + 2, none⟩ c).setCell ⟨g, i + 3, none⟩ d
theorem set4_size (w : World) (g i : Nat) (a b c d : Value) : (set4 w g i a b c d).heap.size = w.heap.size := by simp only [set4, size_setCell]
theorem set4_ne (w : World) (g i : Nat) (a b c d : Value) (k : Nat) (h : k ≠ g) : (set4 w g i a b c d).heap[k]? = w.heap[k]? := by
  unfold set4; rw [setCell_ne _ _ _ _ _ h, setCell_ne _ _ _ _ _ h, setCell_ne _ _ _ _ _ h, setCell_ne _ _ _ _ _ h]
theorem own_set4 {w : World} {A : Nat} {e : TypeId} {g n cap i : Nat} {cs : List Value} {z0 z1 z2 z3 : Value} (h : w.ownsRow A e 4 (.slice (some ⟨g, 0, none⟩) n cap) n (cs ++ [z0, z1, z2, z3])) (hl : cs.length = i) (a b c d : Value) :
    (set4 w g i a b c d).ownsRow A e 4 (.slice (some ⟨g, 0, none⟩) n cap) n (cs ++ [a, b, c, d]) := by
  subst hl
  have := own_set (own_set (own_set (own_set h cs.length a) (cs.length + 1) b) (cs.length + 2) c) (cs.length + 3) d
  rw [set4_app] at this
  exact this
theorem stCells_set (v' : Value) (f' : F) : ∀ (ws : List (Value × F)) (p : Value × F), (stCells (ws ++ [p])).set (ws.length * 4 + 3) v' = stCells (ws ++ [(v', f')])
  | [], p => rfl
  | q :: r, p => by
    have := stCells_set v' f' r p
    simp only [List.cons_append, stCells, List.length_cons, show (r.length + 1) * 4 + 3 = (r.length * 4 + 3) + 1 + 1 + 1 + 1 by omega, List.set_cons_succ]
    rw [this]

/-- A node goes behind the top's kids. -/
theorem st_push {w w1 w2 : World} {A g4 go capo g cap : Nat} {ws : List (Value × F)} {v : Value} {f : F} {col : Nat → Nat} {cs : List Value} {z0 z1 z2 z3 : Value} {k n : Int} {s : ByteArray} {c : F} {kv : Value}
    (hst : St w A g4 (ws ++ [(v, f)]) (.slice (some ⟨go, 0, none⟩) (ws.length + 1) capo) col) (hcs : CellsOf w (fun b => A ≤ b ∧ b < w.heap.size ∧ col b = 2 * ws.length + 3) f cs) (hvc : ∀ k, v.ownBlock = some k → col k = 2 * ws.length + 2)
    (hb : Below w.heap.size w w1) (hg : Grew w1 v w2 (.slice (some ⟨g, 0, none⟩) (f.len + 1) cap)) (hown : w2.ownsRow A 27 4 (.slice (some ⟨g, 0, none⟩) (f.len + 1) cap) (f.len + 1) (cs ++ [z0, z1, z2, z3]))
    (hk : KidsAt w (fun b => A ≤ b ∧ b < w.heap.size ∧ col b = 2 * ws.length + 3) c kv) :
    ∃ col', St ((set4 w2 g (f.len * 4) (.int .i64 k) (.int .u64 n) (.string s) kv).setCell ⟨go, ws.length * 4 + 3, none⟩ (.slice (some ⟨g, 0, none⟩) (f.len + 1) cap)) A g4
      (ws ++ [(.slice (some ⟨g, 0, none⟩) (f.len + 1) cap, f.app (.cons k n s c .nil))]) (.slice (some ⟨go, 0, none⟩) (ws.length + 1) capo) col' := by
  obtain ⟨h1, h2, h3, h4, h5, h6⟩ := hst
  have hgo := h3 go rfl
  have hgol := World.ownsRow.lt h2 go rfl
  have hgl := World.ownsRow.lt hown g rfl
  have hs1 := hb.size
  have hs2 := hg.size
  have hcg : g < w.heap.size → col g = 2 * ws.length + 2 := fun h => by
    rcases hg.loc g rfl with h7 | h7
    · exact hvc g h7
    · omega
  have hgne : ∀ b, b < w.heap.size → col b ≠ 2 * ws.length + 2 → b ≠ g := fun b hb h e => by subst e; exact h (hcg hb)
  have hold : ∀ b, b < w.heap.size → col b ≠ 2 * ws.length + 2 → b ≠ go → ((set4 w2 g (f.len * 4) (.int .i64 k) (.int .u64 n) (.string s) kv).setCell ⟨go, ws.length * 4 + 3, none⟩ (.slice (some ⟨g, 0, none⟩) (f.len + 1) cap)).heap[b]? = w.heap[b]? := fun b hb1 hb2 hb3 => by
    rw [setCell_ne _ _ _ _ _ hb3, set4_ne _ _ _ _ _ _ _ _ (hgne b hb1 hb2), hg.block (by omega) (fun e => hb2 (hvc b e)), hb.block b hb1]
  have hgog : go ≠ g := hgne go hgol.2 (by omega)
  have hsz : w.heap.size ≤ ((set4 w2 g (f.len * 4) (.int .i64 k) (.int .u64 n) (.string s) kv).setCell ⟨go, ws.length * 4 + 3, none⟩ (.slice (some ⟨g, 0, none⟩) (f.len + 1) cap)).heap.size := by rw [size_setCell, set4_size]; omega
  refine ⟨fun b => if b = g then 2 * ws.length + 2 else col b, ?_, ?_, ?_, ?_, ?_, by omega⟩
  · rw [hold g4 h6 (by omega) (fun e => by rw [e] at h5; omega)]; exact h1
  · have hm : (set4 w2 g (f.len * 4) (.int .i64 k) (.int .u64 n) (.string s) kv).ownsRow A 27 4 (.slice (some ⟨go, 0, none⟩) (ws.length + 1) capo) (ws.length + 1) (stCells (ws ++ [(v, f)])) := by
      have h2' : w.ownsRow A 27 4 (.slice (some ⟨go, 0, none⟩) (ws.length + 1) capo) (ws.length + 1) (stCells (ws ++ [(v, f)])) := by simpa using h2
      refine ownN_mv h2' (fun b hb1 => ?_)
      obtain rfl : go = b := by simpa [Value.ownBlock] using hb1
      rw [set4_ne _ _ _ _ _ _ _ _ hgog, hg.block (by omega) (fun e => by have := hvc _ e; omega), hb.block _ hgol.2]
    have := own_set hm (ws.length * 4 + 3) (.slice (some ⟨g, 0, none⟩) (f.len + 1) cap)
    rw [stCells_set _ (f.app (.cons k n s c .nil))] at this
    simpa using this
  · intro b hb1
    obtain rfl : go = b := by simpa [Value.ownBlock] using hb1
    exact (if_neg hgog).trans hgo
  · intro j p hp
    rw [List.getElem?_append] at hp
    split at hp
    · rename_i hj
      refine openAt_keep (h4 j p (by rw [List.getElem?_append_left hj]; exact hp)) hsz (fun b hb1 hb2 hb3 => ?_)
      have hne : col b ≠ 2 * ws.length + 2 := by omega
      refine ⟨hold b hb2 hne (fun e => by rw [e] at hb3; omega), if_neg (hgne b hb2 hne)⟩
    · rename_i hj
      obtain ⟨rfl, rfl⟩ : j = ws.length ∧ p = (.slice (some ⟨g, 0, none⟩) (f.len + 1) cap, f.app (.cons k n s c .nil)) := by
        have : j - ws.length = 0 := by
          by_cases h0 : j - ws.length = 0
          · exact h0
          · rw [List.getElem?_eq_none (by simp; omega)] at hp; cases hp
        rw [this] at hp
        exact ⟨by omega, by simpa using hp.symm⟩
      have hmono : ∀ b, (A ≤ b ∧ b < w.heap.size ∧ col b = 2 * ws.length + 3) → (A ≤ b ∧ b < ((set4 w2 g (f.len * 4) (.int .i64 k) (.int .u64 n) (.string s) kv).setCell ⟨go, ws.length * 4 + 3, none⟩ (.slice (some ⟨g, 0, none⟩) (f.len + 1) cap)).heap.size ∧ (if b = g then 2 * ws.length + 2 else col b) = 2 * ws.length + 3) ∧
          ((set4 w2 g (f.len * 4) (.int .i64 k) (.int .u64 n) (.string s) kv).setCell ⟨go, ws.length * 4 + 3, none⟩ (.slice (some ⟨g, 0, none⟩) (f.len + 1) cap)).heap[b]? = w.heap[b]? := fun b hb1 => by
        refine ⟨⟨hb1.1, by omega, by rw [if_neg (hgne b hb1.2.1 (by omega))]; exact hb1.2.2⟩, hold b hb1.2.1 (by omega) (fun e => by have := hb1.2.2; rw [e] at this; omega)⟩
      refine ⟨cs ++ [.int .i64 k, .int .u64 n, .string s, kv], ?_, CellsOf.snoc (hk.mono (fun b hb1 => (hmono b hb1).1) (fun b hb1 => (hmono b hb1).2)) f cs (CellsOf.mono hmono f cs hcs), ?_⟩
      · have hl := CellsOf.length f cs hcs
        have := own_set4 hown hl (.int .i64 k) (.int .u64 n) (.string s) kv
        rw [F.app_len]
        refine ownN_mv this (fun b hb1 => ?_)
        obtain rfl : g = b := by simpa [Value.ownBlock] using hb1
        exact setCell_ne _ _ _ _ _ (Ne.symm hgog)
      · intro b hb1
        obtain rfl : g = b := by simpa [Value.ownBlock] using hb1
        exact if_pos rfl
  · show (if g4 = g then _ else col g4) = 0
    rw [if_neg (hgne g4 h6 (by omega))]; exact h5

/-- A node is opened. -/
theorem st_open {w w1 w2 : World} {A g4 go capo go2 cap2 : Nat} {vs : List (Value × F)} {col : Nat → Nat} {z0 z1 z2 z3 : Value}
    (hst : St w A g4 vs (.slice (some ⟨go, 0, none⟩) vs.length capo) col)
    (hb : Below w.heap.size w w1) (hg : Grew w1 (.slice (some ⟨go, 0, none⟩) vs.length capo) w2 (.slice (some ⟨go2, 0, none⟩) (vs.length + 1) cap2))
    (hown : w2.ownsRow A 27 4 (.slice (some ⟨go2, 0, none⟩) (vs.length + 1) cap2) (vs.length + 1) (stCells vs ++ [z0, z1, z2, z3])) :
    ∃ col', St ((set4 w2 go2 (vs.length * 4) (.int .i64 2) (.int .u64 0) (.string ⟨#[]⟩) (.slice none 0 0)).setCell ⟨g4, 0, none⟩ (.slice (some ⟨go2, 0, none⟩) (vs.length + 1) cap2)) A g4
      (vs ++ [(.slice none 0 0, .nil)]) (.slice (some ⟨go2, 0, none⟩) (vs.length + 1) cap2) col' := by
  obtain ⟨h1, h2, h3, h4, h5, h6⟩ := hst
  have hgo := h3 go rfl
  have hgl := World.ownsRow.lt hown go2 rfl
  have hs1 := hb.size
  have hs2 := hg.size
  have hcg : go2 < w.heap.size → col go2 = 1 := fun h => by
    rcases hg.loc go2 rfl with h7 | h7
    · exact h3 go2 h7
    · omega
  have hgne : ∀ b, b < w.heap.size → col b ≠ 1 → b ≠ go2 := fun b hb h e => by subst e; exact h (hcg hb)
  have hold : ∀ b, b < w.heap.size → col b ≠ 1 → (set4 w2 go2 (vs.length * 4) (.int .i64 2) (.int .u64 0) (.string ⟨#[]⟩) (.slice none 0 0)).heap[b]? = w.heap[b]? := fun b hb1 hb2 => by
    rw [set4_ne _ _ _ _ _ _ _ _ (hgne b hb1 hb2), hg.block (by omega) (fun e => hb2 (h3 b e)), hb.block b hb1]
  have hg4 : g4 ≠ go2 := hgne g4 h6 (by omega)
  have hsz : w.heap.size ≤ ((set4 w2 go2 (vs.length * 4) (.int .i64 2) (.int .u64 0) (.string ⟨#[]⟩) (.slice none 0 0)).setCell ⟨g4, 0, none⟩ (.slice (some ⟨go2, 0, none⟩) (vs.length + 1) cap2)).heap.size := by rw [size_setCell, set4_size]; omega
  refine ⟨fun b => if b = go2 then 1 else col b, ?_, ?_, ?_, ?_, ?_, by omega⟩
  · exact heap_setCell_same _ _ 0 _ _ _ ((hold g4 h6 (by omega)).trans h1)
  · have := own_set4 hown (stCells_len vs) (.int .i64 2) (.int .u64 0) (.string ⟨#[]⟩) (.slice none 0 0)
    rw [List.length_append, stCells_app]
    refine ownN_mv this (fun b hb1 => ?_)
    obtain rfl : go2 = b := by simpa [Value.ownBlock] using hb1
    exact setCell_ne _ _ _ _ _ (Ne.symm hg4)
  · intro b hb1
    obtain rfl : go2 = b := by simpa [Value.ownBlock] using hb1
    exact if_pos rfl
  · intro j p hp
    rw [List.getElem?_append] at hp
    split at hp
    · refine openAt_keep (h4 j p hp) hsz (fun b hb1 hb2 hb3 => ?_)
      have hne : col b ≠ 1 := by omega
      refine ⟨?_, if_neg (hgne b hb2 hne)⟩
      rw [setCell_ne _ _ _ _ _ (fun e => by rw [e] at hb3; omega)]
      exact hold b hb2 hne
    · obtain rfl : p = (.slice none 0 0, .nil) := by
        have : j - vs.length = 0 := by
          by_cases h0 : j - vs.length = 0
          · exact h0
          · rw [List.getElem?_eq_none (by simp; omega)] at hp; cases hp
        rw [this] at hp
        simpa using hp.symm
      exact ⟨[], World.ownsRow_nil _ _ _ _, rfl, fun k hk => by simp [Value.ownBlock] at hk⟩
  · show (if g4 = go2 then _ else col g4) = 0
    rw [if_neg hg4]; exact h5

theorem ownN_take {w : World} {B : Nat} {e : TypeId} {n m cap g : Nat} {xs ys : List Value} (h : w.ownsRow B e 4 (.slice (some ⟨g, 0, none⟩) n cap) n (xs ++ ys)) (hl : xs.length = m * 4) (hm : m ≤ n) : w.ownsRow B e 4 (.slice (some ⟨g, 0, none⟩) m cap) m xs := by
  refine ⟨hl, ?_⟩
  rcases h.2 with ⟨h1, _⟩ | ⟨g2, cap2, cur, hv, hB, hg, hn, hm2, hs, ht⟩
  · cases h1
  · injection hv with e1 e2 e3
    injection e1 with e1
    injection e1 with e1
    subst e1 e3
    refine .inr ⟨g, cap, cur, rfl, hB, hg, by omega, hm2, hs, ?_⟩
    have := congrArg (List.take (m * 4)) ht
    rw [List.take_take, Nat.min_eq_left (by omega), List.take_left' hl] at this
    exact this

/-- The top is taken away; it is a kid to be. -/
theorem st_pop {w : World} {A g4 go capo : Nat} {ws : List (Value × F)} {v1 v2 : Value} {f1 f2 : F} {col : Nat → Nat}
    (hst : St w A g4 (ws ++ [(v1, f1), (v2, f2)]) (.slice (some ⟨go, 0, none⟩) (ws.length + 2) capo) col) :
    ∃ col', St (w.setCell ⟨g4, 0, none⟩ (.slice (some ⟨go, 0, none⟩) (ws.length + 1) capo)) A g4 (ws ++ [(v1, f1)]) (.slice (some ⟨go, 0, none⟩) (ws.length + 1) capo) col' ∧
      KidsAt (w.setCell ⟨g4, 0, none⟩ (.slice (some ⟨go, 0, none⟩) (ws.length + 1) capo)) (fun b => A ≤ b ∧ b < (w.setCell ⟨g4, 0, none⟩ (.slice (some ⟨go, 0, none⟩) (ws.length + 1) capo)).heap.size ∧ col' b = 2 * ws.length + 3) f2 v2 := by
  obtain ⟨h1, h2, h3, h4, h5, h6⟩ := hst
  have hgo := h3 go rfl
  have hgog : go ≠ g4 := fun e => by rw [e] at hgo; omega
  let col' : Nat → Nat := fun b => if col b = 2 * ws.length + 4 ∨ col b = 2 * ws.length + 5 then 2 * ws.length + 3 else col b
  have hsz := size_setCell w ⟨g4, 0, none⟩ (.slice (some ⟨go, 0, none⟩) (ws.length + 1) capo)
  refine ⟨col', ⟨heap_setCell_same _ _ 0 _ _ _ h1, ?_, ?_, ?_, ?_, by omega⟩, ?_⟩
  · have h2' : w.ownsRow A 27 4 (.slice (some ⟨go, 0, none⟩) (ws.length + 2) capo) (ws.length + 2) (stCells (ws ++ [(v1, f1)]) ++ stCells [(v2, f2)]) := by
      rw [← stCells_app]; simpa using h2
    have := ownN_take h2' (m := ws.length + 1) (by rw [stCells_len]; simp) (by omega)
    rw [List.length_append]
    refine ownN_mv this (fun b hb1 => ?_)
    obtain rfl : go = b := by simpa [Value.ownBlock] using hb1
    exact setCell_ne _ _ _ _ _ hgog
  · intro b hb1
    obtain rfl : go = b := by simpa [Value.ownBlock] using hb1
    exact (if_neg (by omega)).trans hgo
  · intro j p hp
    have hj : j ≤ ws.length := by
      by_cases hj : j ≤ ws.length
      · exact hj
      · rw [List.getElem?_eq_none (by simp; omega)] at hp; cases hp
    have hp2 : (ws ++ [(v1, f1), (v2, f2)])[j]? = some p := by
      have : ws ++ [(v1, f1), (v2, f2)] = (ws ++ [(v1, f1)]) ++ [(v2, f2)] := by simp
      rw [this, List.getElem?_append_left (by simp; omega)]; exact hp
    refine openAt_keep (h4 j p hp2) (by omega) (fun b hb1 hb2 hb3 => ⟨setCell_ne _ _ _ _ _ (fun e => by rw [e] at hb3; omega), if_neg (by omega)⟩)
  · exact (if_neg (by omega)).trans h5
  · obtain ⟨cs, k1, k2, k3⟩ := h4 (ws.length + 1) (v2, f2) (by rw [List.getElem?_append_right (by omega)]; simp)
    have hk := kids_of_own (S' := fun b => A ≤ b ∧ b < w.heap.size ∧ (col b = 2 * ws.length + 4 ∨ col b = 2 * ws.length + 5)) k1 k2 (fun b hb => ⟨hb.1, hb.2.1, .inr (by omega)⟩) (fun k hk => ⟨(World.ownsRow.lt k1 k hk).1, (World.ownsRow.lt k1 k hk).2, .inl (by have := k3 k hk; omega)⟩)
    exact hk.mono (fun b hb => ⟨hb.1, by omega, if_pos hb.2.2⟩) (fun b hb => setCell_ne _ _ _ _ _ (fun e => by rw [e] at hb; omega))

theorem CellsOf.unsnoc {w : World} {S : Nat → Prop} {k n : Int} {s : ByteArray} {c : F} : ∀ (f : F) (cs : List Value), CellsOf w S (f.app (.cons k n s c .nil)) cs → ∃ cs0 v, cs = cs0 ++ [.int .i64 k, .int .u64 n, .string s, v] ∧ CellsOf w S f cs0 ∧ KidsAt w S c v
  | .nil, cs, h => by
    obtain ⟨v, rest, e, hk, hr⟩ := h
    exact ⟨[], v, by rw [e, show rest = [] from hr]; rfl, rfl, hk⟩
  | .cons _ _ _ _ r, cs, h => by
    obtain ⟨v, rest, e, hk, hr⟩ := h
    obtain ⟨cs0, v2, e2, h2, h3⟩ := CellsOf.unsnoc r rest hr
    exact ⟨_, v2, by rw [e, e2]; rfl, ⟨v, cs0, rfl, hk, h2⟩, h3⟩
theorem F.last : ∀ f : F, 0 < f.len → ∃ (h : F) (k n : Int) (s : ByteArray) (c : F), f = h.app (.cons k n s c .nil)
  | .nil, h => by simp [F.len] at h
  | .cons k n s c .nil, _ => ⟨.nil, k, n, s, c, rfl⟩
  | .cons k n s c (.cons k2 n2 s2 c2 r), _ => by
    obtain ⟨h, k3, n3, s3, c3, e⟩ := F.last (.cons k2 n2 s2 c2 r) (by simp [F.len])
    exact ⟨.cons k n s c h, k3, n3, s3, c3, by rw [e]; rfl⟩
theorem set2_app (b c z0 z1 z2 z3 : Value) : ∀ (cs : List Value), (((cs ++ [z0, z1, z2, z3]).set (cs.length + 1) b).set (cs.length + 2) c) = cs ++ [z0, b, c, z3]
  | [] => rfl
  | x :: r => by
    have := set2_app b c z0 z1 z2 z3 r
    simp only [List.cons_append, List.length_cons, List.set_cons_succ, show r.length + 1 + 1 = (r.length + 1) + 1 from rfl, show r.length + 1 + 2 = (r.length + 2) + 1 from rfl]
    rw [this]
/-- The number and the text of the top's last kid are written over. -/
theorem st_edit {w : World} {A g4 g cap : Nat} {ws : List (Value × F)} {h : F} {k n : Int} {s : ByteArray} {c : F} {ov : Value} {col : Nat → Nat} (n' : Int) (s' : ByteArray)
    (hst : St w A g4 (ws ++ [(.slice (some ⟨g, 0, none⟩) (h.len + 1) cap, h.app (.cons k n s c .nil))]) ov col) :
    St ((w.setCell ⟨g, h.len * 4 + 1, none⟩ (.int .u64 n')).setCell ⟨g, h.len * 4 + 2, none⟩ (.string s')) A g4 (ws ++ [(.slice (some ⟨g, 0, none⟩) (h.len + 1) cap, h.app (.cons k n' s' c .nil))]) ov col := by
  obtain ⟨h1, h2, h3, h4, h5, h6⟩ := hst
  obtain ⟨cs, k1, k2, k3⟩ := h4 ws.length (_, _) (by rw [List.getElem?_append_right (by omega)]; simp; exact ⟨rfl, rfl⟩)
  obtain ⟨cs0, kv, rfl, k4, k5⟩ := CellsOf.unsnoc h cs k2
  have hcg := k3 g rfl
  have hsz : ((w.setCell ⟨g, h.len * 4 + 1, none⟩ (.int .u64 n')).setCell ⟨g, h.len * 4 + 2, none⟩ (.string s')).heap.size = w.heap.size := by simp only [size_setCell]
  have hold : ∀ b, col b ≠ 2 * ws.length + 2 → ((w.setCell ⟨g, h.len * 4 + 1, none⟩ (.int .u64 n')).setCell ⟨g, h.len * 4 + 2, none⟩ (.string s')).heap[b]? = w.heap[b]? := fun b hb => by
    have hne : b ≠ g := fun e => by rw [e] at hb; exact hb hcg
    rw [setCell_ne _ _ _ _ _ hne, setCell_ne _ _ _ _ _ hne]
  refine ⟨(hold g4 (by omega)).trans h1, ?_, h3, ?_, h5, by omega⟩
  · have : stCells (ws ++ [(Value.slice (some ⟨g, 0, none⟩) (h.len + 1) cap, h.app (.cons k n' s' c .nil))]) = stCells (ws ++ [(Value.slice (some ⟨g, 0, none⟩) (h.len + 1) cap, h.app (.cons k n s c .nil))]) := by
      rw [stCells_app, stCells_app]; rfl
    rw [this]
    have h2' : w.ownsRow A 27 4 ov (ws ++ [(Value.slice (some ⟨g, 0, none⟩) (h.len + 1) cap, h.app (.cons k n' s' c .nil))]).length (stCells (ws ++ [(Value.slice (some ⟨g, 0, none⟩) (h.len + 1) cap, h.app (.cons k n s c .nil))])) := by
      simpa using h2
    exact ownN_mv h2' (fun b hb => hold b (by have := h3 b hb; omega))
  · intro j p hp
    rw [List.getElem?_append] at hp
    split at hp
    · rename_i hj
      exact openAt_keep (h4 j p (by rw [List.getElem?_append_left hj]; exact hp)) (by omega) (fun b _ _ hb3 => ⟨hold b (by omega), rfl⟩)
    · rename_i hj
      obtain ⟨rfl, rfl⟩ : j = ws.length ∧ p = (.slice (some ⟨g, 0, none⟩) (h.len + 1) cap, h.app (.cons k n' s' c .nil)) := by
        have : j - ws.length = 0 := by
          by_cases h0 : j - ws.length = 0
          · exact h0
          · rw [List.getElem?_eq_none (by simp; omega)] at hp; cases hp
        rw [this] at hp
        exact ⟨by omega, by simpa using hp.symm⟩
      have hmono : ∀ b, (A ≤ b ∧ b < w.heap.size ∧ col b = 2 * ws.length + 3) → (A ≤ b ∧ b < ((w.setCell ⟨g, h.len * 4 + 1, none⟩ (.int .u64 n')).setCell ⟨g, h.len * 4 + 2, none⟩ (.string s')).heap.size ∧ col b = 2 * ws.length + 3) ∧
          ((w.setCell ⟨g, h.len * 4 + 1, none⟩ (.int .u64 n')).setCell ⟨g, h.len * 4 + 2, none⟩ (.string s')).heap[b]? = w.heap[b]? := fun b hb1 => ⟨⟨hb1.1, by omega, hb1.2.2⟩, hold b (by omega)⟩
      refine ⟨cs0 ++ [.int .i64 k, .int .u64 n', .string s', kv], ?_, CellsOf.snoc (k5.mono (fun b hb1 => (hmono b hb1).1) (fun b hb1 => (hmono b hb1).2)) h cs0 (CellsOf.mono hmono h cs0 k4), k3⟩
      have hl := CellsOf.length h cs0 k4
      have e1 : (h.app (.cons k n s c .nil)).len = h.len + 1 := by rw [F.app_len]; rfl
      have e2 : (h.app (.cons k n' s' c .nil)).len = h.len + 1 := by rw [F.app_len]; rfl
      rw [e1] at k1
      rw [e2]
      have := own_set (own_set k1 (h.len * 4 + 1) (.int .u64 n')) (h.len * 4 + 2) (.string s')
      rw [← hl, set2_app] at this
      rw [← hl]
      exact this
/-- What is taken of the world anew. -/
theorem st_below {w w' : World} {A g4 : Nat} {vs : List (Value × F)} {ov : Value} {col : Nat → Nat} (h : St w A g4 vs ov col) (hb : Below w.heap.size w w') : St w' A g4 vs ov col := by
  obtain ⟨h1, h2, h3, h4, h5, h6⟩ := h
  have := hb.size
  exact ⟨by rw [hb.block _ h6]; exact h1, ownN_mv h2 (fun k hk => hb.block k (World.ownsRow.lt h2 k hk).2), h3, fun j p hp => openAt_keep (h4 j p hp) hb.size (fun b _ h8 _ => ⟨hb.block b h8, rfl⟩), h5, by omega⟩
theorem stWt_app : ∀ (vs us : List (Value × F)), stWt (vs ++ us) = stWt vs + stWt us
  | [], us => by simp [stWt]
  | p :: r, us => by simp only [List.cons_append, stWt]; rw [stWt_app r us]; omega
theorem stNok_app : ∀ (vs us : List (Value × F)), stNok (vs ++ us) ↔ stNok vs ∧ stNok us
  | [], us => by simp [stNok]
  | p :: r, us => by simp only [List.cons_append, stNok]; rw [stNok_app r us, and_assoc]
end Go.Proofs.Ytaojcbdljgcfgaa
