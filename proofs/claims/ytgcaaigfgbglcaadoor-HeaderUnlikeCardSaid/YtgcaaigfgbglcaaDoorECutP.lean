/- What steps make is a chain, and so is each part of it; slices of slices. -/
import Derived.Test.YtgcaaigfgbglcaaDoorEArg2
namespace Go.Proofs.YtgcaaigfgbglcaaDoor
open Go.RowKit
theorem turn_none (s : Sg) : turnS 0 s = s := by unfold turnS; simp
theorem next_links {key : ByteArray} {f : Sg} {root : ByteArray} {a b : Int} (h : f.h.Ok 32) (k : nextOk f.h root = true) : follB f.h (nextS key f root a b).h = true ∧ (nextS key f root a b).by key = true := by
  obtain ⟨k1, k2, k3⟩ := nextOk_ne k
  have hi := next_is a b k
  have e : nextS key f root a b = ⟨nextH f.h root a b, (nextH f.h root a b).sealB key⟩ := by unfold nextS; rw [if_pos k]
  rw [e]
  have h0 : 0 ≤ f.h.seq := h.2.1.1
  constructor
  · unfold follB
    simp only
    rw [k1, hi, up64_in h.2.1 k3]
    have h2 : ¬ f.h.seq + 1 = 0 := by omega
    simp [nextH, h2]
  · unfold Sg.by
    simp only
    rw [hi]; simp
theorem made_links (key : ByteArray) : ∀ (l : List Stp) (f : Sg) (m : List Sg), Good f → (∀ x ∈ l, x.Fit) → madeO key f (l.map unturn) = some m → ∀ i p s, (f :: m)[i]? = some p → (f :: m)[i + 1]? = some s → follB p.h s.h = true ∧ s.by key = true
  | [], f, m, _, _, h => by
    injection h with h
    intro i p s hp hs
    rw [← h] at hs
    simp at hs
  | x :: l, f, m, hf, hx, h => by
    rw [List.map_cons] at h
    unfold madeO at h
    split at h
    · split at h
      · rename_i hn
        obtain ⟨m', h1, rfl⟩ := Option.map_eq_some_iff.1 h
        have hu : turnS (unturn x).bad (nextS key f (sumS (unturn x).root) (unturn x).who (unturn x).stamp) = nextS key f (sumS x.root) x.who x.stamp := turn_none _
        rw [hu] at h1 ⊢
        have hn' : nextOk f.h (sumS x.root) = true := hn
        have hg := next_good (key := key) hf hn' (hx x (by simp)).2.1 (hx x (by simp)).2.2.1
        intro i p s hp hs
        cases i with
        | zero =>
          obtain rfl : f = p := by simpa using hp
          have hs' : nextS key f (sumS x.root) x.who x.stamp = s := by simpa using hs
          rw [← hs']
          exact next_links hf.1 hn'
        | succ i => exact made_links key l _ m' hg (fun y hy => hx y (by simp [hy])) h1 i p s (by simpa using hp) (by simpa using hs)
      · cases h
    · cases h
theorem chain_links (key : ByteArray) (all : List Sg) (h : ∀ i p s, all[i]? = some p → all[i + 1]? = some s → follB p.h s.h = true ∧ s.by key = true) : ∀ (n i : Nat) (p q : Sg), all[i]? = some p → all[i + n]? = some q → chainO key p ((all.drop (i + 1)).take n) = some q
  | 0, i, p, q, hp, hq => by
    rw [Nat.add_zero, hp] at hq
    injection hq with hq
    rw [hq]; rfl
  | n + 1, i, p, q, hp, hq => by
    have hl : i + (n + 1) < all.length := (List.getElem?_eq_some_iff.1 hq).1
    obtain ⟨s, hs⟩ : ∃ s, all[i + 1]? = some s := ⟨all[i + 1]'(by omega), List.getElem?_eq_getElem _⟩
    obtain ⟨h1, h2⟩ := h i p s hp hs
    obtain ⟨k1, k2⟩ := List.getElem?_eq_some_iff.1 hs
    rw [List.drop_eq_getElem_cons k1, k2, List.take_succ_cons]
    unfold chainO
    rw [h1, h2]
    simp only [Bool.and_self, if_true]
    exact chain_links key all h n (i + 1) s q hs (by rw [← hq]; congr 1; omega)
/-- all[i:j]. -/
theorem SSl.part {w : World} {g c n : Nat} {l : List Sg} (h : SSl w (.slice (some ⟨g, 0, none⟩) n c) l) (hn : n = l.length) {i j : Nat} (hij : i ≤ j) (hj : j ≤ n) :
    SSl w (.slice (if c = i then some ⟨g, 0, none⟩ else (some (⟨g, 0, none⟩ : Addr)).map (·.add (i * 7))) (j - i) (c - i)) ((l.drop i).take (j - i)) := by
  obtain ⟨a', c', e, hc, h3⟩ := h
  injection e with e1 e2 e3
  subst e1 e3
  have hlen : ((l.drop i).take (j - i)).length = j - i := by rw [List.length_take, List.length_drop]; omega
  refine ⟨_, c - i, by rw [hlen], by rw [hlen]; omega, fun hne => ?_⟩
  have hlt : i < j := by
    rcases Nat.lt_or_ge i j with h | h
    · exact h
    · exact absurd (List.eq_nil_of_length_eq_zero (by rw [hlen]; omega)) hne
  obtain ⟨g', o', ha, hg, hcl⟩ := h3 (fun e => by rw [e] at hn; simp at hn; omega)
  injection ha with ha
  injection ha with ha1 ha2 _
  subst ha1 ha2
  refine ⟨g, i * 7, by rw [if_neg (by omega), Option.map_some, add_spot, Nat.zero_add], hg, fun k s hk => ?_⟩
  have hk2 : l[i + k]? = some s := by
    rw [List.getElem?_take] at hk
    split at hk
    · rw [List.getElem?_drop] at hk; exact hk
    · cases hk
  have := hcl (i + k) s hk2
  rw [Nat.zero_add, Nat.add_mul] at this
  exact this
theorem slice_bothS (a : Option Addr) (n cp l h : Nat) (h1 : l ≤ h) (h2 : h ≤ cp) (W : World) : (Instr.slice 37 (.slice a n cp) (some (.int .i64 (l : Int))) (some (.int .i64 (h : Int))) none).run Tryd.prog W =
    .ok (.slice (if cp = l then a else a.map (·.add (l * 7))) (h - l) (cp - l)) W := by
  simp [Instr.slice, Instr.sliceBounds, Instr.sliceBound, asIntOf, run_underlying Tryd.underlying37, h1, h2]
  try rfl
theorem slice_fromS (a : Option Addr) (n cp l : Nat) (h : l ≤ n) (W : World) : (Instr.slice 37 (.slice a n cp) (some (.int .i64 (l : Int))) none none).run Tryd.prog W =
    .ok (.slice (if cp = l then a else a.map (·.add (l * 7))) (n - l) (cp - l)) W := by
  simp [Instr.slice, Instr.sliceBounds, Instr.sliceBound, asIntOf, run_underlying Tryd.underlying37, h]
  try rfl
end Go.Proofs.YtgcaaigfgbglcaaDoor
