/- net: the reference's net as values: a row of messages with their numbers. -/
import Derived.Test.YtgdlnjhbencjkaaNSm
namespace Go.Proofs.Ytgdlnjhbencjkaa
open Go.RowKit
/-- A number, a message, the slice of its entries. -/
abbrev On := Nat × Mg × Value
def oneC (x : On) : List Value := .int .u64 (x.1 : Int) :: mgL x.2.1 x.2.2
def onC (q : List On) : List Value := q.flatMap oneC
theorem onC_append (a b : List On) : onC (a ++ b) = onC a ++ onC b := List.flatMap_append ..
theorem oneC_length (x : On) : (oneC x).length = 11 := rfl
theorem onC_length (l : List On) : (onC l).length = l.length * 11 := by
  induction l with
  | nil => rfl
  | cons x l ih => rw [show x :: l = [x] ++ l from rfl, onC_append, List.length_append, ih]; simp [onC, oneC_length]; omega
theorem onC_get : ∀ (l : List On) (i : Nat) (x : On), l[i]? = some x → ∀ j, j < 11 → (onC l)[i * 11 + j]? = (oneC x)[j]?
  | [], i, x, h, j, hj => by simp at h
  | y :: l, 0, x, h, j, hj => by
    obtain rfl : y = x := by simpa using h
    rw [show y :: l = [y] ++ l from rfl, onC_append, List.getElem?_append_left (by rw [onC_length]; simpa using hj)]
    simp [onC]
  | y :: l, i + 1, x, h, j, hj => by
    have h2 : l[i]? = some x := by simpa using h
    rw [show y :: l = [y] ++ l from rfl, onC_append, List.getElem?_append_right (by rw [onC_length]; simp; omega), onC_length]
    rw [show (i + 1) * 11 + j - [y].length * 11 = i * 11 + j by simp; omega]
    exact onC_get l i x h2 j hj
theorem oneC_one {x : On} (h : ∃ a n c, x.2.2 = .slice a n c) : ∀ u ∈ oneC x, u.oneCell' = true := by
  obtain ⟨a, n, c, e⟩ := h
  unfold oneC mgL
  rw [e]
  simp [Value.oneCell']
theorem onC_one {l : List On} (h : ∀ x ∈ l, ∃ a n c, x.2.2 = .slice a n c) : ∀ u ∈ onC l, u.oneCell' = true := fun u hu => by
  obtain ⟨x, hx, hu⟩ := List.mem_flatMap.1 hu
  exact oneC_one (h x hx) u hu
theorem Try.oneSl : SlN Try.prog 26 43 (.agg #[.int .u64 0, .int .i64 0, .int .i64 0, .int .i64 0, .int .u64 0, .int .u64 0, .int .u64 0, .int .u64 0, .bool false, .slice none 0 0, .string ⟨#[]⟩]) 11 112 := ⟨Try.underlying26, by kernel_rfl, rfl, by decide⟩
/-- The reference's row, of its own; the entries lie anywhere. -/
def ROwn (w : World) (B : Nat) (v : Value) (q : List On) : Prop := w.ownsRow B 43 11 v q.length (onC q)
def REnt (w : World) (q : List On) : Prop := ∀ x ∈ q, ESl w x.2.2 x.2.1.ents
theorem REnt.later {w w' : World} {q : List On} (h : REnt w q) (hb : Below w.heap.size w w') : REnt w' q := fun x hx => (h x hx).later hb
theorem REnt.sl {w : World} {q : List On} (h : REnt w q) : ∀ x ∈ q, ∃ a n c, x.2.2 = .slice a n c := fun x hx => by
  obtain ⟨a, c, e, _⟩ := h x hx
  exact ⟨a, _, c, e⟩
theorem ROwn.later {w w' : World} {B : Nat} {v : Value} {q : List On} (h : ROwn w B v q) (hb : Below w.heap.size w w') : ROwn w' B v q := ownN_mv h (fun k hk => hb.block k (World.ownsRow.lt h k hk).2)
theorem ROwn.shape {w : World} {B : Nat} {v : Value} {q : List On} (h : ROwn w B v q) : ∃ a c, v = .slice a q.length c := by
  rcases h.2 with ⟨h0, h1⟩ | ⟨g2, cap2, cur, hv, _⟩
  · exact ⟨none, 0, by rw [h0, h1]⟩
  · exact ⟨_, _, hv⟩
/-- The eleven cells at a place. -/
theorem ROwn.get {w : World} {B : Nat} {v : Value} {q : List On} (h : ROwn w B v q) {i : Nat} {x : On} (hx : q[i]? = some x) : ∃ g c, v = .slice (some ⟨g, 0, none⟩) q.length c ∧ g < w.heap.size ∧ ∀ j u, (oneC x)[j]? = some u → w.cell? ⟨g, i * 11 + j, none⟩ = some u := by
  have hl := (List.getElem?_eq_some_iff.1 hx).1
  rcases h.2 with ⟨h0, h1⟩ | ⟨g, cap, cur, hv, hB, hg, hn, hm, hs, ht⟩
  · omega
  · refine ⟨g, cap, hv, block_lt hg, fun j u hu => ?_⟩
    have hj : j < 11 := by have := (List.getElem?_eq_some_iff.1 hu).1; rwa [oneC_length] at this
    have h2 : (onC q)[i * 11 + j]? = some u := by rw [onC_get q i x hx j hj]; exact hu
    rw [← ht, List.getElem?_take] at h2
    split at h2
    · unfold World.cell?
      rw [hg]
      simpa using h2
    · cases h2
set_option maxRecDepth 100000 in
theorem rhas_prog (w : World) (B : Nat) (v : Value) (q : List On) (last : Nat) (h : ROwn w B v q) (i : Int) :
    Calls Try.prog 10 #[.agg #[v, .int .u64 (last : Int)], .int .i64 i] w fun e w' => e = .returned (.bool (decide (0 ≤ i) && decide (i < (q.length : Int)))) ∧ Below w.heap.size w w' := by
  obtain ⟨a, c, rfl⟩ := h.shape
  have HB := Lib.hid ((Below.refl w.heap.size w).alloc (Nat.le_refl _) (.cells #[.slice a q.length c, .int .u64 (last : Int)] 29))
  clear h
  by_cases h1 : 0 ≤ i
  · by_cases h2 : i < (q.length : Int)
    · go_enter Try.func10, Try.ntmps10
      go_wp2_with fail
      go_ret
      exact ⟨by simp [h1, h2], HB.out⟩
    · go_enter Try.func10, Try.ntmps10
      go_wp2_with fail
      go_ret
      exact ⟨by simp [h2], HB.out⟩
  · go_enter Try.func10, Try.ntmps10
    go_wp2_with fail
    go_ret
    have h1' : ¬ 0 ≤ i := by omega
    exact ⟨(by simp [h1']), HB.out⟩
/-- Without the one at i (if there is one). -/
def dropI (q : List On) (i : Int) : List On := if 0 ≤ i ∧ i < (q.length : Int) then q.eraseIdx i.toNat else q
theorem dropI_snoc (a : List On) (x : On) (i : Int) : dropI (a ++ [x]) i = if i = (a.length : Int) then dropI a i else dropI a i ++ [x] := by
  unfold dropI
  rw [List.length_append]
  by_cases h : i = (a.length : Int)
  · subst h
    rw [if_pos (by simp; omega), if_pos rfl, if_neg (by omega), Int.toNat_natCast, List.eraseIdx_append_of_length_le (Nat.le_refl _)]
    simp
  · rw [if_neg h]
    by_cases h2 : 0 ≤ i ∧ i < (a.length : Int)
    · rw [if_pos h2, if_pos (by simp; omega), List.eraseIdx_append_of_lt_length (by omega)]
    · rw [if_neg h2, if_neg (by simp; omega)]
theorem dropI_len (q : List On) (i : Int) : (dropI q i).length ≤ q.length := by
  unfold dropI
  split
  · exact List.length_eraseIdx_le _ _
  · exact Nat.le_refl _
theorem dropI_mem {q : List On} {i : Int} {x : On} (h : x ∈ dropI q i) : x ∈ q := by
  unfold dropI at h
  split at h
  · exact List.mem_of_mem_eraseIdx h
  · exact h
theorem results_net {f : Func} {k : Nat} {tmps : Array Value} {w : World} {H : Nat} {cs : Array Value} (hf : f.results = #[.cell k 29]) (h2 : tmps.getD k undef = .pointer (some ⟨H, 0, none⟩))
    (hg : w.heap[H]? = some (.cells cs 29 (0, 0))) (hs : cs.size = 2) : (results f tmps).run Try.prog w = .ok (.agg cs) w := by
  have hi : (Try.prog.info? 29).map (·.size) = some cs.size := by rw [hs]; kernel_rfl
  have h3 : tmps[k]?.getD undef = .pointer (some ⟨H, 0, none⟩) := by simpa using h2
  simp only [results, hf]
  simp [h3, asAddr, run_loadVar_row w H 29 29 cs (0, 0) _ hg Try.underlying29 rfl hi]
theorem set2_heap {w : World} {G : Nat} {a0 a1 : Value} {ty : TypeId} (h : w.heap[G]? = some (.cells #[a0, a1] ty (0, 0))) (b0 b1 : Value) : ((w.setCell ⟨G, 0, none⟩ b0).setCell ⟨G, 1, none⟩ b1).heap[G]? = some (.cells #[b0, b1] ty (0, 0)) := by
  have h0 := heap_setCell_same w G 0 _ _ b0 h
  have h1 := heap_setCell_same _ G 1 _ _ b1 h0
  simpa using h1
theorem set2_other (w : World) (G : Nat) (b0 b1 : Value) (j : Nat) (hj : j ≠ G) : ((w.setCell ⟨G, 0, none⟩ b0).setCell ⟨G, 1, none⟩ b1).heap[j]? = w.heap[j]? := by
  rw [heap_setCell_other _ ⟨G, 1, none⟩ j _ hj, heap_setCell_other _ ⟨G, 0, none⟩ j _ hj]
theorem set2_below {w : World} {G B : Nat} (hB : B ≤ G) (b0 b1 : Value) : Below B w ((w.setCell ⟨G, 0, none⟩ b0).setCell ⟨G, 1, none⟩ b1) := ((Below.refl _ _).setCell hB _).setCell hB _
end Go.Proofs.Ytgdlnjhbencjkaa
