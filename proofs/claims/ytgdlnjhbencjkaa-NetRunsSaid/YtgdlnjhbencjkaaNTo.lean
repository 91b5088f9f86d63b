/- net: To. -/
import Derived.Test.YtgdlnjhbencjkaaNPut
namespace Go.Proofs.Ytgdlnjhbencjkaa
open Go.RowKit
theorem Try.intSl : SlN Try.prog 52 3 (.int .i64 0) 1 8 := ⟨Try.underlying52, by kernel_rfl, rfl, by decide⟩
def dstOf (l : List (Nat × Mg)) (i : Nat) : Int := (l.getD i (0, mgNil)).2.dst
/-- The places, below k, of messages to a node. -/
def posOf (l : List (Nat × Mg)) (node : Int) (k : Nat) : List Nat := (List.range k).filter fun i => dstOf l i = node
theorem posOf_succ (l : List (Nat × Mg)) (node : Int) (k : Nat) : posOf l node (k + 1) = if dstOf l k = node then posOf l node k ++ [k] else posOf l node k := by
  unfold posOf
  rw [List.range_succ, List.filter_append]
  split
  · rename_i h; simp [h]
  · rename_i h; simp [h]
theorem posOf_len (l : List (Nat × Mg)) (node : Int) (k : Nat) : (posOf l node k).length ≤ k := by
  have := List.length_filter_le (fun i => decide (dstOf l i = node)) (List.range k)
  rw [List.length_range] at this
  exact this
def intV (i : Nat) : Value := .int .i64 (i : Int)
/-- The slice value owns these numbers. -/
def IOwn (w : World) (B : Nat) (v : Value) (l : List Nat) : Prop := w.ownsRow B 3 1 v l.length (l.map intV)
section
variable {w : World} {nb : Nat} {v : Value} {all : Nat} {l : List (Nat × Mg)}
set_option maxHeartbeats 4000000 in
set_option maxRecDepth 100000 in
theorem to_prog (h : NW w nb v all l) (node : Int) (hl : l.length < 1000000) :
    Calls Try.prog 23 #[.pointer (some ⟨nb, 0, none⟩), .int .i64 node] w fun e w' => ∃ v', e = .returned v' ∧ IOwn w' w.heap.size v' (posOf l node l.length) ∧ Below w.heap.size w w' := by
  have H := Lib.hid h
  have K := Lib.hid (len_prog h)
  have HL := Lib.hid hl
  obtain ⟨n, hn⟩ : ∃ n, l.length = n := ⟨_, rfl⟩
  rw [hn] at K ⊢
  have HN := Lib.hid hn
  have hnI : (n : Int) < 1000000 := by omega
  clear h hl hn
  go_enter Try.func23, Try.ntmps23
  go_wp2_with fail
  refine K.out.mono ?_
  rintro e w1 ⟨rfl, rfl⟩
  clear K
  go_wp2_with fail
  go_loopw [5, 9] (fun o i wr => ∃ k : Nat, k ≤ n ∧ i = .int .i64 (k : Int) ∧ Hid (IOwn wr w.heap.size o (posOf l node k)) ∧ Hid (Below w.heap.size w wr)) (fun _ i _ => n - (intOf i).toNat)
  case atStart => exact ⟨0, by omega, rfl, Lib.hid (World.ownsRow_nil _ _ _ _), Lib.hid (Below.refl _ _)⟩
  case round =>
    obtain ⟨k, hk, rfl, HO, HB⟩ := hrel
    by_cases hlt : k < n
    · have hkI : (k : Int) < (n : Int) := by omega
      have hk0 : (0 : Int) ≤ (k : Int) := by omega
      have h1 := H.out.later HB.out
      obtain ⟨c0, c1, f0, f1⟩ := h1.cells
      obtain ⟨q, hq, hql, hqm⟩ := h1.way
      obtain ⟨x, hx⟩ : ∃ x, q[k]? = some x := ⟨_, List.getElem?_eq_getElem (by rw [hql, HN.out]; exact hlt)⟩
      obtain ⟨m, hm, ev, hmb, _⟩ := hqm k x hx
      obtain ⟨g, o, cap, hv, z0, z1⟩ := hq.cells k x hx
      have hql2 : q.length = n := hql.trans HN.out
      rw [hql2] at hv
      subst hv
      unfold mgL at hmb
      obtain ⟨d0, d1, d2, d3, d4, d5, d6, d7, d8, d9⟩ := cells10 hmb
      have HD : Hid (dstOf l k = m.dst) := Lib.hid (by unfold dstOf; rw [List.getD_eq_getElem?_getD, hm]; rfl)
      have HS := Lib.hid (posOf_succ l node k)
      clear h1 hq hql hqm hx hm hmb hql2 c1 f0 f1 d0 d1 d3 d4 d5 d6 d7 d8 d9 z0
      by_cases hd : m.dst = node
      · have hdI : (m.dst == node) = true := by simp [hd]
        have HS2 : Hid (posOf l node (k + 1) = posOf l node k ++ [k]) := Lib.hid (by rw [HS.out, HD.out, if_pos hd])
        have HLEN := Lib.hid (posOf_len l node k)
        have hsz := HB.out.size
        have hkk : k < 1000000 := by omega
        clear hd HS HD
        go_wp2_with (at_builtin; refine list_appN Try.intSl rfl _ _ rfl w.heap.size _ _ _ rfl (World.ownsRow.alloc HO.out _) wr.heap.size 1 1 [intV k] rfl (heap_alloc_new wr _) rfl (by simp [intV, Value.oneCell']) (by omega) (by have := HLEN.out; unfold maxLen; omega) (by have := HLEN.out; omega) (by simp; omega) ?_)
        intro g2 cap2 w2 hown2 hgr2
        have HO2 : Hid (IOwn w2 w.heap.size (.slice (some ⟨g2, 0, none⟩) ((posOf l node k).length + 1) cap2) (posOf l node k ++ [k])) := Lib.hid (by unfold IOwn; rw [List.length_append, List.map_append]; exact hown2)
        have HB2 := Lib.hid ((HB.out.alloc hsz (.cells #[.int .i64 (k : Int)] 3)).trans (hgr2.below (by simp; omega) (ownN_low HO.out)))
        clear hown2 hgr2 c0 z1 d2
        go_wp2_with fail
        go_roundw
        case rel => exact ⟨k + 1, by omega, by go_num, by rw [HS2.out]; exact HO2, HB2⟩
        case measure => simp [intOf]; omega
      · have hdI : (m.dst == node) = false := by simp [hd]
        have HS2 : Hid (posOf l node (k + 1) = posOf l node k) := Lib.hid (by rw [HS.out, HD.out, if_neg hd])
        clear hd HS HD
        go_wp2_with fail
        go_roundw
        case rel => exact ⟨k + 1, by omega, by go_num, by rw [HS2.out]; exact HO, HB⟩
        case measure => simp [intOf]; omega
    · have hke : k = n := by omega
      subst hke
      have hkI : ¬ (k : Int) < (k : Int) := by omega
      go_wp2_with fail
      go_ret
      exact ⟨_, rfl, HO.out, HB.out⟩
end
end Go.Proofs.Ytgdlnjhbencjkaa
