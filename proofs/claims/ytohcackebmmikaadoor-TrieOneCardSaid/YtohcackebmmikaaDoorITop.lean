/- trie's maps: New, top, Len, Root, Top, All, Get. -/
import Derived.Test.YtohcackebmmikaaDoorICopy
namespace Go.Proofs.YtohcackebmmikaaDoor
open Go.RowKit

/-- A map in memory. -/
def MAt (w : World) (m : Option Tr) (x : Value) : Prop := (x = .pointer none ∧ m = none) ∨ ∃ b tv, x = pp b ∧ w.heap[b]? = some (.cells #[tv, .int .i64 ((MT.pairs m).length : Int)] 66 (0, 0)) ∧ RepM w m tv
theorem MAt.later {w w' : World} {m : Option Tr} {x : Value} (h : MAt w m x) (hb : Below w.heap.size w w') : MAt w' m x := by
  rcases h with h | ⟨b, tv, h1, h2, h3⟩
  · exact .inl h
  · exact .inr ⟨b, tv, h1, by rw [hb.block b (block_lt h2)]; exact h2, h3.later hb⟩
def MapRes (w : World) (m : Option Tr) (e : Ending) (w' : World) : Prop := ∃ x, e = .returned x ∧ MAt w' m x ∧ Below w.heap.size w w'
def TopRes (w : World) (m : Option Tr) (e : Ending) (w' : World) : Prop := ∃ tv, e = .returned tv ∧ RepM w' m tv ∧ w = w'
def TwRes (w : World) (m : Option Tr) (e : Ending) (w' : World) : Prop := ∃ tv, e = .returned tv ∧ RepM w' m tv ∧ Same w w'
def GetRes (w : World) (r : Option ByteArray) (e : Ending) (w' : World) : Prop := e = .returned (.tuple #[.string (r.getD ⟨#[]⟩), .bool r.isSome]) ∧ Same w w'
/-- Pairs are answered in a new slice. -/
def PRes (w : World) (l : List Pr) (e : Ending) (w' : World) : Prop := ∃ v, e = .returned v ∧ POwn w' w.heap.size v l ∧ Below w.heap.size w w'
def StrRes (w : World) (s : ByteArray) (e : Ending) (w' : World) : Prop := e = .returned (.string s) ∧ Below w.heap.size w w'

theorem two_cells {w : World} {b : Nat} {x y : Value} {t : TypeId} (h : w.heap[b]? = some (.cells #[x, y] t (0, 0))) : w.cell? ⟨b, 0, none⟩ = some x ∧ w.cell? ⟨b, 1, none⟩ = some y := by
  simp [World.cell?, h]

theorem str_ne {a b : ByteArray} (h : ¬ a = b) : (a.toList == b.toList) = false := by
  rw [beq_eq_false_iff_ne]
  intro e
  rw [ByteArray.toList_eq, ByteArray.toList_eq] at e
  exact h (ks_inj e)
theorem new_trie (w : World) : Calls Tryd.prog 29 #[] w (MapRes w none) := by
  go_enter Tryd.func29, Tryd.ntmps29
  go_wp2
  go_ret
  exact ⟨_, rfl, .inr ⟨_, _, rfl, heap_at_alloc _ _, rfl⟩, (Below.refl _ w).alloc (Nat.le_refl _) _⟩

theorem top_prog {w : World} {m : Option Tr} {x : Value} (h : MAt w m x) : Calls Tryd.prog 34 #[x] w (TopRes w m) := by
  rcases h with ⟨rfl, rfl⟩ | ⟨b, tv, rfl, h2, h3⟩
  · go_enter Tryd.func34, Tryd.ntmps34
    go_wp2
    go_ret
    exact ⟨_, rfl, rfl, rfl⟩
  · obtain ⟨c0, _⟩ := two_cells h2
    have H3 := Lib.hid h3
    obtain ⟨q, hq⟩ : ∃ q, tv = .pointer q := by
      cases m with
      | none => exact ⟨_, h3⟩
      | some t => obtain ⟨d, rfl, _⟩ := h3; exact ⟨_, rfl⟩
    subst hq
    clear h2 h3
    unfold pp
    go_enter Tryd.func34, Tryd.ntmps34
    go_wp2
    go_ret
    exact ⟨_, rfl, H3.out, rfl⟩
theorem len_trie {w : World} {m : Option Tr} {x : Value} (h : MAt w m x) : Calls Tryd.prog 15 #[x] w fun e w' => e = .returned (.int .i64 ((MT.pairs m).length : Int)) ∧ w = w' := by
  rcases h with ⟨rfl, rfl⟩ | ⟨b, tv, rfl, h2, h3⟩
  · go_enter Tryd.func15, Tryd.ntmps15
    go_wp2
    go_ret
    exact ⟨rfl, rfl⟩
  · obtain ⟨_, c1⟩ := two_cells h2
    clear h2 h3
    unfold pp
    go_enter Tryd.func15, Tryd.ntmps15
    go_wp2
    go_ret
    exact ⟨rfl, rfl⟩

theorem toward_none (k : ByteArray) (n : Nat) (w : World) : Calls Tryd.prog 40 #[.pointer none, .string k, .int .i64 n] w (TwRes w none) := by
  go_enter Tryd.func40, Tryd.ntmps40
  go_wp2
  go_loopw [0] (fun v wr => v = .pointer none ∧ wr = w) (fun _ _ => 0)
  case atStart => exact ⟨rfl, rfl⟩
  case round =>
    obtain ⟨rfl, rfl⟩ := hrel
    go_wp2
    go_ret
    exact ⟨_, rfl, rfl, Same.refl _⟩
theorem toward_any {w : World} {m : Option Tr} {tv : Value} (h : RepM w m tv) (hm : MT.wf m) (k : ByteArray) (n : Nat) (hn : n ≤ 256) (hk : k.size ≤ 1000) :
    Calls Tryd.prog 40 #[tv, .string k, .int .i64 n] w (TwRes w (m.map (towT n (ks k)))) := by
  cases m with
  | none => obtain rfl : tv = .pointer none := h; exact toward_none k n w
  | some t =>
    obtain ⟨b, rfl, hb⟩ := h
    refine (toward_prog t b k n w hn hk (Tr.wf_sz hm) (Tr.wf_asc hm) hb).mono ?_
    rintro e w' ⟨c, rfl, hc, hs⟩
    exact ⟨_, rfl, ⟨c, rfl, hc⟩, hs⟩

theorem get_none (k : ByteArray) (x : Value) (w : World) (hk : k.size ≤ 1000) (h : MAt w none x) : Calls Tryd.prog 21 #[x, .string k] w (GetRes w none) := by
  have HT := Lib.hid (top_prog h)
  clear h
  go_enter Tryd.func21, Tryd.ntmps21
  go_wp2_with fail
  refine HT.out.mono ?_
  rintro e w1 ⟨tv, rfl, hr, rfl⟩
  obtain rfl : tv = .pointer none := hr
  go_wp2_with fail
  refine (toward_any (m := none) (tv := .pointer none) rfl trivial k 256 (by omega) hk).mono ?_
  rintro e w2 ⟨tv2, rfl, hr2, hs2⟩
  obtain rfl : tv2 = .pointer none := hr2
  go_wp2
  go_ret2
  exact ⟨rfl, hs2⟩
set_option maxHeartbeats 1000000 in
theorem get_prog (k : ByteArray) (m : Option Tr) (x : Value) (w : World) (hk : k.size ≤ 1000) (hm : MT.wf m) (h : MAt w m x) : Calls Tryd.prog 21 #[x, .string k] w (GetRes w (getL k (MT.pairs m))) := by
  cases m with
  | none => exact get_none k x w hk h
  | some t =>
    obtain ⟨k', v', htow, hget⟩ := get_ok k t hm
    show Calls _ _ _ _ (GetRes w (getL k t.pairs))
    rw [hget]
    clear hget
    have HT := Lib.hid (top_prog h)
    have HW := Lib.hid (fun (tv : Value) (W : World) (h : RepM W (some t) tv) => toward_any h hm k 256 (by omega) hk)
    simp only [Option.map_some, htow] at HW
    clear h htow hm
    by_cases he : k' = k
    · subst he
      rw [if_pos rfl]
      go_enter Tryd.func21, Tryd.ntmps21
      go_wp2_with fail
      refine HT.out.mono ?_
      rintro e w1 ⟨tv, rfl, hr, rfl⟩
      have HR := Lib.hid hr
      clear hr
      go_wp2_with fail
      refine (HW.out _ _ HR.out).mono ?_
      rintro e w2 ⟨tv2, rfl, ⟨d, rfl, hd⟩, hs2⟩
      obtain ⟨_, c2, c3, _⟩ := NodeAt.cells (show NodeAt w2 d true k' v' 0 _ _ _ from hd)
      have HS := Lib.hid hs2
      clear hd hs2
      unfold pp
      go_wp2_with fail
      go_ret2
      exact ⟨rfl, HS.out⟩
    · rw [if_neg he]
      have he2 := str_ne he
      go_enter Tryd.func21, Tryd.ntmps21
      go_wp2_with fail
      refine HT.out.mono ?_
      rintro e w1 ⟨tv, rfl, hr, rfl⟩
      have HR := Lib.hid hr
      clear hr
      go_wp2_with fail
      refine (HW.out _ _ HR.out).mono ?_
      rintro e w2 ⟨tv2, rfl, ⟨d, rfl, hd⟩, hs2⟩
      obtain ⟨_, c2, c3, _⟩ := NodeAt.cells (show NodeAt w2 d true k' v' 0 _ _ _ from hd)
      have HS := Lib.hid hs2
      clear hd hs2
      unfold pp
      go_wp2_with fail
      go_ret2
      exact ⟨rfl, HS.out⟩
end Go.Proofs.YtohcackebmmikaaDoor
