/- trie's maps: New, top, Len, Root, Top, All, Get. trie's maps: Root, Top, All, Under, Put, Delete. trie's maps: Put, Delete. The laws' keys. A known map's root is not that of a map without pairs: hashes by the kernel. The reference's Print of texts. -/
import Derived.Test.YtmpjpaomgifpcaaGreatDoorBMake
import Derived.Test.YtmpjpaomgifpcaaGreatDoorBShaR
namespace Go.Proofs.YtmpjpaomgifpcaaGreatDoor
open Go.RowKit

/-- A map in memory. -/
def MAt (w : World) (m : Option Tr) (x : Value) : Prop := (x = .pointer none ∧ m = none) ∨ ∃ b tv, x = pp b ∧ w.heap[b]? = some (.cells #[tv, .int .i64 ((MT.pairs m).length : Int)] 108 (0, 0)) ∧ RepM w m tv
theorem MAt.later {w w' : World} {m : Option Tr} {x : Value} (h : MAt w m x) (hb : Below w.heap.size w w') : MAt w' m x := by
  rcases h with h | ⟨b, tv, h1, h2, h3⟩
  · exact .inl h
  · exact .inr ⟨b, tv, h1, by rw [hb.block b (block_lt h2)]; exact h2, h3.later hb⟩
def MapRes (w : World) (m : Option Tr) (e : Ending) (w' : World) : Prop := ∃ x, e = .returned x ∧ MAt w' m x ∧ Below w.heap.size w w'
def TopRes (w : World) (m : Option Tr) (e : Ending) (w' : World) : Prop := ∃ tv, e = .returned tv ∧ RepM w' m tv ∧ w = w'
def TwRes (w : World) (m : Option Tr) (e : Ending) (w' : World) : Prop := ∃ tv, e = .returned tv ∧ RepM w' m tv ∧ Same w w'
def GetRes (w : World) (r : Option ByteArray) (e : Ending) (w' : World) : Prop := e = .returned (.tuple #[.string (r.getD ⟨#[]⟩), .bool r.isSome]) ∧ Same w w'
/-- Pairs are answered in a new slice. -/
def PRes (w : World) (l : List Pr) (e : Ending) (w' : World) : Prop := ∃ v, e = .returned v ∧ POwn w' w.heap.size v l ∧ Below w.heap.size w w'
def StrRes (w : World) (s : ByteArray) (e : Ending) (w' : World) : Prop := e = .returned (.string s) ∧ Below w.heap.size w w'

theorem two_cells {w : World} {b : Nat} {x y : Value} {t : TypeId} (h : w.heap[b]? = some (.cells #[x, y] t (0, 0))) : w.cell? ⟨b, 0, none⟩ = some x ∧ w.cell? ⟨b, 1, none⟩ = some y := by
  simp [World.cell?, h]

theorem str_ne {a b : ByteArray} (h : ¬ a = b) : (a.toList == b.toList) = false := by
  rw [beq_eq_false_iff_ne]
  intro e
  rw [ByteArray.toList_eq, ByteArray.toList_eq] at e
  exact h (ks_inj e)
theorem new_trie (w : World) : Calls Tryz.prog 25 #[] w (MapRes w none) := by
  go_enter Tryz.func25, Tryz.ntmps25
  go_wp2
  go_ret
  exact ⟨_, rfl, .inr ⟨_, _, rfl, heap_at_alloc _ _, rfl⟩, (Below.refl _ w).alloc (Nat.le_refl _) _⟩

theorem top_prog {w : World} {m : Option Tr} {x : Value} (h : MAt w m x) : Calls Tryz.prog 42 #[x] w (TopRes w m) := by
  rcases h with ⟨rfl, rfl⟩ | ⟨b, tv, rfl, h2, h3⟩
  · go_enter Tryz.func42, Tryz.ntmps42
    go_wp2
    go_ret
    exact ⟨_, rfl, rfl, rfl⟩
  · obtain ⟨c0, _⟩ := two_cells h2
    have H3 := Lib.hid h3
    obtain ⟨q, hq⟩ : ∃ q, tv = .pointer q := by
      cases m with
      | none => exact ⟨_, h3⟩
      | some t => obtain ⟨d, rfl, _⟩ := h3; exact ⟨_, rfl⟩
    subst hq
    clear h2 h3
    unfold pp
    go_enter Tryz.func42, Tryz.ntmps42
    go_wp2
    go_ret
    exact ⟨_, rfl, H3.out, rfl⟩
theorem len_trie {w : World} {m : Option Tr} {x : Value} (h : MAt w m x) : Calls Tryz.prog 58 #[x] w fun e w' => e = .returned (.int .i64 ((MT.pairs m).length : Int)) ∧ w = w' := by
  rcases h with ⟨rfl, rfl⟩ | ⟨b, tv, rfl, h2, h3⟩
  · go_enter Tryz.func58, Tryz.ntmps58
    go_wp2
    go_ret
    exact ⟨rfl, rfl⟩
  · obtain ⟨_, c1⟩ := two_cells h2
    clear h2 h3
    unfold pp
    go_enter Tryz.func58, Tryz.ntmps58
    go_wp2
    go_ret
    exact ⟨rfl, rfl⟩

theorem toward_none (k : ByteArray) (n : Nat) (w : World) : Calls Tryz.prog 86 #[.pointer none, .string k, .int .i64 n] w (TwRes w none) := by
  go_enter Tryz.func86, Tryz.ntmps86
  go_wp2
  go_loopw [0] (fun v wr => v = .pointer none ∧ wr = w) (fun _ _ => 0)
  case atStart => exact ⟨rfl, rfl⟩
  case round =>
    obtain ⟨rfl, rfl⟩ := hrel
    go_wp2
    go_ret
    exact ⟨_, rfl, rfl, Same.refl _⟩
theorem toward_any {w : World} {m : Option Tr} {tv : Value} (h : RepM w m tv) (hm : MT.wf m) (k : ByteArray) (n : Nat) (hn : n ≤ 256) (hk : k.size ≤ 1000) :
    Calls Tryz.prog 86 #[tv, .string k, .int .i64 n] w (TwRes w (m.map (towT n (ks k)))) := by
  cases m with
  | none => obtain rfl : tv = .pointer none := h; exact toward_none k n w
  | some t =>
    obtain ⟨b, rfl, hb⟩ := h
    refine (toward_prog t b k n w hn hk (Tr.wf_sz hm) (Tr.wf_asc hm) hb).mono ?_
    rintro e w' ⟨c, rfl, hc, hs⟩
    exact ⟨_, rfl, ⟨c, rfl, hc⟩, hs⟩

theorem get_none (k : ByteArray) (x : Value) (w : World) (hk : k.size ≤ 1000) (h : MAt w none x) : Calls Tryz.prog 49 #[x, .string k] w (GetRes w none) := by
  have HT := Lib.hid (top_prog h)
  clear h
  go_enter Tryz.func49, Tryz.ntmps49
  go_wp2_with fail
  refine HT.out.mono ?_
  rintro e w1 ⟨tv, rfl, hr, rfl⟩
  obtain rfl : tv = .pointer none := hr
  go_wp2_with fail
  refine (toward_any (m := none) (tv := .pointer none) rfl trivial k 256 (by omega) hk).mono ?_
  rintro e w2 ⟨tv2, rfl, hr2, hs2⟩
  obtain rfl : tv2 = .pointer none := hr2
  go_wp2
  go_ret2
  exact ⟨rfl, hs2⟩
set_option maxHeartbeats 1000000 in
theorem get_prog (k : ByteArray) (m : Option Tr) (x : Value) (w : World) (hk : k.size ≤ 1000) (hm : MT.wf m) (h : MAt w m x) : Calls Tryz.prog 49 #[x, .string k] w (GetRes w (getL k (MT.pairs m))) := by
  cases m with
  | none => exact get_none k x w hk h
  | some t =>
    obtain ⟨k', v', htow, hget⟩ := get_ok k t hm
    show Calls _ _ _ _ (GetRes w (getL k t.pairs))
    rw [hget]
    clear hget
    have HT := Lib.hid (top_prog h)
    have HW := Lib.hid (fun (tv : Value) (W : World) (h : RepM W (some t) tv) => toward_any h hm k 256 (by omega) hk)
    simp only [Option.map_some, htow] at HW
    clear h htow hm
    by_cases he : k' = k
    · subst he
      rw [if_pos rfl]
      go_enter Tryz.func49, Tryz.ntmps49
      go_wp2_with fail
      refine HT.out.mono ?_
      rintro e w1 ⟨tv, rfl, hr, rfl⟩
      have HR := Lib.hid hr
      clear hr
      go_wp2_with fail
      refine (HW.out _ _ HR.out).mono ?_
      rintro e w2 ⟨tv2, rfl, ⟨d, rfl, hd⟩, hs2⟩
      obtain ⟨_, c2, c3, _⟩ := NodeAt.cells (show NodeAt w2 d true k' v' 0 _ _ _ from hd)
      have HS := Lib.hid hs2
      clear hd hs2
      unfold pp
      go_wp2_with fail
      go_ret2
      exact ⟨rfl, HS.out⟩
    · rw [if_neg he]
      have he2 := str_ne he
      go_enter Tryz.func49, Tryz.ntmps49
      go_wp2_with fail
      refine HT.out.mono ?_
      rintro e w1 ⟨tv, rfl, hr, rfl⟩
      have HR := Lib.hid hr
      clear hr
      go_wp2_with fail
      refine (HW.out _ _ HR.out).mono ?_
      rintro e w2 ⟨tv2, rfl, ⟨d, rfl, hd⟩, hs2⟩
      obtain ⟨_, c2, c3, _⟩ := NodeAt.cells (show NodeAt w2 d true k' v' 0 _ _ _ from hd)
      have HS := Lib.hid hs2
      clear hd hs2
      unfold pp
      go_wp2_with fail
      go_ret2
      exact ⟨rfl, HS.out⟩
end Go.Proofs.YtmpjpaomgifpcaaGreatDoor
namespace Go.Proofs.YtmpjpaomgifpcaaGreatDoor
open Go.RowKit

theorem root_prog {w : World} {m : Option Tr} {x : Value} (h : MAt w m x) : Calls Tryz.prog 12 #[x] w (StrRes w (MT.root m)) := by
  have HT := Lib.hid (top_prog h)
  clear h
  cases m with
  | none =>
    go_enter Tryz.func12, Tryz.ntmps12
    go_wp2_with fail
    refine HT.out.mono ?_
    rintro e w1 ⟨tv, rfl, hr, rfl⟩
    obtain rfl : tv = .pointer none := hr
    go_wp2_with fail
    refine (empty_prog w).mono ?_
    rintro e w2 ⟨rfl, hb⟩
    go_wp2
    go_ret
    exact ⟨rfl, hb⟩
  | some t =>
    go_enter Tryz.func12, Tryz.ntmps12
    go_wp2_with fail
    refine HT.out.mono ?_
    rintro e w1 ⟨tv, rfl, ⟨d, rfl, hd⟩, rfl⟩
    obtain ⟨_, c7⟩ := Rep.cells hd
    clear hd
    unfold pp
    go_wp2
    go_ret
    exact ⟨rfl, Below.refl _ _⟩
theorem top_trie {w : World} {m : Option Tr} {x : Value} (h : MAt w m x) : Calls Tryz.prog 32 #[x] w (MRes w m) := by
  have HT := Lib.hid (top_prog h)
  clear h
  cases m with
  | none =>
    go_enter Tryz.func32, Tryz.ntmps32
    go_wp2_with fail
    refine HT.out.mono ?_
    rintro e w1 ⟨tv, rfl, hr, rfl⟩
    obtain rfl : tv = .pointer none := hr
    go_wp2_with fail
    refine (copied_nil w).mono ?_
    rintro e w2 ⟨rfl, rfl⟩
    go_wp2
    go_ret
    exact ⟨_, rfl, rfl, Below.refl _ _⟩
  | some t =>
    go_enter Tryz.func32, Tryz.ntmps32
    go_wp2_with fail
    refine HT.out.mono ?_
    rintro e w1 ⟨tv, rfl, ⟨d, rfl, hd⟩, rfl⟩
    have HD := Lib.hid hd
    clear hd
    go_wp2_with fail
    refine (copied_prog t d w HD.out).mono ?_
    rintro e w2 ⟨d2, rfl, hd2, hb2⟩
    have HD2 := Lib.hid hd2
    clear hd2
    go_wp2
    go_ret
    exact ⟨_, rfl, ⟨d2, rfl, HD2.out.rep⟩, hb2⟩

theorem gathered_any {w : World} {m : Option Tr} {tv : Value} (h : RepM w m tv) (hl : (MT.pairs m).length ≤ 100000) :
    Calls Tryz.prog 88 #[.slice none 0 0, tv] w (PRes w (MT.pairs m)) := by
  cases m with
  | none =>
    obtain rfl : tv = .pointer none := h
    clear hl
    go_enter Tryz.func88, Tryz.ntmps88
    go_wp2
    go_ret
    exact ⟨_, rfl, POwn.nil _ _, Below.refl _ _⟩
  | some t =>
    obtain ⟨b, rfl, hb⟩ := h
    refine (gathered_prog w t b w _ [] hb (Below.refl _ _) (POwn.nil _ _) (by simpa [MT.pairs] using hl)).mono ?_
    rintro e w' ⟨v, rfl, h1, h2⟩
    exact ⟨v, rfl, h1, h2⟩
/-- What stands under a prefix, if it is one. -/
def undL (k : ByteArray) (n : Int) (l : List Pr) : List Pr := if k.size = 32 ∧ 0 ≤ n ∧ n ≤ 256 then underL (ks k) n.toNat l else []
end Go.Proofs.YtmpjpaomgifpcaaGreatDoor
namespace Go.Proofs.YtmpjpaomgifpcaaGreatDoor
open Go.RowKit

theorem with_any {w : World} {m : Option Tr} {tv : Value} {c : Nat} (k v : ByteArray) (hk : k.size = 32) (hv : v.size ≤ 5000) (h : RepM w m tv) (hm : MT.wf m) (hc : Rep w (.leaf k v) c) (hst : Start w) :
    Calls Tryz.prog 59 #[tv, pp c] w (MRes w (MT.withM k v m)) := by
  cases m with
  | none =>
    obtain rfl : tv = .pointer none := h
    have HC := Lib.hid hc
    clear hc hst
    unfold pp
    go_enter Tryz.func59, Tryz.ntmps59
    go_wp2
    go_ret
    exact ⟨_, rfl, ⟨c, rfl, HC.out⟩, Below.refl _ _⟩
  | some t =>
    obtain ⟨b, rfl, hb⟩ := h
    refine (with_prog k v hk hv t b c w (Tr.wf_sz hm) hb hc hst).mono ?_
    rintro e w' ⟨d, rfl, h1, h2⟩
    exact ⟨_, rfl, ⟨d, rfl, h1⟩, h2⟩

theorem RepM.ptr {w : World} {m : Option Tr} {tv : Value} (h : RepM w m tv) : ∃ q, tv = .pointer q := by
  cases m with
  | none => exact ⟨_, h⟩
  | some t => obtain ⟨d, rfl, _⟩ := h; exact ⟨_, rfl⟩
theorem trie_new {w : World} {m : Option Tr} {tv : Value} (n : Int) (h : RepM w m tv) (hn : n = ((MT.pairs m).length : Int)) : MAt (w.alloc (.cells #[tv, .int .i64 n] 108)) m (pp w.heap.size) := by
  subst hn
  exact .inr ⟨_, tv, rfl, heap_at_alloc _ _, h.later ((Below.refl _ w).alloc (Nat.le_refl _) _)⟩

set_option maxHeartbeats 1000000 in
theorem put_prog (k v : ByteArray) (m : Option Tr) (x : Value) (w : World) (hk : k.size ≤ 1000) (hv : v.size ≤ 5000) (hm : MT.wf m) (hl : (MT.pairs m).length ≤ 1000) (h : MAt w m x) (hst : Start w) :
    Calls Tryz.prog 26 #[x, .string k, .string v] w (MapRes w (MT.put k v m)) := by
  by_cases h32 : k.size = 32
  · have hkI : ((k.size : Int) != 32) = false := by rw [h32]; rfl
    have hpair := (MT.put_ok k v h32 hv m hm).2
    have hlen := length_put k v (MT.pairs m) (MT.sorted hm)
    rw [← hpair] at hlen
    have eput : MT.put k v m = MT.withM k v m := by unfold MT.put; rw [if_pos h32]
    rw [eput] at hlen ⊢
    have HT := Lib.hid (fun (W : World) (hb : Below w.heap.size w W) => top_prog (h.later hb))
    have HL := Lib.hid (len_trie h)
    have HG := Lib.hid (get_prog k m x w hk hm h)
    have HLF := Lib.hid (fun (W : World) (hb : Below w.heap.size w W) => leaf_prog k v W h32 hv (hst.later hb))
    have HWI := Lib.hid (fun (W : World) (tv : Value) (c : Nat) (h1 : RepM W m tv) (h2 : Rep W (.leaf k v) c) (hb : Below w.heap.size w W) => with_any k v h32 hv h1 hm h2 (hst.later hb))
    obtain ⟨N, hN⟩ : ∃ N, N = (MT.pairs m).length := ⟨_, rfl⟩
    rw [← hN] at hlen HL hl
    have hN0 : (0 : Int) ≤ (N : Int) := by omega
    have hN1 : (N : Int) ≤ 1000 := by omega
    clear h hst hm hN hpair eput
    cases hg : getL k (MT.pairs m) with
    | none =>
      rw [hg] at HG hlen
      have HLEN : Hid ((N : Int) + 1 = ((MT.pairs (MT.withM k v m)).length : Int)) := Lib.hid (by rw [hlen]; simp)
      clear hlen hg h32
      go_enter Tryz.func26, Tryz.ntmps26
      go_wp2_with fail
      refine HL.out.mono ?_
      rintro e w1 ⟨rfl, rfl⟩
      go_wp2_with fail
      refine HG.out.mono ?_
      rintro e w2 ⟨rfl, hs2⟩
      have HS2 := Lib.hid (hs2.below w.heap.size)
      clear hs2
      go_wp2_with fail
      refine (HT.out _ HS2.out).mono ?_
      rintro e w3 ⟨tv, rfl, hr, rfl⟩
      have HR := Lib.hid hr
      clear hr
      go_wp2_with fail
      refine (HLF.out _ HS2.out).mono ?_
      rintro e w4 ⟨c, rfl, hc, hb4⟩
      have HC := Lib.hid hc
      have HB4 := Lib.hid (HS2.out.trans (hb4.mono HS2.out.size))
      have HR4 := Lib.hid (HR.out.later hb4)
      clear hc hb4
      go_wp2_with fail
      refine (HWI.out _ tv c HR4.out HC.out HB4.out).mono ?_
      rintro e w5 ⟨tv5, rfl, hr5, hb5⟩
      have HR5 := Lib.hid hr5
      have HB5 := Lib.hid (HB4.out.trans (hb5.mono HB4.out.size))
      obtain ⟨q5, rfl⟩ := RepM.ptr hr5
      clear hr5 hb5
      go_wp2
      go_ret
      exact ⟨_, rfl, trie_new _ HR5.out HLEN.out, HB5.out.alloc HB5.out.size _⟩
    | some v0 =>
      rw [hg] at HG hlen
      have HLEN : Hid ((N : Int) = ((MT.pairs (MT.withM k v m)).length : Int)) := Lib.hid (by rw [hlen]; simp)
      clear hlen hg h32
      go_enter Tryz.func26, Tryz.ntmps26
      go_wp2_with fail
      refine HL.out.mono ?_
      rintro e w1 ⟨rfl, rfl⟩
      go_wp2_with fail
      refine HG.out.mono ?_
      rintro e w2 ⟨rfl, hs2⟩
      have HS2 := Lib.hid (hs2.below w.heap.size)
      clear hs2
      go_wp2_with fail
      refine (HT.out _ HS2.out).mono ?_
      rintro e w3 ⟨tv, rfl, hr, rfl⟩
      have HR := Lib.hid hr
      clear hr
      go_wp2_with fail
      refine (HLF.out _ HS2.out).mono ?_
      rintro e w4 ⟨c, rfl, hc, hb4⟩
      have HC := Lib.hid hc
      have HB4 := Lib.hid (HS2.out.trans (hb4.mono HS2.out.size))
      have HR4 := Lib.hid (HR.out.later hb4)
      clear hc hb4
      go_wp2_with fail
      refine (HWI.out _ tv c HR4.out HC.out HB4.out).mono ?_
      rintro e w5 ⟨tv5, rfl, hr5, hb5⟩
      have HR5 := Lib.hid hr5
      have HB5 := Lib.hid (HB4.out.trans (hb5.mono HB4.out.size))
      obtain ⟨q5, rfl⟩ := RepM.ptr hr5
      clear hr5 hb5
      go_wp2
      go_ret
      exact ⟨_, rfl, trie_new _ HR5.out HLEN.out, HB5.out.alloc HB5.out.size _⟩
  · have hkI : ((k.size : Int) != 32) = true := by simp; omega
    have eput : MT.put k v m = m := by unfold MT.put; rw [if_neg h32]
    rw [eput]
    have HM := Lib.hid h
    clear h hst hm h32 eput
    go_enter Tryz.func26, Tryz.ntmps26
    go_wp2
    go_ret
    exact ⟨_, rfl, HM.out, Below.refl _ _⟩

set_option maxHeartbeats 1000000 in
theorem del_prog (k : ByteArray) (m : Option Tr) (x : Value) (w : World) (hk : k.size ≤ 1000) (hm : MT.wf m) (hl : (MT.pairs m).length ≤ 1000) (h : MAt w m x) (hst : Start w) :
    Calls Tryz.prog 29 #[x, .string k] w (MapRes w (MT.del k m)) := by
  by_cases h32 : k.size = 32
  · have hkI : ((k.size : Int) != 32) = false := by rw [h32]; rfl
    have hpair := (MT.del_ok k h32 m hm).2
    have hlen := length_del k (MT.pairs m) (MT.sorted hm)
    rw [← hpair] at hlen
    have HT := Lib.hid (fun (W : World) (hb : Below w.heap.size w W) => top_prog (h.later hb))
    have HL := Lib.hid (fun (W : World) (hb : Below w.heap.size w W) => len_trie (h.later hb))
    have HG := Lib.hid (get_prog k m x w hk hm h)
    have hst' := Lib.hid hst
    obtain ⟨N, hN⟩ : ∃ N, N = (MT.pairs m).length := ⟨_, rfl⟩
    cases hg : getL k (MT.pairs m) with
    | none =>
      rw [hg] at HG
      have edel : MT.del k m = m := by unfold MT.del; rw [if_pos h32, if_pos hg]
      rw [edel]
      rw [← hN] at HL hl
      have HNN := Lib.hid hN
      have hN0 : (0 : Int) ≤ (N : Int) := by omega
      have hN1 : (N : Int) ≤ 1000 := by omega
      clear h hst hm hN hpair hlen hg h32 edel
      go_enter Tryz.func29, Tryz.ntmps29
      go_wp2_with fail
      refine HG.out.mono ?_
      rintro e w2 ⟨rfl, hs2⟩
      have HS2 := Lib.hid (hs2.below w.heap.size)
      clear hs2
      go_wp2_with fail
      refine (HT.out _ HS2.out).mono ?_
      rintro e w3 ⟨tv, rfl, hr, rfl⟩
      have HR := Lib.hid hr
      obtain ⟨q3, rfl⟩ := RepM.ptr hr
      clear hr
      go_wp2_with fail
      refine (HL.out _ HS2.out).mono ?_
      rintro e w4 ⟨rfl, rfl⟩
      go_wp2
      go_ret
      exact ⟨_, rfl, trie_new _ HR.out (by rw [HNN.out]), HS2.out.alloc HS2.out.size _⟩
    | some v0 =>
      rw [hg] at HG
      have hlen' := hlen (by rw [hg]; simp)
      cases m with
      | none => cases hg
      | some t =>
        have edel : MT.del k (some t) = withoutT (ks k) t := by unfold MT.del; rw [if_pos h32, if_neg (by rw [hg]; simp)]; rfl
        rw [edel] at hlen' ⊢
        have HW := Lib.hid (fun (b : Nat) (W : World) (hr : Rep W t b) (hb : Below w.heap.size w W) => without_prog k hk t b W (Tr.wf_sz hm) hr (hst'.out.later hb))
        rw [← hN] at hlen' HL hl
        have HLEN : Hid ((N : Int) - 1 = ((MT.pairs (withoutT (ks k) t)).length : Int)) := Lib.hid (by omega)
        have hN0 : (1 : Int) ≤ (N : Int) := by omega
        have hN1 : (N : Int) ≤ 1000 := by omega
        clear h hst hm hN hpair hlen hlen' hg h32 edel
        go_enter Tryz.func29, Tryz.ntmps29
        go_wp2_with fail
        refine HG.out.mono ?_
        rintro e w2 ⟨rfl, hs2⟩
        have HS2 := Lib.hid (hs2.below w.heap.size)
        clear hs2
        go_wp2_with fail
        refine (HT.out _ HS2.out).mono ?_
        rintro e w3 ⟨tv, rfl, ⟨b, rfl, hr⟩, rfl⟩
        have HR := Lib.hid hr
        clear hr
        go_wp2_with fail
        refine (HW.out b _ HR.out HS2.out).mono ?_
        rintro e w4 ⟨tv4, rfl, hr4, hb4⟩
        have HR4 := Lib.hid hr4
        have HB4 := Lib.hid (HS2.out.trans (hb4.mono HS2.out.size))
        obtain ⟨q4, rfl⟩ := RepM.ptr hr4
        clear hr4 hb4
        go_wp2_with fail
        refine (HL.out _ HB4.out).mono ?_
        rintro e w5 ⟨rfl, rfl⟩
        go_wp2
        go_ret
        exact ⟨_, rfl, trie_new _ HR4.out HLEN.out, HB4.out.alloc HB4.out.size _⟩
  · have hkI : ((k.size : Int) != 32) = true := by simp; omega
    have edel : MT.del k m = m := by unfold MT.del; rw [if_neg h32]
    rw [edel]
    have HM := Lib.hid h
    clear h hst hm h32 edel
    go_enter Tryz.func29, Tryz.ntmps29
    go_wp2
    go_ret
    exact ⟨_, rfl, HM.out, Below.refl _ _⟩
end Go.Proofs.YtmpjpaomgifpcaaGreatDoor
namespace Go.Proofs.YtmpjpaomgifpcaaGreatDoor
open Go.RowKit

/-- The bytes of a key of a few letters, behind n letters. -/
def kF (s : ByteArray) (n j : Nat) : UInt8 := if j / 8 < n then (if j % 8 = 0 then (ks s).getD (j / 8) 0 else if j % 8 = 7 then UInt8.ofNat (((ks s).getD (j / 8) 0).toNat / 16) else 0) else 0
def keyB (s : ByteArray) : ByteArray := if 32 ≤ s.size then s.extract 0 32 else ⟨((List.range 32).map (kF s (min s.size 4))).toArray⟩
theorem keyB_size (s : ByteArray) : (keyB s).size = 32 := by
  unfold keyB
  split
  · simp; omega
  · rw [mk_size]; simp

theorem intOf_int (k : IntKind) (x : Int) : intOf (.int k x) = x := rfl
def KeyRel (s : ByteArray) (w : World) (g : Nat) (i : Value) (wr : World) : Prop := ∃ n : Nat, i = .int .i64 n ∧ n ≤ 4 ∧ n ≤ s.size ∧ wr.rowIs g 5 32 (fun j => byteV (kF s n j)) ∧ Below w.heap.size w wr

set_option maxRecDepth 30000 in
set_option maxHeartbeats 1000000 in
theorem key_prog (s : ByteArray) (w : World) (hs : s.size ≤ 1000) : Calls Tryz.prog 27 #[.string s] w (StrRes w (keyB s)) := by
  by_cases hbig : 32 ≤ s.size
  · have e : keyB s = s.extract 0 32 := by unfold keyB; rw [if_pos hbig]
    rw [e]
    have hI : (32 : Int) ≤ (s.size : Int) := by omega
    have hI2 : ¬ (s.size : Int) < 32 := by omega
    clear e
    go_enter Tryz.func27, Tryz.ntmps27
    go_wp2
    go_ret
    exact ⟨rfl, Below.refl _ _⟩
  · have hI : ¬ (32 : Int) ≤ (s.size : Int) := by omega
    have hI2 : (s.size : Int) < 32 := by omega
    obtain ⟨m, hm⟩ : ∃ m, m = min s.size 4 := ⟨_, rfl⟩
    have e : keyB s = ⟨((List.range 32).map (kF s m)).toArray⟩ := by unfold keyB; rw [if_neg hbig, hm]
    rw [e]
    have HM := Lib.hid hm
    clear e hm hbig
    go_enter Tryz.func27, Tryz.ntmps27
    go_wp2_with (refine list_makeN Tryz.bytesSl rfl _ _ rfl 32 32 32 rfl rfl rfl rfl (by omega) (by unfold maxLen; omega) rfl ?_)
    intro w1 hr1 hb1
    have hg : w.heap.size < w1.heap.size := hr1.lt
    have HR1 : Hid (w1.rowIs w.heap.size 5 32 (fun j => byteV (kF s 0 j))) := Lib.hid (hr1.congr (fun j _ => by simp [kF, byteV]))
    have HB1 := Lib.hid hb1
    clear hr1 hb1
    go_wp2_with fail
    go_loopw [4] (KeyRel s w w.heap.size) (fun i _ => 4 - (intOf i).toNat)
    case atStart => exact ⟨0, rfl, by omega, by omega, HR1.out, HB1.out⟩
    case round =>
      obtain ⟨n, rfl, hn4, hns, hrow, hbw⟩ := hrel
      have hn0 : (0 : Int) ≤ (n : Int) := by omega
      have hn1 : (n : Int) ≤ 4 := by omega
      by_cases hlt : n < m
      · have hm1 : n < s.size := by have := HM.out; omega
        have hm2 : n < 4 := by have := HM.out; omega
        have hI3 : (n : Int) < (s.size : Int) := by omega
        have hI4 : (n : Int) < 4 := by omega
        have hx := (s[n]'hm1).toNat_lt
        have hx0 : (0 : Int) ≤ ((s[n]'hm1).toNat : Int) := by omega
        have hx1 : ((s[n]'hm1).toNat : Int) ≤ 255 := by omega
        have c0 := hrow.cell (i := 8 * n) (by omega)
        have f0 := hrow.frozen (8 * n)
        have hrow1 := row_put (f' := fun j => if j = 8 * n then byteV (s[n]'hm1) else byteV (kF s n j)) hrow (8 * n) (byteV (s[n]'hm1)) (fun j _ => rfl)
        have c1 := hrow1.cell (i := 8 * n + 7) (by omega)
        have f1 := hrow1.frozen (8 * n + 7)
        have hne87 : ¬ (8 * n + 7 = 8 * n) := by omega
        simp only [if_neg hne87] at c1
        have hrow2 := row_put (f' := fun j => byteV (kF s (n + 1) j)) hrow1 (8 * n + 7) (.int .u8 (((s[n]'hm1).toNat : Int) / 16)) (fun j hj => by
          have hg : (ks s).getD n 0 = s[n]'hm1 := ks_getD s n hm1
          have h16 : ((s[n]'hm1).toNat / 16) < 256 := by omega
          by_cases h1 : j = 8 * n + 7
          · subst h1
            have e1 : (8 * n + 7) / 8 = n := by omega
            have e2 : (8 * n + 7) % 8 = 7 := by omega
            simp only [kF, e1, e2, if_true, hg, byteV]
            simp; omega
          · rw [if_neg h1]
            by_cases h2 : j = 8 * n
            · subst h2
              have e1 : (8 * n) / 8 = n := by omega
              have e2 : (8 * n) % 8 = 0 := by omega
              simp only [kF, e1, e2, if_true, hg]
              simp
            · rw [if_neg h2]
              congr 1
              unfold kF
              by_cases h3 : j / 8 < n
              · rw [if_pos h3, if_pos (by omega)]
              · rw [if_neg h3]
                split
                · rw [if_neg (by omega), if_neg (by omega)]
                · rfl)
        have HROW := Lib.hid hrow2
        have HB2 := Lib.hid ((hbw.setCell (p := ⟨w.heap.size, 8 * n, none⟩) (Nat.le_refl _) (byteV (s[n]'hm1))).setCell (p := ⟨w.heap.size, 8 * n + 7, none⟩) (Nat.le_refl _) (.int .u8 (((s[n]'hm1).toNat : Int) / 16)))
        clear hrow hrow1 hrow2 hbw
        unfold byteV at c0 c1 f1 HROW HB2
        go_wp2_with fail
        go_roundw
        case rel => exact ⟨n + 1, by simp, by omega, by omega, HROW.out, HB2.out⟩
        case measure => rw [intOf_int, intOf_int]; omega
      · have hnm : n = m := by have := HM.out; omega
        have hge : ¬ ((n : Int) < (s.size : Int)) ∨ ((n : Int) < (s.size : Int) ∧ ¬ ((n : Int) < 4)) := by have := HM.out; omega
        have hc := rowIs_block hrow
        have hcells : arrL 32 (fun j => Value.int .u8 ((kF s n j).toNat : Int)) = ((List.range 32).map (kF s n)).map byteV := by simp [arrL, byteV]
        have hc2 : wr.heap[w.heap.size]? = some (.cells (((List.range 32).map (kF s n)).map byteV).toArray 5 (0, 0)) := by rw [hc, ← hcells]; rfl
        have hcv := run_string_row (src := 99) (dst := 9) Tryz.underlying99 Tryz.underlying5 Tryz.underlying9 w.heap.size 32 ((List.range 32).map (kF s n)) (P := Tryz.prog) (e := 5) (w := wr) hc2
        rw [show ((List.range 32).map (kF s n)).length = 32 by simp] at hcv
        have HNM := Lib.hid hnm
        have HB2 := Lib.hid hbw
        clear hc hcells hc2 hrow hbw hnm
        rcases hge with h1 | ⟨h1, h2⟩
        · go_wp2
          go_ret
          exact ⟨by rw [HNM.out]; rfl, HB2.out⟩
        · go_wp2
          go_ret
          exact ⟨by rw [HNM.out]; rfl, HB2.out⟩
end Go.Proofs.YtmpjpaomgifpcaaGreatDoor
namespace Go.Proofs.YtmpjpaomgifpcaaGreatDoor
open Go.RowKit
set_option maxRecDepth 100000
theorem kh1 : sumL [49] = [107, 134, 178, 115, 255, 52, 252, 225, 157, 107, 128, 78, 255, 90, 63, 87, 71, 173, 164, 234, 162, 47, 29, 73, 192, 30, 82, 221, 183, 135, 91, 75] := by decide +kernel
theorem kh2 : sumL [50] = [212, 115, 94, 58, 38, 94, 22, 238, 224, 63, 89, 113, 139, 155, 93, 3, 1, 156, 7, 216, 182, 197, 31, 144, 218, 58, 102, 110, 236, 19, 171, 53] := by decide +kernel
theorem kh3 : sumL [0, 97, 0, 0, 0, 0, 0, 0, 6, 0, 0, 0, 0, 0, 0, 0, 0, 0, 0, 0, 0, 0, 0, 0, 0, 0, 0, 0, 0, 0, 0, 0, 0, 107, 134, 178, 115, 255, 52, 252, 225, 157, 107, 128, 78, 255, 90, 63, 87, 71, 173, 164, 234, 162, 47, 29, 73, 192, 30, 82, 221, 183, 135, 91, 75] = [157, 91, 237, 164, 254, 14, 185, 10, 55, 103, 104, 100, 89, 154, 165, 202, 10, 37, 95, 40, 221, 217, 255, 140, 106, 2, 103, 185, 36, 207, 76, 189] := by decide +kernel
theorem kh4 : sumL [0, 98, 0, 0, 0, 0, 0, 0, 6, 0, 0, 0, 0, 0, 0, 0, 0, 0, 0, 0, 0, 0, 0, 0, 0, 0, 0, 0, 0, 0, 0, 0, 0, 212, 115, 94, 58, 38, 94, 22, 238, 224, 63, 89, 113, 139, 155, 93, 3, 1, 156, 7, 216, 182, 197, 31, 144, 218, 58, 102, 110, 236, 19, 171, 53] = [143, 186, 171, 39, 48, 163, 13, 83, 20, 192, 62, 1, 220, 116, 19, 145, 68, 106, 183, 14, 201, 251, 96, 22, 4, 54, 66, 219, 35, 68, 121, 251] := by decide +kernel
theorem kh5 : sumL [1, 0, 6, 96, 0, 0, 0, 0, 0, 0, 0, 0, 0, 0, 0, 0, 0, 0, 0, 0, 0, 0, 0, 0, 0, 0, 0, 0, 0, 0, 0, 0, 0, 0, 0, 157, 91, 237, 164, 254, 14, 185, 10, 55, 103, 104, 100, 89, 154, 165, 202, 10, 37, 95, 40, 221, 217, 255, 140, 106, 2, 103, 185, 36, 207, 76, 189, 143, 186, 171, 39, 48, 163, 13, 83, 20, 192, 62, 1, 220, 116, 19, 145, 68, 106, 183, 14, 201, 251, 96, 22, 4, 54, 66, 219, 35, 68, 121, 251] = [39, 233, 241, 188, 12, 214, 46, 60, 107, 197, 86, 151, 1, 210, 204, 170, 170, 216, 85, 33, 195, 242, 40, 20, 156, 245, 67, 8, 78, 234, 115, 51] := by decide +kernel

abbrev vA : ByteArray := ⟨#[49]⟩
abbrev vB : ByteArray := ⟨#[50]⟩
def kA : ByteArray := keyB ⟨#[97]⟩
def kB : ByteArray := keyB ⟨#[98]⟩
theorem kA_eq : ks kA = [97, 0, 0, 0, 0, 0, 0, 6, 0, 0, 0, 0, 0, 0, 0, 0, 0, 0, 0, 0, 0, 0, 0, 0, 0, 0, 0, 0, 0, 0, 0, 0] := by decide +kernel
theorem kB_eq : ks kB = [98, 0, 0, 0, 0, 0, 0, 6, 0, 0, 0, 0, 0, 0, 0, 0, 0, 0, 0, 0, 0, 0, 0, 0, 0, 0, 0, 0, 0, 0, 0, 0] := by decide +kernel
theorem kA_size : kA.size = 32 := keyB_size _
theorem kB_size : kB.size = 32 := keyB_size _
theorem kAB : kA ≠ kB := fun e => by
  have h := congrArg ks e
  rw [kA_eq, kB_eq] at h
  exact absurd h (by decide)
theorem com_AB : comL (ks kA) (ks kB) = 6 := by decide +kernel
theorem bit_A : bitL (ks kA) 6 = false := by decide +kernel
theorem first_A : ks (firstB kA 6) = [96, 0, 0, 0, 0, 0, 0, 0, 0, 0, 0, 0, 0, 0, 0, 0, 0, 0, 0, 0, 0, 0, 0, 0, 0, 0, 0, 0, 0, 0, 0, 0] := by rw [ks_firstB]; decide +kernel
def awkT : Tr := .fork 6 (firstB kA 6) (.leaf kA vA) (.leaf kB vB)
theorem awk_m1 : MT.put kA vA none = some (.leaf kA vA) := by unfold MT.put; rw [if_pos kA_size]; rfl
theorem awk_m2 : MT.put kB vB (some (.leaf kA vA)) = some awkT := by
  unfold MT.put; rw [if_pos kB_size]
  show some (withT kB vB (.leaf kA vA)) = _
  unfold withT
  rw [com_AB, if_pos (by omega)]
  unfold joinT
  rw [show (Tr.leaf kA vA).key = kA from rfl, bit_A, if_neg (by simp)]
  rfl
theorem awk_get : getL kA (MT.pairs (some awkT)) = some vA := by
  show getL kA [(kA, vA), (kB, vB)] = _
  rw [getL, if_pos rfl]
theorem awk_m3 : MT.del kA (some awkT) = some (.leaf kB vB) := by
  unfold MT.del
  rw [if_pos kA_size, if_neg (by rw [awk_get]; simp)]
  rw [Option.bind_some]
  unfold awkT withoutT
  rw [bit_A, if_neg (by simp)]
  rfl
theorem awk_m4 : MT.del kB (some (.leaf kB vB)) = none := by
  unfold MT.del
  rw [if_pos kB_size, if_neg (by show getL kB [(kB, vB)] ≠ none; rw [getL, if_pos rfl]; simp)]
  rfl
theorem wf_A : (Tr.leaf kA vA).wf := ⟨kA_size, by decide⟩
theorem wf_B : (Tr.leaf kB vB).wf := ⟨kB_size, by decide⟩
theorem awk_wf : MT.wf (some awkT) := by
  rw [← awk_m2]; exact (MT.put_ok kB vB kB_size (by decide) (some (.leaf kA vA)) wf_A).1
theorem leafT_A : leafT kA vA = [0, 97, 0, 0, 0, 0, 0, 0, 6, 0, 0, 0, 0, 0, 0, 0, 0, 0, 0, 0, 0, 0, 0, 0, 0, 0, 0, 0, 0, 0, 0, 0, 0, 107, 134, 178, 115, 255, 52, 252, 225, 157, 107, 128, 78, 255, 90, 63, 87, 71, 173, 164, 234, 162, 47, 29, 73, 192, 30, 82, 221, 183, 135, 91, 75] := by
  unfold leafT
  rw [kA_eq, show ks vA = [49] from rfl, kh1]; rfl
theorem leafT_B : leafT kB vB = [0, 98, 0, 0, 0, 0, 0, 0, 6, 0, 0, 0, 0, 0, 0, 0, 0, 0, 0, 0, 0, 0, 0, 0, 0, 0, 0, 0, 0, 0, 0, 0, 0, 212, 115, 94, 58, 38, 94, 22, 238, 224, 63, 89, 113, 139, 155, 93, 3, 1, 156, 7, 216, 182, 197, 31, 144, 218, 58, 102, 110, 236, 19, 171, 53] := by
  unfold leafT
  rw [kB_eq, show ks vB = [50] from rfl, kh2]; rfl
theorem awk_root : ks (MT.root (some awkT)) = [39, 233, 241, 188, 12, 214, 46, 60, 107, 197, 86, 151, 1, 210, 204, 170, 170, 216, 85, 33, 195, 242, 40, 20, 156, 245, 67, 8, 78, 234, 115, 51] := by
  show ks (sumB (forkT 6 (firstB kA 6) (sumB (leafT kA vA)) (sumB (leafT kB vB)))) = _
  rw [ks_sumB, leafT_A, leafT_B]
  unfold forkT
  rw [ks_sumB, ks_sumB, kh3, kh4, first_A]
  exact kh5
theorem awk_ne : ¬ MT.root (some awkT) = noneH := fun e => by
  have h := congrArg ks e
  rw [awk_root] at h
  exact absurd h (by decide)
end Go.Proofs.YtmpjpaomgifpcaaGreatDoor
namespace Go.Proofs.YtmpjpaomgifpcaaGreatDoor
open Go.RowKit

theorem print_at (s R : ByteArray) (w : World) (hR : sumB (ks s) = R) (hs : s.size ≤ 100000) : Calls Tryz.prog 52 #[.string s] w (StrRes w R) := by
  subst hR; exact print_ref s w hs
theorem leaf_text (k v S : ByteArray) (hS : sumB (ks v) = S) : sumB (ks (⟨#[0]⟩ ++ k ++ S)) = leafH k v := by
  subst hS
  simp [leafH, leafT, ks, sumB]

theorem three_size (k S : ByteArray) (hk : k.size = 32) (hS : S.size = 32) : ((⟨#[0]⟩ : ByteArray) ++ k ++ S).size ≤ 100000 := by
  rw [ByteArray.size_append, ByteArray.size_append, hk, hS]
  have : (⟨#[0]⟩ : ByteArray).size = 1 := rfl
  omega
theorem leaf_print (k v S : ByteArray) (hS : sumB (ks v) = S) (hk : k.size = 32) (w : World) : Calls Tryz.prog 52 #[.string ((⟨#[0]⟩ : ByteArray) ++ k ++ S)] w (StrRes w (leafH k v)) := by
  have h1 := leaf_text k v S hS
  have h2 := three_size k S hk (by rw [← hS]; exact sumB_size _)
  generalize ((⟨#[0]⟩ : ByteArray) ++ k ++ S) = T at h1 h2 ⊢
  exact print_at T _ w h1 h2
end Go.Proofs.YtmpjpaomgifpcaaGreatDoor
