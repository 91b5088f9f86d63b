/- trie's maps: Put, Delete. -/
import Derived.Test.YtohcackebmmikaaDoorITop2
namespace Go.Proofs.YtohcackebmmikaaDoor
open Go.RowKit

theorem with_any {w : World} {m : Option Tr} {tv : Value} {c : Nat} (k v : ByteArray) (hk : k.size = 32) (hv : v.size ≤ 100) (h : RepM w m tv) (hm : MT.wf m) (hc : Rep w (.leaf k v) c) (hst : Start w) :
    Calls Tryd.prog 43 #[tv, pp c] w (MRes w (MT.withM k v m)) := by
  cases m with
  | none =>
    obtain rfl : tv = .pointer none := h
    have HC := Lib.hid hc
    clear hc hst
    unfold pp
    go_enter Tryd.func43, Tryd.ntmps43
    go_wp2
    go_ret
    exact ⟨_, rfl, ⟨c, rfl, HC.out⟩, Below.refl _ _⟩
  | some t =>
    obtain ⟨b, rfl, hb⟩ := h
    refine (with_prog k v hk hv t b c w (Tr.wf_sz hm) hb hc hst).mono ?_
    rintro e w' ⟨d, rfl, h1, h2⟩
    exact ⟨_, rfl, ⟨d, rfl, h1⟩, h2⟩

theorem RepM.ptr {w : World} {m : Option Tr} {tv : Value} (h : RepM w m tv) : ∃ q, tv = .pointer q := by
  cases m with
  | none => exact ⟨_, h⟩
  | some t => obtain ⟨d, rfl, _⟩ := h; exact ⟨_, rfl⟩
theorem trie_new {w : World} {m : Option Tr} {tv : Value} (n : Int) (h : RepM w m tv) (hn : n = ((MT.pairs m).length : Int)) : MAt (w.alloc (.cells #[tv, .int .i64 n] 66)) m (pp w.heap.size) := by
  subst hn
  exact .inr ⟨_, tv, rfl, heap_at_alloc _ _, h.later ((Below.refl _ w).alloc (Nat.le_refl _) _)⟩

set_option maxHeartbeats 1000000 in
theorem put_prog (k v : ByteArray) (m : Option Tr) (x : Value) (w : World) (hk : k.size ≤ 1000) (hv : v.size ≤ 100) (hm : MT.wf m) (hl : (MT.pairs m).length ≤ 1000) (h : MAt w m x) (hst : Start w) :
    Calls Tryd.prog 25 #[x, .string k, .string v] w (MapRes w (MT.put k v m)) := by
  by_cases h32 : k.size = 32
  · have hkI : ((k.size : Int) != 32) = false := by rw [h32]; rfl
    have hpair := (MT.put_ok k v h32 hv m hm).2
    have hlen := length_put k v (MT.pairs m) (MT.sorted hm)
    rw [← hpair] at hlen
    have eput : MT.put k v m = MT.withM k v m := by unfold MT.put; rw [if_pos h32]
    rw [eput] at hlen ⊢
    have HT := Lib.hid (fun (W : World) (hb : Below w.heap.size w W) => top_prog (h.later hb))
    have HL := Lib.hid (len_trie h)
    have HG := Lib.hid (get_prog k m x w hk hm h)
    have HLF := Lib.hid (fun (W : World) (hb : Below w.heap.size w W) => leaf_prog k v W h32 hv (hst.later hb))
    have HWI := Lib.hid (fun (W : World) (tv : Value) (c : Nat) (h1 : RepM W m tv) (h2 : Rep W (.leaf k v) c) (hb : Below w.heap.size w W) => with_any k v h32 hv h1 hm h2 (hst.later hb))
    obtain ⟨N, hN⟩ : ∃ N, N = (MT.pairs m).length := ⟨_, rfl⟩
    rw [← hN] at hlen HL hl
    have hN0 : (0 : Int) ≤ (N : Int) := by omega
    have hN1 : (N : Int) ≤ 1000 := by omega
    clear h hst hm hN hpair eput
    cases hg : getL k (MT.pairs m) with
    | none =>
      rw [hg] at HG hlen
      have HLEN : Hid ((N : Int) + 1 = ((MT.pairs (MT.withM k v m)).length : Int)) := Lib.hid (by rw [hlen]; simp)
      clear hlen hg h32
      go_enter Tryd.func25, Tryd.ntmps25
      go_wp2_with fail
      refine HL.out.mono ?_
      rintro e w1 ⟨rfl, rfl⟩
      go_wp2_with fail
      refine HG.out.mono ?_
      rintro e w2 ⟨rfl, hs2⟩
      have HS2 := Lib.hid (hs2.below w.heap.size)
      clear hs2
      go_wp2_with fail
      refine (HT.out _ HS2.out).mono ?_
      rintro e w3 ⟨tv, rfl, hr, rfl⟩
      have HR := Lib.hid hr
      clear hr
      go_wp2_with fail
      refine (HLF.out _ HS2.out).mono ?_
      rintro e w4 ⟨c, rfl, hc, hb4⟩
      have HC := Lib.hid hc
      have HB4 := Lib.hid (HS2.out.trans (hb4.mono HS2.out.size))
      have HR4 := Lib.hid (HR.out.later hb4)
      clear hc hb4
      go_wp2_with fail
      refine (HWI.out _ tv c HR4.out HC.out HB4.out).mono ?_
      rintro e w5 ⟨tv5, rfl, hr5, hb5⟩
      have HR5 := Lib.hid hr5
      have HB5 := Lib.hid (HB4.out.trans (hb5.mono HB4.out.size))
      obtain ⟨q5, rfl⟩ := RepM.ptr hr5
      clear hr5 hb5
      go_wp2
      go_ret
      exact ⟨_, rfl, trie_new _ HR5.out HLEN.out, HB5.out.alloc HB5.out.size _⟩
    | some v0 =>
      rw [hg] at HG hlen
      have HLEN : Hid ((N : Int) = ((MT.pairs (MT.withM k v m)).length : Int)) := Lib.hid (by rw [hlen]; simp)
      clear hlen hg h32
      go_enter Tryd.func25, Tryd.ntmps25
      go_wp2_with fail
      refine HL.out.mono ?_
      rintro e w1 ⟨rfl, rfl⟩
      go_wp2_with fail
      refine HG.out.mono ?_
      rintro e w2 ⟨rfl, hs2⟩
      have HS2 := Lib.hid (hs2.below w.heap.size)
      clear hs2
      go_wp2_with fail
      refine (HT.out _ HS2.out).mono ?_
      rintro e w3 ⟨tv, rfl, hr, rfl⟩
      have HR := Lib.hid hr
      clear hr
      go_wp2_with fail
      refine (HLF.out _ HS2.out).mono ?_
      rintro e w4 ⟨c, rfl, hc, hb4⟩
      have HC := Lib.hid hc
      have HB4 := Lib.hid (HS2.out.trans (hb4.mono HS2.out.size))
      have HR4 := Lib.hid (HR.out.later hb4)
      clear hc hb4
      go_wp2_with fail
      refine (HWI.out _ tv c HR4.out HC.out HB4.out).mono ?_
      rintro e w5 ⟨tv5, rfl, hr5, hb5⟩
      have HR5 := Lib.hid hr5
      have HB5 := Lib.hid (HB4.out.trans (hb5.mono HB4.out.size))
      obtain ⟨q5, rfl⟩ := RepM.ptr hr5
      clear hr5 hb5
      go_wp2
      go_ret
      exact ⟨_, rfl, trie_new _ HR5.out HLEN.out, HB5.out.alloc HB5.out.size _⟩
  · have hkI : ((k.size : Int) != 32) = true := by simp; omega
    have eput : MT.put k v m = m := by unfold MT.put; rw [if_neg h32]
    rw [eput]
    have HM := Lib.hid h
    clear h hst hm h32 eput
    go_enter Tryd.func25, Tryd.ntmps25
    go_wp2
    go_ret
    exact ⟨_, rfl, HM.out, Below.refl _ _⟩

set_option maxHeartbeats 1000000 in
theorem del_prog (k : ByteArray) (m : Option Tr) (x : Value) (w : World) (hk : k.size ≤ 1000) (hm : MT.wf m) (hl : (MT.pairs m).length ≤ 1000) (h : MAt w m x) (hst : Start w) :
    Calls Tryd.prog 26 #[x, .string k] w (MapRes w (MT.del k m)) := by
  by_cases h32 : k.size = 32
  · have hkI : ((k.size : Int) != 32) = false := by rw [h32]; rfl
    have hpair := (MT.del_ok k h32 m hm).2
    have hlen := length_del k (MT.pairs m) (MT.sorted hm)
    rw [← hpair] at hlen
    have HT := Lib.hid (fun (W : World) (hb : Below w.heap.size w W) => top_prog (h.later hb))
    have HL := Lib.hid (fun (W : World) (hb : Below w.heap.size w W) => len_trie (h.later hb))
    have HG := Lib.hid (get_prog k m x w hk hm h)
    have hst' := Lib.hid hst
    obtain ⟨N, hN⟩ : ∃ N, N = (MT.pairs m).length := ⟨_, rfl⟩
    cases hg : getL k (MT.pairs m) with
    | none =>
      rw [hg] at HG
      have edel : MT.del k m = m := by unfold MT.del; rw [if_pos h32, if_pos hg]
      rw [edel]
      rw [← hN] at HL hl
      have HNN := Lib.hid hN
      have hN0 : (0 : Int) ≤ (N : Int) := by omega
      have hN1 : (N : Int) ≤ 1000 := by omega
      clear h hst hm hN hpair hlen hg h32 edel
      go_enter Tryd.func26, Tryd.ntmps26
      go_wp2_with fail
      refine HG.out.mono ?_
      rintro e w2 ⟨rfl, hs2⟩
      have HS2 := Lib.hid (hs2.below w.heap.size)
      clear hs2
      go_wp2_with fail
      refine (HT.out _ HS2.out).mono ?_
      rintro e w3 ⟨tv, rfl, hr, rfl⟩
      have HR := Lib.hid hr
      obtain ⟨q3, rfl⟩ := RepM.ptr hr
      clear hr
      go_wp2_with fail
      refine (HL.out _ HS2.out).mono ?_
      rintro e w4 ⟨rfl, rfl⟩
      go_wp2
      go_ret
      exact ⟨_, rfl, trie_new _ HR.out (by rw [HNN.out]), HS2.out.alloc HS2.out.size _⟩
    | some v0 =>
      rw [hg] at HG
      have hlen' := hlen (by rw [hg]; simp)
      cases m with
      | none => cases hg
      | some t =>
        have edel : MT.del k (some t) = withoutT (ks k) t := by unfold MT.del; rw [if_pos h32, if_neg (by rw [hg]; simp)]; rfl
        rw [edel] at hlen' ⊢
        have HW := Lib.hid (fun (b : Nat) (W : World) (hr : Rep W t b) (hb : Below w.heap.size w W) => without_prog k hk t b W (Tr.wf_sz hm) hr (hst'.out.later hb))
        rw [← hN] at hlen' HL hl
        have HLEN : Hid ((N : Int) - 1 = ((MT.pairs (withoutT (ks k) t)).length : Int)) := Lib.hid (by omega)
        have hN0 : (1 : Int) ≤ (N : Int) := by omega
        have hN1 : (N : Int) ≤ 1000 := by omega
        clear h hst hm hN hpair hlen hlen' hg h32 edel
        go_enter Tryd.func26, Tryd.ntmps26
        go_wp2_with fail
        refine HG.out.mono ?_
        rintro e w2 ⟨rfl, hs2⟩
        have HS2 := Lib.hid (hs2.below w.heap.size)
        clear hs2
        go_wp2_with fail
        refine (HT.out _ HS2.out).mono ?_
        rintro e w3 ⟨tv, rfl, ⟨b, rfl, hr⟩, rfl⟩
        have HR := Lib.hid hr
        clear hr
        go_wp2_with fail
        refine (HW.out b _ HR.out HS2.out).mono ?_
        rintro e w4 ⟨tv4, rfl, hr4, hb4⟩
        have HR4 := Lib.hid hr4
        have HB4 := Lib.hid (HS2.out.trans (hb4.mono HS2.out.size))
        obtain ⟨q4, rfl⟩ := RepM.ptr hr4
        clear hr4 hb4
        go_wp2_with fail
        refine (HL.out _ HB4.out).mono ?_
        rintro e w5 ⟨rfl, rfl⟩
        go_wp2
        go_ret
        exact ⟨_, rfl, trie_new _ HR4.out HLEN.out, HB4.out.alloc HB4.out.size _⟩
  · have hkI : ((k.size : Int) != 32) = true := by simp; omega
    have edel : MT.del k m = m := by unfold MT.del; rw [if_neg h32]
    rw [edel]
    have HM := Lib.hid h
    clear h hst hm h32 edel
    go_enter Tryd.func26, Tryd.ntmps26
    go_wp2
    go_ret
    exact ⟨_, rfl, HM.out, Below.refl _ _⟩
end Go.Proofs.YtohcackebmmikaaDoor
