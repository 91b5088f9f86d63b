/- The reference's Texts; of two chains that part the ends' hashes are unlike, or two unlike texts have one. -/
import Derived.Test.YtgcaaigfgbglcaaDoorEClash
import Derived.Test.YtgcaaigfgbglcaaDoorECutP
import Derived.Test.YtgcaaigfgbglcaaDoorELawC
namespace Go.Proofs.YtgcaaigfgbglcaaDoor
open Go.RowKit
open Cod (Grew)
def bytesOf (m : List Sg) : List ByteArray := m.map (fun s => s.h.bytes)
theorem hash_good {s : Sg} (h : Good s) : s.h.hash = hB s.h.bytes := by
  unfold Hd.hash
  rw [if_pos h.2.1]; rfl
theorem bytes_inj {a b : Sg} (ha : Good a) (hb : Good b) (h : a.h.bytes = b.h.bytes) : a.h = b.h := by
  have e : hdB a.h = hdB b.h := by
    have := congrArg (fun x : ByteArray => x.data.toList) h
    simpa [Hd.bytes] using this
  exact hdB_inj ha.1 hb.1 (by decide) e
/-- Links of a chain, with what stands ahead of it. -/
def Links (f : Sg) (m : List Sg) : Prop := ∀ i p s, (f :: m)[i]? = some p → (f :: m)[i + 1]? = some s → follB p.h s.h = true
theorem foll_prev {a b : Hd} (h : follB a b = true) : b.prev = a.hash := by
  unfold follB at h
  simp only [Bool.and_eq_true, decide_eq_true_eq] at h
  exact h.2.2.2.2.2
theorem down {f : Sg} {m n : List Sg} (hm : ∀ s ∈ m, Good s) (hn : ∀ s ∈ n, Good s) (lm : Links f m) (ln : Links f n) (hc : ¬ ClB (bytesOf m ++ bytesOf n)) :
    ∀ (k : Nat) (a b : Sg), m[k]? = some a → n[k]? = some b → a.h.hash = b.h.hash → ∀ i, i ≤ k → ∀ x y, m[i]? = some x → n[i]? = some y → x.h = y.h
  | k, a, b, ha, hb, he => by
    have ga := hm a (List.mem_of_getElem? ha)
    have gb := hn b (List.mem_of_getElem? hb)
    have hab : a.h = b.h := by
      by_cases hbb : a.h.bytes = b.h.bytes
      · exact bytes_inj ga gb hbb
      · exfalso
        refine hc (.inr ⟨a.h.bytes, ?_, b.h.bytes, ?_, hbb, by rw [← hash_good ga, ← hash_good gb]; exact he⟩)
        · exact List.mem_append_left _ (List.mem_map.2 ⟨a, List.mem_of_getElem? ha, rfl⟩)
        · exact List.mem_append_right _ (List.mem_map.2 ⟨b, List.mem_of_getElem? hb, rfl⟩)
    intro i hi x y hx hy
    rcases Nat.eq_or_lt_of_le hi with h | h
    · subst h
      rw [ha] at hx; rw [hb] at hy
      injection hx with hx; injection hy with hy
      rw [← hx, ← hy]; exact hab
    · cases k with
      | zero => omega
      | succ k =>
        have l1 : k < m.length := by have := (List.getElem?_eq_some_iff.1 ha).1; omega
        have l2 : k < n.length := by have := (List.getElem?_eq_some_iff.1 hb).1; omega
        obtain ⟨p, hp⟩ : ∃ p, m[k]? = some p := ⟨_, List.getElem?_eq_getElem l1⟩
        obtain ⟨q, hq⟩ : ∃ q, n[k]? = some q := ⟨_, List.getElem?_eq_getElem l2⟩
        have e1 := foll_prev (lm (k + 1) p a (by simpa using hp) (by simpa using ha))
        have e2 := foll_prev (ln (k + 1) q b (by simpa using hq) (by simpa using hb))
        have e3 : p.h.hash = q.h.hash := by rw [← e1, ← e2, hab]
        exact down hm hn lm ln hc k p q hp hq e3 i (by omega) x y hx hy
def StrTx (w : World) (l : List ByteArray) (e : Ending) (w' : World) : Prop := ∃ v, e = .returned v ∧ Hid (SOwn w' w.heap.size v l) ∧ Below w.heap.size w w'
def txRel (w : World) (m : List Sg) (v i : Value) (wr : World) : Prop := ∃ k : Nat, i = .int .i64 (k : Int) ∧ k ≤ m.length ∧ Hid (Below w.heap.size w wr) ∧ Hid (SOwn wr w.heap.size v (bytesOf (m.take k)))
set_option maxHeartbeats 4000000 in
set_option maxRecDepth 100000 in
theorem texts_prog (m : List Sg) (hm : ∀ s ∈ m, Good s) (hl : m.length ≤ 1000) (v : Value) (w : World) (hv : SSl w v m) :
    Calls Tryd.prog 35 #[v] w (StrTx w (bytesOf m)) := by
  have HV := Lib.hid hv
  have HM := Lib.hid hm
  obtain ⟨va, vc, rfl⟩ := hv.shape
  obtain ⟨N, hN⟩ : ∃ N, m.length = N := ⟨_, rfl⟩
  rw [hN] at hl ⊢
  have HN := Lib.hid hN
  have bl : (N : Int) ≤ 1000 := by omega
  clear hv hm hN hl
  go_enter Tryd.func35, Tryd.ntmps35
  go_wp2_with fail
  go_loopw [3, 4] (txRel w m) (fun _ i _ => N - (intOf i).toNat)
  case atStart => exact ⟨0, rfl, by omega, Lib.hid (Below.refl _ _), Lib.hid (SOwn.nil _ _)⟩
  case round =>
    obtain ⟨k, rfl, hk, HB, HS⟩ := hrel
    rw [HN.out] at hk
    by_cases hlt : k < N
    · have i0 : (0 : Int) ≤ (k : Int) := by omega
      have i1 : (k : Int) < (N : Int) := by omega
      obtain ⟨s, hs⟩ : ∃ s, m[k]? = some s := ⟨m[k]'(by rw [HN.out]; exact hlt), List.getElem?_eq_getElem _⟩
      have HG := Lib.hid (HM.out s (List.mem_of_getElem? hs))
      obtain ⟨g, o, c, ev, hcl⟩ := (HV.out.later HB.out).get hs
      rw [HN.out] at ev
      injection ev with e1 e2 e3
      subst e1 e3
      clear e2
      obtain ⟨q0, q1, q2, q3, q4, q5, q6⟩ := hcl
      have KB := Lib.hid (fun W => rbytes_prog s.h 32 HG.out.1 (by decide) W true s.h.bytes HG.out.2.1 rfl)
      unfold hdV at KB
      have HTK : Hid (bytesOf (m.take (k + 1)) = bytesOf (m.take k) ++ [s.h.bytes]) := Lib.hid (by
        obtain ⟨h1, h2⟩ := List.getElem?_eq_some_iff.1 hs
        unfold bytesOf
        rw [List.take_succ_eq_append_getElem h1, h2]; simp)
      have HLT := Lib.hid hlt
      have htk : (bytesOf (m.take k)).length = k := by unfold bytesOf; simp [HN.out]; omega
      have HTL := Lib.hid htk
      obtain ⟨av, ac, rfl⟩ := SOwn.shape HS.out
      rw [HTL.out] at HS ⊢
      obtain ⟨S, hS⟩ : ∃ S, s.h.bytes = S := ⟨_, rfl⟩
      rw [hS] at KB HTK
      clear hs hlt hk htk hS
      go_wp2_with fail
      refine (KB.out _).mono ?_
      rintro e w2 ⟨rfl, hb2⟩
      have HB2 := Lib.hid (HB.out.trans (hb2.mono HB.out.size))
      have HS2 : Hid (SOwn w2 w.heap.size (.slice av k ac) (bytesOf (m.take k))) := Lib.hid (SOwn.later HS.out hb2)
      clear hb2 q0 q1 q2 q3 q4 q5 q6
      obtain ⟨gz, hgz⟩ : ∃ gz, gz = w2.heap.size := ⟨_, rfl⟩
      obtain ⟨W5, hW5⟩ : ∃ W, W = w2.alloc (.cells #[.string S] 9) := ⟨_, rfl⟩
      have HB5 : Hid (Below w.heap.size w W5) := Lib.hid (by rw [hW5]; exact HB2.out.alloc HB2.out.size _)
      have HN5 : Hid (SOwn W5 0 (.slice (some ⟨gz, 0, none⟩) 1 1) [S]) := Lib.hid (by rw [hW5, hgz]; exact one_own w2 0 (Nat.zero_le _) S)
      have HS5 : Hid (SOwn W5 w.heap.size (.slice av k ac) (bytesOf (m.take k))) := Lib.hid (by rw [hW5]; exact SOwn.alloc HS2.out _)
      go_wp2_with (first
        | (at_builtin; simp only [← hW5, ← hgz]; refine list_appS rfl _ _ rfl w.heap.size (.slice av k ac) (bytesOf (m.take k)) rfl HS5.out (.slice (some ⟨gz, 0, none⟩) 1 1) 0 [S] rfl HN5.out (by rw [HTL.out]; simp; omega) HB5.out.size ?_))
      intro v6 w6 hs6 hg6
      rw [← hW5] at hg6
      have HB6 : Hid (Below w.heap.size w w6) := Lib.hid (HB5.out.trans (hg6.below HB5.out.size (fun kk hkk => SOwn.low HS.out kk hkk)))
      have HS6 := Lib.hid hs6
      clear hs6 hg6 hW5 hgz
      go_wp2_with fail
      go_roundw
      case rel => exact ⟨k + 1, by go_num, by rw [HN.out]; exact HLT.out, HB6, Lib.hid (by rw [HTK.out]; exact HS6.out)⟩
      case measure => simp [intOf]; omega
    · have hkN : k = N := by omega
      have hlt2 : ¬ (k : Int) < (N : Int) := by omega
      have HE : Hid (bytesOf (m.take k) = bytesOf m) := Lib.hid (by rw [List.take_of_length_le (by rw [HN.out]; omega)])
      clear hk
      go_wp2_with fail
      go_ret
      exact ⟨_, rfl, Lib.hid (by rw [← HE.out]; exact HS.out), HB.out⟩
end Go.Proofs.YtgcaaigfgbglcaaDoor
