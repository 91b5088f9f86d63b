/- raft: Receive, of the term or a lesser one, every kind. -/
import Derived.Test.YtflkdgghpmhbgaaGreatKN
import Derived.Test.YtflkdgghpmhbgaaGreatKM
import Derived.Test.YtflkdgghpmhbgaaGreatKU
import Derived.Test.YtflkdgghpmhbgaaGreatKS
namespace Go.Proofs.YtflkdgghpmhbgaaGreat
open Go.RowKit
section
variable {x : RN} {M K : Nat}
theorem RN.In.follow (h : x.In M K) (l : Int) : (x.follow l).In M K := ⟨h.s, h.id, h.n, h.term, h.last, h.commit, Nat.zero_le _, h.ps⟩
theorem RN.In.setPs (h : x.In M K) (d : Nat) (q : Pr) (hq : q.a ≤ K ∧ q.m ≤ K) : RN.In { x with ps := x.ps.set d q } M K := by
  refine ⟨h.s, ?_, ?_, h.term, h.last, h.commit, h.pat, fun r hr => ?_⟩
  · show x.id < (List.set _ _ _).length; rw [List.length_set]; exact h.id
  · show (List.set _ _ _).length ≤ 9; rw [List.length_set]; exact h.n
  · rcases List.mem_or_eq_of_mem_set hr with hr | rfl
    · exact h.ps r hr
    · exact hq
theorem RN.In.peer (h : x.In M K) (d : Nat) : (x.ps.getD d ⟨false, 0, 0⟩).a ≤ K ∧ (x.ps.getD d ⟨false, 0, 0⟩).m ≤ K := by
  rw [List.getD_eq_getElem?_getD]
  cases hx : x.ps[d]? with
  | none => exact ⟨Nat.zero_le _, Nat.zero_le _⟩
  | some y => exact h.ps y (List.mem_of_getElem? hx)
theorem RN.In.backs (h : x.In M K) (m : Mg) (d : Nat) : (x.backs m d).In M K := by
  have hp := h.peer d
  refine h.setPs d _ ⟨?_, hp.2⟩
  show max (min (max _ 1 - 1) _) _ ≤ K
  omega
theorem RN.In.fwd (h : x.In M K) (m : Mg) (d : Nat) : x.fwd m d ≤ K := by
  have hp := h.peer d
  have := lastN_le x.s.c
  have := h.last
  unfold RN.fwd
  omega
theorem RN.In.goes (h : x.In M K) (m : Mg) (d : Nat) : (x.goes m d).In M K := h.setPs d _ ⟨h.fwd m d, h.fwd m d⟩
theorem RN.In.told (h : x.In M K) (m : Mg) (d : Nat) : (x.told m d).1.In M K := by
  unfold RN.told
  split
  · split
    · split
      · exact (h.goes m d).count
      · exact (h.goes m d).count
    · exact h.backs m d
  · exact h
theorem RN.In.keep (h : x.In M K) (hM : M ≤ 100000000) (hK : K ≤ 1000000000000000000) : ∀ (E : List Ent) (b : Nat), EntsOk E → b + E.length ≤ K → (x.keep b E).1.In (M + (entsL E).length + 33) K
  | [], b, _, _ => h.mono (by omega) (Nat.le_refl _)
  | e :: E, b, hE, hb => by
    have hf := h.fit hM hK
    have hlen : (e :: E).length = E.length + 1 := rfl
    unfold RN.keep
    split
    · have := RN.In.keep h hM hK E (b + 1) (fun y hy => hE y (List.mem_cons_of_mem _ hy)) (by omega)
      refine this.mono ?_ (Nat.le_refl _)
      have := entsL_drop (e :: E) 1
      simp only [List.drop_succ_cons, List.drop_zero] at this
      omega
    · split
      · exact h.mono (by omega) (Nat.le_refl _)
      · have hb64 : b < m64 := by unfold m64; omega
        have hs := (h.s.add b (e :: E) hb64 hE).mono (M2 := M + (entsL (e :: E)).length + 33) (by omega)
        have hcc := LgS.add_c x.s b (e :: E) hb64 hE
        have ht : (x.s.add b (e :: E)).1.c.term = x.s.c.term := by
          rcases hcc with q | ⟨q, _⟩
          · exact congrArg CT.term q
          · rw [q]; rfl
        have hl : (x.s.add b (e :: E)).1.c.base + (x.s.add b (e :: E)).1.c.ents.length ≤ K := by
          rcases hcc with q | ⟨q, h2⟩
          · rw [q]; exact h.last
          · rw [q, addE_last hf.m64 h2]; exact hb
        exact ⟨hs, h.id, h.n, by show (x.s.add b (e :: E)).1.c.term ≤ K; rw [ht]; exact h.term, hl, h.commit, h.pat, h.ps⟩
theorem RN.In.take2 (h : x.In M K) (hM : M ≤ 100000000) (hK : K ≤ 1000000000000000000) (m : Mg) (b : Nat) (E : List Ent) (hE : EntsOk E) (hb : b + E.length ≤ K) : (x.take2 m b E).1.In (M + (entsL E).length + 33) K := by
  have hk := h.keep hM hK E b hE hb
  unfold RN.take2
  split
  · exact ⟨hk.s, hk.id, hk.n, hk.term, hk.last, by show max _ (min _ _) ≤ K; have := hk.commit; omega, hk.pat, hk.ps⟩
  · exact hk
theorem RN.In.take (h : x.In M K) (hM : M ≤ 100000000) (hK : K ≤ 1000000000000000000) (m : Mg) (hE : EntsOk m.ents) (hb : m.index + m.ents.length ≤ K) : (x.take m).1.In (M + (entsL m.ents).length + 33) K := by
  unfold RN.take
  split
  · split
    · exact h.mono (by omega) (Nat.le_refl _)
    · have := entsL_drop m.ents (x.s.c.base - m.index)
      refine (h.take2 hM hK m _ _ (fun y hy => hE y (List.mem_of_mem_drop hy)) ?_).mono (by omega) (Nat.le_refl _)
      rw [List.length_drop]
      omega
  · split
    · exact h.take2 hM hK m _ _ hE hb
    · exact h.mono (by omega) (Nat.le_refl _)
theorem RN.In.led2 (h : x.In M K) (hM : M ≤ 100000000) (hK : K ≤ 1000000000000000000) (m : Mg) (hE : EntsOk m.ents) (hb : m.index + m.ents.length ≤ K) (hl : m.lterm ≤ K) (hs : m.state.size ≤ 1000000) : (x.led2 m).1.In (M + (entsL m.ents).length + m.state.size + 33) K := by
  unfold RN.led2
  split
  · exact h.mono (by omega) (Nat.le_refl _)
  · split
    · exact h.mono (by omega) (Nat.le_refl _)
    · split
      · exact ((h.follow m.src).install m (by omega) hl hs hK).mono (by omega) (Nat.le_refl _)
      · exact ((h.follow m.src).take hM hK m hE hb).mono (by omega) (Nat.le_refl _)
end
end Go.Proofs.YtflkdgghpmhbgaaGreat
namespace Go.Proofs.YtflkdgghpmhbgaaGreat
open Go.RowKit
section
variable {w : World} {p : Pl} {x : RN} {M K : Nat}
theorem recv_le (h : XW w p x) (hi : x.In M K) (hM : M ≤ 80000000) (hK : K ≤ 10000000000000000) (hkn : x.s.Knows) (m : Mg) (ev : Value) (hm : MsgAt w p ev m.ents) (hxa : m.ents ≠ [] → ∀ k, ev.ownBlock = some k → k ≠ p.xb)
    (hidx : m.index ≤ 1000000000000000000) (hcm : m.commit ≤ 1000000000000000000) (hlt : m.lterm < m64) (hst : m.state.size ≤ 100000000) (hmt : m.term < m64) (hl : x.leaves m = false) (ht : m.term ≤ x.s.c.term) :
    Calls Tryz.prog 23 #[.pointer (some ⟨p.xb, 0, none⟩), .agg (mgL m ev).toArray] w fun e w' => (∃ v, e = .returned v ∧ MOwn w' w.heap.size v (x.receive m).2) ∧ XO p w (x.receive m).1 w' := by
  obtain ⟨l1, l2, l3, l4, l5⟩ := leaves_not hl
  have hsrc : m.src = (m.src.toNat : Int) := by omega
  have hd : m.src.toNat < x.ps.length := by omega
  have hn := hi.n
  have hR : x.receive m = x.kindly m := by unfold RN.receive; rw [if_neg (by rw [hl]; simp), if_neg (by omega)]
  have fit : ∀ {y : RN}, y.In M K → y.Fit := fun hy => hy.fit (by omega) (by omega)
  by_cases k0 : m.kind = 0
  · exact recv_k0 h hkn hn m ev hl ht k0 (hR.trans (by unfold RN.kindly; rw [if_pos k0])) (fun W hW _ => asked_prog hW hi hM hK m ev hmt)
  by_cases k1 : m.kind = 1
  · exact recv_k1 h hkn hn m ev hl ht k1 (hR.trans (by unfold RN.kindly; rw [if_neg k0, if_pos k1])) (fun W hW _ => chosen_prog hW hi hM hK m ev _ hd hsrc)
  by_cases k2 : m.kind = 2
  · exact recv_k2 h hkn hn m ev hl ht k2 (hR.trans (by unfold RN.kindly; rw [if_neg k0, if_neg k1, if_pos (.inl k2)])) (fun W hW hb => led_prog hW (fit (hi.follow m.src)) ev (hm.later hb) hxa hidx hcm hlt hst)
  by_cases k4 : m.kind = 4
  · exact recv_k4 h hkn hn m ev hl ht k4 (hR.trans (by unfold RN.kindly; rw [if_neg k0, if_neg k1, if_pos (.inr k4)])) (fun W hW hb => led_prog hW (fit (hi.follow m.src)) ev (hm.later hb) hxa hidx hcm hlt hst)
  by_cases k3 : m.kind = 3
  · exact recv_k3 h hkn hn m ev hl ht k3 (hR.trans (by unfold RN.kindly; rw [if_neg k0, if_neg k1, if_neg (by omega), if_pos k3])) (fun W hW _ => told_prog hW (fit hi) _ hd hsrc (fit (hi.backs m _)) (fit (hi.goes m _)) (fit (hi.goes m _).count) ev hidx)
  exact recv_ko h hkn hn m ev hl ht k0 k1 k2 k4 k3 (hR.trans (by unfold RN.kindly; rw [if_neg k0, if_neg k1, if_neg (by omega), if_neg k3]))
end
end Go.Proofs.YtflkdgghpmhbgaaGreat
