/- Tree: shut. -/
import Derived.Test.YtaojcbdljgcfgaaCTr3
import Derived.BigRegion
import Derived.Deep.RegionLawGrows
namespace Go.Proofs.Ytaojcbdljgcfgaa
open Go.RowKit

theorem setCell_comm (w : World) (a b : Addr) (x y : Value) (h : a.block ≠ b.block) : (w.setCell a x).setCell b y = (w.setCell b y).setCell a x := by
  unfold World.setCell
  simp only [World.mk.injEq, and_true]
  refine Array.ext (by simp) (fun i h1 h2 => ?_)
  simp only [Array.getElem_modify]
  by_cases e1 : a.block = i
  · have e2 : b.block ≠ i := by omega
    simp [e1, e2]
  · simp [e1]
theorem set4_comm (w : World) (g i : Nat) (a b c d : Value) (p : Addr) (x : Value) (h : g ≠ p.block) : set4 (w.setCell p x) g i a b c d = (set4 w g i a b c d).setCell p x := by
  unfold set4
  rw [setCell_comm w p ⟨g, i, none⟩ _ _ (Ne.symm h), setCell_comm _ p ⟨g, i + 1, none⟩ _ _ (Ne.symm h), setCell_comm _ p ⟨g, i + 2, none⟩ _ _ (Ne.symm h), setCell_comm _ p ⟨g, i + 3, none⟩ _ _ (Ne.symm h)]
theorem set4_below {w w' : World} {B g i : Nat} (h : Below B w w') (hg : B ≤ g) (a b c d : Value) : Below B w (set4 w' g i a b c d) := by
  unfold set4; exact (((h.setCell hg _).setCell hg _).setCell hg _).setCell hg _
theorem push_forms (P : World → Prop) (w : World) (g i go o : Nat) (a b c d x : Value) (hne : g ≠ go) (h : P ((set4 w g i a b c d).setCell ⟨go, o, none⟩ x)) :
    P (((((w.setCell ⟨g, i, none⟩ a).setCell ⟨g, i + 1, none⟩ b).setCell ⟨g, i + 2, none⟩ c).setCell ⟨g, i + 3, none⟩ d).setCell ⟨go, o, none⟩ x) ∧
      P (((((w.setCell ⟨go, o, none⟩ x).setCell ⟨g, i, none⟩ a).setCell ⟨g, i + 1, none⟩ b).setCell ⟨g, i + 2, none⟩ c).setCell ⟨g, i + 3, none⟩ d) := by
  refine ⟨h, ?_⟩
  rw [← set4_comm _ _ _ _ _ _ _ ⟨go, o, none⟩ _ hne] at h
  exact h
theorem snoc_get {cs zs : List Value} {n : Nat} (h : cs.length = n) (i : Nat) (u : Value) (hu : zs[i]? = some u) : (cs ++ zs)[n + i]? = some u := by
  rw [List.getElem?_append_right (by omega), h, show n + i - n = i by omega]; exact hu
theorem own_new {w : World} {A : Nat} {e : TypeId} {g n m cap : Nat} {cs : List Value} {z0 z1 z2 z3 : Value} (h : w.ownsRow A e 4 (.slice (some ⟨g, 0, none⟩) n cap) n (cs ++ [z0, z1, z2, z3])) (hl : cs.length = m * 4) :
    w.cell? ⟨g, m * 4, none⟩ = some z0 ∧ w.cell? ⟨g, m * 4 + 1, none⟩ = some z1 ∧ w.cell? ⟨g, m * 4 + 2, none⟩ = some z2 ∧ w.cell? ⟨g, m * 4 + 3, none⟩ = some z3 ∧
      w.frozen? ⟨g, m * 4, none⟩ = false ∧ w.frozen? ⟨g, m * 4 + 1, none⟩ = false ∧ w.frozen? ⟨g, m * 4 + 2, none⟩ = false ∧ w.frozen? ⟨g, m * 4 + 3, none⟩ = false :=
  ⟨own_cell h _ _ (snoc_get hl 0 _ rfl), own_cell h _ _ (snoc_get hl 1 _ rfl), own_cell h _ _ (snoc_get hl 2 _ rfl), own_cell h _ _ (snoc_get hl 3 _ rfl), own_frozen h _, own_frozen h _, own_frozen h _, own_frozen h _⟩
theorem grew_ne {w w' : World} {v v' : Value} {b : Nat} (h : Grew w v w' v') (hb : b < w.heap.size) (hn : v.ownBlock ≠ some b) : v'.ownBlock ≠ some b := fun e => by
  rcases h.loc b e with h1 | h1
  · exact hn h1
  · omega

theorem own_cap {w : World} {A : Nat} {e : TypeId} {n cap size : Nat} {a : Option Addr} {xs : List Value} (h : w.ownsRow A e size (.slice a n cap) n xs) : n ≤ cap := by
  rcases h.2 with ⟨h0, h1⟩ | ⟨g2, cap2, cur, hv, hB, hg, hn, _⟩
  · rw [h1]; exact Nat.zero_le _
  · injection hv with e1 e2 e3
    rw [e3]; exact hn
theorem own_shape {w : World} {A : Nat} {e : TypeId} {n size : Nat} {v : Value} {xs : List Value} (h : w.ownsRow A e size v n xs) : ∃ a c, v = .slice a n c := by
  rcases h.2 with ⟨h0, h1⟩ | ⟨g2, cap2, cur, hv, _⟩
  · exact ⟨none, 0, by rw [h0, h1]⟩
  · exact ⟨_, _, hv⟩
theorem frozen_ofG {w w' : World} {v v' : Value} (h : Grew w v w' v') {b o : Nat} (hb : b < w.heap.size) (hne : v.ownBlock ≠ some b) (hf : w.frozen? ⟨b, o, none⟩ = false) : w'.frozen? ⟨b, o, none⟩ = false := by
  rw [← hf]; unfold World.frozen?; rw [h.block hb hne]

set_option maxRecDepth 30000 in
set_option maxHeartbeats 4000000 in
theorem shut_ok {w : World} {A B g4 : Nat} {ws : List (Value × F)} {v1 v2 : Value} {f1 f2 : F} {ov : Value} {col : Nat → Nat} (hst : St w A g4 (ws ++ [(v1, f1), (v2, f2)]) ov col)
    (hA : B ≤ A) (hg : B ≤ g4) (hB : B ≤ w.heap.size) (hAw : A ≤ w.heap.size) (hwl : ws.length ≤ 100) (hfl : f1.len ≤ 1000000) :
    Calls Try.prog 22 #[.pointer (some ⟨g4, 0, none⟩)] w fun e w' => e = .returned (.tuple #[]) ∧ Below B w w' ∧ ∃ ov' v' col', St w' A g4 (ws ++ [(v', f1.app (.cons 2 0 ⟨#[]⟩ f2 .nil))]) ov' col' := by
  have hst2 : St w A g4 ((ws ++ [(v1, f1)]) ++ [(v2, f2)]) ov col := by simpa using hst
  obtain ⟨go, cap, rfl, hAgo, hgo, hcgo, t0, t1, t2, t3, t4, tf, tf4, hop⟩ := st_top hst2
  simp only [List.length_append, List.length_cons, List.length_nil] at t0 t1 t2 t3 t4 hst
  simp only [Nat.zero_add] at t0 t1 t2 t3 t4 hst
  have hcap : ws.length + 1 + 1 ≤ cap := by
    have := hst.2.1
    simp only [List.length_append, List.length_cons, List.length_nil] at this
    exact own_cap this
  have hcapI : (ws.length : Int) + 1 ≤ (cap : Int) := by omega
  obtain ⟨va, vc, rfl⟩ := own_shape hop.choose_spec.1
  obtain ⟨col', hSt', hK'⟩ := st_pop hst
  obtain ⟨W, hW⟩ : ∃ W, W = (w.setCell ⟨g4, 0, none⟩ (.slice (some ⟨go, 0, none⟩) (ws.length + 1) cap)).alloc (.cells #[.int .i64 2, .int .u64 0, .string ⟨#[]⟩, .slice va f2.len vc] 27) := ⟨_, rfl⟩
  have hWb : Below (w.setCell ⟨g4, 0, none⟩ (.slice (some ⟨go, 0, none⟩) (ws.length + 1) cap)).heap.size (w.setCell ⟨g4, 0, none⟩ (.slice (some ⟨go, 0, none⟩) (ws.length + 1) cap)) W := by
    rw [hW]; exact (Below.refl _ _).alloc (Nat.le_refl _) _
  have hWs : W.heap.size = w.heap.size + 1 := by rw [hW]; simp [World.setCell]
  have hWB : Below B w W := by
    rw [hW]; exact (((Below.refl _ w).setCell (by exact hg) _)).alloc (by rw [size_setCell]; omega) _
  have HS := Lib.hid (st_below hSt' hWb)
  have HK : Hid (KidsAt W (fun b => A ≤ b ∧ b < W.heap.size ∧ col' b = 2 * ws.length + 3) f2 (.slice va f2.len vc)) := Lib.hid (hK'.mono (fun b hb => ⟨hb.1, by rw [size_setCell] at hb; omega, hb.2.2⟩) (fun b hb => hWb.block b hb.2.1))
  have hblk : Hid (W.heap[w.heap.size]? = some (.cells #[.int .i64 2, .int .u64 0, .string ⟨#[]⟩, .slice va f2.len vc] 27 (0, 0))) := Lib.hid (by
    rw [hW]; have := heap_alloc_new (w.setCell ⟨g4, 0, none⟩ (.slice (some ⟨go, 0, none⟩) (ws.length + 1) cap)) (.cells #[.int .i64 2, .int .u64 0, .string ⟨#[]⟩, .slice va f2.len vc] 27)
    rwa [size_setCell] at this)
  have hg4lt : g4 < w.heap.size := hst.2.2.2.2.2
  have hgog : g4 ≠ go := fun e => by have := hst.2.2.2.2.1; rw [e] at this; omega
  have hwl0 : (0 : Int) ≤ (ws.length : Int) := by omega
  have hwl1 : (ws.length : Int) ≤ 100 := by omega
  have hv1lt : ∀ k, v1.ownBlock = some k → k < w.heap.size := by
    obtain ⟨_, k1, _⟩ := hSt'.2.2.2.1 ws.length (v1, f1) (by simp)
    intro k hk
    have := (World.ownsRow.lt k1 k hk).2
    rwa [size_setCell] at this
  clear hst hst2 hop hSt' hK' hWb
  go_enter Try.func22, Try.ntmps22
  go_wp2_with fail
  rw [← hW]
  clear t0 t1 t2 t3 t4 tf tf4 hcgo hcap
  obtain ⟨go2, cap2, he, _, _, hcgo, t0, t1, t2, t3, t4, tf, tf4, hop⟩ := st_top HS.out
  injection he with e1 e2 e3
  injection e1 with e1
  injection e1 with e1
  subst e1 e3
  obtain ⟨cs, k1, k2, k3⟩ := hop
  obtain ⟨v1a, v1c, rfl⟩ := own_shape k1
  obtain ⟨x0, x1, x2, x3, _, _, _, _⟩ := block4 hblk.out
  have hfI : (f1.len : Int) ≤ 1000000 := by omega
  have hne : Hid ((Value.slice v1a f1.len v1c).ownBlock ≠ some go) := Lib.hid (fun h => by have := k3 go h; omega)
  have hnx : Hid ((Value.slice v1a f1.len v1c).ownBlock ≠ some w.heap.size) := Lib.hid (fun h => by have := hv1lt _ h; omega)
  have K1 := Lib.hid k1
  have K2 := Lib.hid k2
  have K3 := Lib.hid k3
  have tf3 := tf (ws.length * 4 + 3)
  have TF := Lib.hid tf
  have HWS := Lib.hid hWs
  have hxW : w.heap.size < W.heap.size := by omega
  have hgoW : go < W.heap.size := by omega
  have HGOW : Hid (go < W.heap.size) := Lib.hid (by omega)
  have HCL : Hid (cs.length = f1.len * 4) := Lib.hid k1.1
  have hf0 : (0 : Int) ≤ (f1.len : Int) := by omega
  have hf1 : (f1.len : Int) < (f1.len : Int) + 1 := by omega
  clear k1 k2 k3 t0 t1 t2 t3 tf hW hWs
  have GA := (Grew.alloc W (.cells #[.int .i64 0, .int .u64 0, .string ⟨#[]⟩, .slice none 0 0] 27) (.slice none 0 0)).trans (Grew.drew _ _)
  have GN : ∀ {b : Nat}, (Value.slice none 0 0).ownBlock ≠ some b := fun h => by simp [Value.ownBlock] at h
  go_region_law (refine step_appN Try.nodeSl rfl _ _ (by rfl) A _ f1.len cs (by rfl) ((K1.out.alloc _).drew) W.heap.size 1 1 [.int .i64 0, .int .u64 0, .string ⟨#[]⟩, .slice none 0 0] (by rfl) (heap_at_alloc W _) rfl (by simp [Value.oneCell']) (by omega) (by unfold maxLen; omega) (by omega) (by have := HWS.out; simp [World.drew]; omega) ?_; intro g cap3 w2 hown2 hb2; have G2 : Grew W (.slice v1a f1.len v1c) w2 _ := ((Grew.alloc _ _ _).trans (Grew.drew _ _)).trans hb2; obtain ⟨Z0, Z1, Z2, Z3, Y0, Y1, Y2, Y3⟩ := own_new hown2 HCL.out; have T4 := G2.cell t4 hne.out; have TF3 := frozen_ofG G2 HGOW.out hne.out tf3; have HGG : g ≠ go := fun e => grew_ne G2 HGOW.out hne.out (by rw [e]; rfl))
  all_goals
    (have hend : Below B w ((set4 w2 g (f1.len * 4) (.int .i64 2) (.int .u64 0) (.string ⟨#[]⟩) (.slice va f2.len vc)).setCell ⟨go, ws.length * 4 + 3, none⟩ (.slice (some ⟨g, 0, none⟩) (f1.len + 1) cap3)) :=
      (set4_below (hWB.trans (G2.below (by have := hWB.size; omega) (fun k hk => Nat.le_trans hA (World.ownsRow.lt K1.out k hk).1))) (Nat.le_trans hA (World.ownsRow.lt hown2 g rfl).1) _ _ _ _).setCell (Nat.le_trans hA hAgo) _
     have hp := st_push HS.out K2.out K3.out (Below.refl _ _) G2 hown2 (k := 2) (n := 0) (s := ⟨#[]⟩) HK.out
     have hq := push_forms (fun w' => Below B w w' ∧ ∃ ov' v' col', St w' A g4 (ws ++ [(v', f1.app (.cons 2 0 ⟨#[]⟩ f2 .nil))]) ov' col') _ _ _ _ _ _ _ _ _ _ HGG ⟨hend, _, _, hp.choose, hp.choose_spec⟩
     refine bodyPost_end (v := .tuple #[]) (results_none rfl _ _ _) rfl ⟨rfl, ?_⟩
     clear hend hp
     first
       | with_reducible exact hq.1
       | with_reducible exact hq.2)
end Go.Proofs.Ytaojcbdljgcfgaa
