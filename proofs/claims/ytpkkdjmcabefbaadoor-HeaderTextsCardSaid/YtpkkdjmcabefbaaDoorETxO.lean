/- The program: the signed header that a node stands for. -/
import Derived.Test.YtpkkdjmcabefbaaDoorETxN
import Derived.BigRegion
namespace Go.Proofs.YtpkkdjmcabefbaaDoor
open Go.RowKit
open Cod (F Nd nodeL nodeV KidsAt CellsOf)
/-- The seven cells of a list's kids that Of reads. -/
structure K7 (w : World) (g o : Nat) (s : Sg) : Prop where
  c0 : w.cell? ⟨g, o + 1, none⟩ = some (.int .u64 s.h.shard)
  c1 : w.cell? ⟨g, o + 4 + 1, none⟩ = some (.int .u64 s.h.seq)
  c2 : w.cell? ⟨g, o + 8 + 2, none⟩ = some (.string s.h.prev)
  c3 : w.cell? ⟨g, o + 12 + 2, none⟩ = some (.string s.h.root)
  c4 : w.cell? ⟨g, o + 16 + 1, none⟩ = some (.int .u64 s.h.who)
  c5 : w.cell? ⟨g, o + 20 + 1, none⟩ = some (.int .u64 s.h.stamp)
  c6 : w.cell? ⟨g, o + 24 + 2, none⟩ = some (.string s.mac)
theorem cellE2 {w w' : World} {b o : Nat} {v : Value} (hb : Below w.heap.size w w') (hc : w.cell? ⟨b, o, none⟩ = some v) : w'.cell? ⟨b, o, none⟩ = some v := by
  rw [hb.cell (p := ⟨b, o, none⟩) (World.block_lt_of_cell? w _ hc)]; exact hc
theorem K7.later {w w' : World} {g o : Nat} {s : Sg} (h : K7 w g o s) (hb : Below w.heap.size w w') : K7 w' g o s :=
  ⟨cellE2 hb h.c0, cellE2 hb h.c1, cellE2 hb h.c2, cellE2 hb h.c3, cellE2 hb h.c4, cellE2 hb h.c5, cellE2 hb h.c6⟩
theorem K7.mv {w w' : World} {g o : Nat} {s : Sg} (h : K7 w g o s) (e : w'.heap[g]? = w.heap[g]?) : K7 w' g o s := by
  have f : ∀ k, w'.cell? ⟨g, k, none⟩ = w.cell? ⟨g, k, none⟩ := fun k => World.cell?_of_block (a := ⟨g, k, none⟩) e
  exact ⟨by rw [f]; exact h.c0, by rw [f]; exact h.c1, by rw [f]; exact h.c2, by rw [f]; exact h.c3, by rw [f]; exact h.c4, by rw [f]; exact h.c5, by rw [f]; exact h.c6⟩
theorem K7.lt {w : World} {g o : Nat} {s : Sg} (h : K7 w g o s) : g < w.heap.size := World.block_lt_of_cell? w _ h.c0
theorem kids7 {w : World} {S : Nat → Prop} {f : F} {v : Value} {s : Sg} (h : KidsAt w S f v) (hl : f.len = 7) (hs : seven f = some s) : ∃ g o cap, v = .slice (some ⟨g, o, none⟩) 7 cap ∧ K7 w g o s := by
  obtain ⟨k0, k1, k2, k3, k4, k5, k6, n2, n3, n6, s0, s1, s4, s5, c0, c1, c2, c3, c4, c5, c6, t, e, q⟩ := seven_inv f hl
  rw [hs] at q
  injection q with q
  subst q
  obtain ⟨g, o, cap, rfl, _, hL⟩ := h.lies (by omega)
  rw [e] at hL
  obtain ⟨⟨_, _, a0, _, _, _⟩, hL⟩ := Cod.lies_cons.1 hL
  obtain ⟨⟨_, _, a1, _, _, _⟩, hL⟩ := Cod.lies_cons.1 hL
  obtain ⟨⟨_, _, _, a2, _, _⟩, hL⟩ := Cod.lies_cons.1 hL
  obtain ⟨⟨_, _, _, a3, _, _⟩, hL⟩ := Cod.lies_cons.1 hL
  obtain ⟨⟨_, _, a4, _, _, _⟩, hL⟩ := Cod.lies_cons.1 hL
  obtain ⟨⟨_, _, a5, _, _, _⟩, hL⟩ := Cod.lies_cons.1 hL
  obtain ⟨⟨_, _, _, a6, _, _⟩, _⟩ := Cod.lies_cons.1 hL
  exact ⟨g, o, cap, by rw [hl], a0, a1, a2, a3, a4, a5, a6⟩
set_option maxHeartbeats 8000000 in
set_option maxRecDepth 100000 in
theorem of_prog (x : Nd) (v : Value) (hok : x.ok) (m : Nat) (hm : m ≤ 1000000) (hsm : ∀ s, seven x.kids = some s → s.Ok m) (w : World) (hx : KidsAt w (· < w.heap.size) x.kids v) :
    Calls Tryd.prog 21 #[nodeV x.k x.n x.s v] w fun e w' => e = .returned (.tuple #[sgV ((ofO x).getD zeroS), .bool (ofO x).isSome]) ∧ Below w.heap.size w w' := by
  have HX := Lib.hid hx
  by_cases hl : x.kids.len = 7
  · obtain ⟨s, hs⟩ : ∃ s, seven x.kids = some s := by
      obtain ⟨_, _, _, _, _, _, _, _, _, _, _, _, _, _, _, _, _, _, _, _, _, s, _, q⟩ := seven_inv _ hl
      exact ⟨s, q⟩
    obtain ⟨g, o, cap, rfl, hk7⟩ := kids7 hx hl hs
    have hso := hsm s hs
    obtain ⟨R, hR⟩ : ∃ R, ofO x = R := ⟨_, rfl⟩
    have HRR : Hid ((if s.h.is && x.eqB (sgN s) then some s else none) = R) := Lib.hid (by rw [← hR]; unfold ofO; rw [hs])
    rw [hR]
    have KI := Lib.hid (fun W => pis_prog s.h m hso.1 hm W)
    have KN := Lib.hid (fun (hi : s.h.is = true) W => pnode_prog s m hso hm hi W)
    have KS := Lib.hid (fun (u : Value) a W (h1 : KidsAt W (· < W.heap.size) x.kids u) (h2 : KidsAt W (· < W.heap.size) (sgF s) a) => Cod.csame_prog x (sgN s) u a W hok h1 h2)
    obtain ⟨W0, hW0⟩ : ∃ W0, W0 = (w.alloc (.cells #[.int .i64 x.k, .int .u64 x.n, .string x.s, .slice (some ⟨g, o, none⟩) 7 cap] 46)).alloc (.cells #[.int .u64 0, .int .u64 0, .string ⟨#[]⟩, .string ⟨#[]⟩, .int .u64 0, .int .u64 0, .string ⟨#[]⟩] 35) := ⟨_, rfl⟩
    have HB1 := Lib.hid (show Below w.heap.size w W0 by rw [hW0]; exact ((Below.refl _ _).alloc (Nat.le_refl _) _).alloc (by simp) _)
    have HZ1 : Hid (W0.heap[w.heap.size]? = some (.cells #[.int .i64 x.k, .int .u64 x.n, .string x.s, .slice (some ⟨g, o, none⟩) 7 cap] 46 (0, 0))) := Lib.hid (by rw [hW0]; exact (Below.heap_alloc _ _ _ (by simp)).trans (heap_alloc_new _ _))
    have HR1 : Hid (W0.heap[w.heap.size + 1]? = some (.cells #[.int .u64 0, .int .u64 0, .string ⟨#[]⟩, .string ⟨#[]⟩, .int .u64 0, .int .u64 0, .string ⟨#[]⟩] 35 (0, 0))) := Lib.hid (by rw [hW0]; simpa using heap_alloc_new (w.alloc (.cells #[.int .i64 x.k, .int .u64 x.n, .string x.s, .slice (some ⟨g, o, none⟩) 7 cap] 46)) _)
    have HC1 : Hid (K7 W0 g o s) := Lib.hid (hk7.later (by rw [hW0]; exact ((Below.refl _ _).alloc (Nat.le_refl _) _).alloc (by simp) _))
    have HG : Hid (g < w.heap.size) := Lib.hid hk7.lt
    unfold hdV at KI
    unfold sgV at KN
    unfold nodeV at KN KS ⊢
    dsimp only [sgN] at KS
    rw [hl] at *
    clear hok hm hsm hx hk7 hso hR
    obtain ⟨c0, c1, c2, c3, _, _, _, _⟩ := Cod.block4 HZ1.out
    go_enter Tryd.func21, Tryd.ntmps21
    go_upto_region 1 with fail
    simp only [← hW0]
    clear hW0
    go_upto_region 3 with fail
    clear c0 c1 c2 c3
    obtain ⟨W1, hW1⟩ : ∃ W1, W1 = W0 := ⟨_, rfl⟩
    rw [← hW1] at HB1 HZ1 HR1 HC1 ⊢
    clear hW1
    have HRD : W1.drew.heap[w.heap.size + 1]? = some (.cells #[.int .u64 0, .int .u64 0, .string ⟨#[]⟩, .string ⟨#[]⟩, .int .u64 0, .int .u64 0, .string ⟨#[]⟩] 35 (0, 0)) := HR1.out
    refine wp_region_held_drew (S := fun w' => Below w.heap.size w w' ∧ w'.heap[w.heap.size]? = some (.cells #[.int .i64 x.k, .int .u64 x.n, .string x.s, .slice (some ⟨g, o, none⟩) 7 cap] 46 (0, 0)) ∧ K7 w' g o s) (by kernel_rfl) (⟨HB1.out.drew, HZ1.out, HC1.out.later (Below.refl _ _).drew⟩) (fun hHeld => ?_)
    generalize W1.drew = WD at hHeld HRD ⊢
    have HBD := hHeld.1
    have HZD := hHeld.2.1
    have HCD := hHeld.2.2
    refine wpAnyH_take (i := 0) (v := ?_) rfl (by kernel_rfl) (by kernel_rfl) (by kernel_rfl) (fun _ _ _ h => h) (Or.inl ⟨by rfl, ?_⟩) hHeld ?_
    rotate_left
    · intro w' hSw; obtain ⟨d0, d1, d2, d3, _, _, _, _⟩ := Cod.block4 hSw.2.1; obtain ⟨k0, k1, k2, k3, k4, k5, k6⟩ := hSw.2.2; go_simp; first | done | with_reducible rfl | rfl
    try simp only [Act.put, List.getElem_toArray, List.getElem_cons_zero, List.setIfInBounds_toArray, List.set_cons_zero, List.set_cons_succ]
    refine wpAnyH_take (i := 1) (v := ?_) rfl (by kernel_rfl) (by kernel_rfl) (by kernel_rfl) (fun _ _ _ h => h) (Or.inl ⟨by rfl, ?_⟩) hHeld ?_
    rotate_left
    · intro w' hSw; obtain ⟨d0, d1, d2, d3, _, _, _, _⟩ := Cod.block4 hSw.2.1; obtain ⟨k0, k1, k2, k3, k4, k5, k6⟩ := hSw.2.2; go_simp; first | done | with_reducible rfl | rfl
    try simp only [Act.put, List.getElem_toArray, List.getElem_cons_zero, List.getElem_cons_succ, List.setIfInBounds_toArray, List.set_cons_zero, List.set_cons_succ]
    refine wpAnyH_take (i := 2) (v := ?_) rfl (by kernel_rfl) (by kernel_rfl) (by kernel_rfl) (fun _ _ _ h => h) (Or.inl ⟨by rfl, ?_⟩) hHeld ?_
    rotate_left
    · intro w' hSw; obtain ⟨d0, d1, d2, d3, _, _, _, _⟩ := Cod.block4 hSw.2.1; obtain ⟨k0, k1, k2, k3, k4, k5, k6⟩ := hSw.2.2; go_simp; first | done | with_reducible rfl | rfl
    try simp only [Act.put, List.getElem_toArray, List.getElem_cons_zero, List.getElem_cons_succ, List.setIfInBounds_toArray, List.set_cons_zero, List.set_cons_succ]
    refine wpAnyH_take (i := 3) (v := ?_) rfl (by kernel_rfl) (by kernel_rfl) (by kernel_rfl) (fun _ _ _ h => h) (Or.inl ⟨by rfl, ?_⟩) hHeld ?_
    rotate_left
    · intro w' hSw; obtain ⟨d0, d1, d2, d3, _, _, _, _⟩ := Cod.block4 hSw.2.1; obtain ⟨k0, k1, k2, k3, k4, k5, k6⟩ := hSw.2.2; go_simp; first | done | with_reducible rfl | rfl
    try simp only [Act.put, List.getElem_toArray, List.getElem_cons_zero, List.getElem_cons_succ, List.setIfInBounds_toArray, List.set_cons_zero, List.set_cons_succ]
    refine wpAnyH_take (i := 4) (v := ?_) rfl (by kernel_rfl) (by kernel_rfl) (by kernel_rfl) (fun _ _ _ h => h) (Or.inl ⟨by rfl, ?_⟩) hHeld ?_
    rotate_left
    · intro w' hSw; obtain ⟨d0, d1, d2, d3, _, _, _, _⟩ := Cod.block4 hSw.2.1; obtain ⟨k0, k1, k2, k3, k4, k5, k6⟩ := hSw.2.2; go_simp; first | done | with_reducible rfl | rfl
    try simp only [Act.put, List.getElem_toArray, List.getElem_cons_zero, List.getElem_cons_succ, List.setIfInBounds_toArray, List.set_cons_zero, List.set_cons_succ]
    refine wpAnyH_take (i := 5) (v := ?_) rfl (by kernel_rfl) (by kernel_rfl) (by kernel_rfl) (fun _ _ _ h => h) (Or.inl ⟨by rfl, ?_⟩) hHeld ?_
    rotate_left
    · intro w' hSw; obtain ⟨d0, d1, d2, d3, _, _, _, _⟩ := Cod.block4 hSw.2.1; obtain ⟨k0, k1, k2, k3, k4, k5, k6⟩ := hSw.2.2; go_simp; first | done | with_reducible rfl | rfl
    try simp only [Act.put, List.getElem_toArray, List.getElem_cons_zero, List.getElem_cons_succ, List.setIfInBounds_toArray, List.set_cons_zero, List.set_cons_succ]
    refine wpAnyH_take (i := 6) (v := ?_) rfl (by kernel_rfl) (by kernel_rfl) (by kernel_rfl) (fun _ _ _ h => h) (Or.inl ⟨by rfl, ?_⟩) hHeld ?_
    rotate_left
    · intro w' hSw; obtain ⟨d0, d1, d2, d3, _, _, _, _⟩ := Cod.block4 hSw.2.1; obtain ⟨k0, k1, k2, k3, k4, k5, k6⟩ := hSw.2.2; go_simp; first | done | with_reducible rfl | rfl
    try simp only [Act.put, List.getElem_toArray, List.getElem_cons_zero, List.getElem_cons_succ, List.setIfInBounds_toArray, List.set_cons_zero, List.set_cons_succ]
    refine wpAnyH_take (i := 7) (v := ?_) rfl (by kernel_rfl) (by kernel_rfl) (by kernel_rfl) (fun _ _ _ h => h) (Or.inl ⟨by rfl, ?_⟩) hHeld ?_
    rotate_left
    · intro w' hSw; obtain ⟨d0, d1, d2, d3, _, _, _, _⟩ := Cod.block4 hSw.2.1; obtain ⟨k0, k1, k2, k3, k4, k5, k6⟩ := hSw.2.2; go_simp; first | done | with_reducible rfl | rfl
    try simp only [Act.put, List.getElem_toArray, List.getElem_cons_zero, List.getElem_cons_succ, List.setIfInBounds_toArray, List.set_cons_zero, List.set_cons_succ]
    refine wpAnyH_take (i := 8) (v := ?_) rfl (by kernel_rfl) (by kernel_rfl) (by kernel_rfl) (fun _ _ _ h => h) (Or.inl ⟨by rfl, ?_⟩) hHeld ?_
    rotate_left
    · intro w' hSw; obtain ⟨d0, d1, d2, d3, _, _, _, _⟩ := Cod.block4 hSw.2.1; obtain ⟨k0, k1, k2, k3, k4, k5, k6⟩ := hSw.2.2; go_simp; first | done | with_reducible rfl | rfl
    try simp only [Act.put, List.getElem_toArray, List.getElem_cons_zero, List.getElem_cons_succ, List.setIfInBounds_toArray, List.set_cons_zero, List.set_cons_succ]
    refine wpAnyH_take (i := 9) (v := ?_) rfl (by kernel_rfl) (by kernel_rfl) (by kernel_rfl) (fun _ _ _ h => h) (Or.inl ⟨by rfl, ?_⟩) hHeld ?_
    rotate_left
    · intro w' hSw; obtain ⟨d0, d1, d2, d3, _, _, _, _⟩ := Cod.block4 hSw.2.1; obtain ⟨k0, k1, k2, k3, k4, k5, k6⟩ := hSw.2.2; go_simp; first | done | with_reducible rfl | rfl
    try simp only [Act.put, List.getElem_toArray, List.getElem_cons_zero, List.getElem_cons_succ, List.setIfInBounds_toArray, List.set_cons_zero, List.set_cons_succ]
    refine wpAnyH_take (i := 10) (v := ?_) rfl (by kernel_rfl) (by kernel_rfl) (by kernel_rfl) (fun _ _ _ h => h) (Or.inl ⟨by rfl, ?_⟩) hHeld ?_
    rotate_left
    · intro w' hSw; obtain ⟨d0, d1, d2, d3, _, _, _, _⟩ := Cod.block4 hSw.2.1; obtain ⟨k0, k1, k2, k3, k4, k5, k6⟩ := hSw.2.2; go_simp; first | done | with_reducible rfl | rfl
    try simp only [Act.put, List.getElem_toArray, List.getElem_cons_zero, List.getElem_cons_succ, List.setIfInBounds_toArray, List.set_cons_zero, List.set_cons_succ]
    refine wpAnyH_take (i := 11) (v := ?_) rfl (by kernel_rfl) (by kernel_rfl) (by kernel_rfl) (fun _ _ _ h => h) (Or.inl ⟨by rfl, ?_⟩) hHeld ?_
    rotate_left
    · intro w' hSw; obtain ⟨d0, d1, d2, d3, _, _, _, _⟩ := Cod.block4 hSw.2.1; obtain ⟨k0, k1, k2, k3, k4, k5, k6⟩ := hSw.2.2; go_simp; first | done | with_reducible rfl | rfl
    try simp only [Act.put, List.getElem_toArray, List.getElem_cons_zero, List.getElem_cons_succ, List.setIfInBounds_toArray, List.set_cons_zero, List.set_cons_succ]
    refine wpAnyH_take (i := 12) (v := ?_) rfl (by kernel_rfl) (by kernel_rfl) (by kernel_rfl) (fun _ _ _ h => h) (Or.inl ⟨by rfl, ?_⟩) hHeld ?_
    rotate_left
    · intro w' hSw; obtain ⟨d0, d1, d2, d3, _, _, _, _⟩ := Cod.block4 hSw.2.1; obtain ⟨k0, k1, k2, k3, k4, k5, k6⟩ := hSw.2.2; go_simp; first | done | with_reducible rfl | rfl
    try simp only [Act.put, List.getElem_toArray, List.getElem_cons_zero, List.getElem_cons_succ, List.setIfInBounds_toArray, List.set_cons_zero, List.set_cons_succ]
    refine wpAnyH_take (i := 13) (v := ?_) rfl (by kernel_rfl) (by kernel_rfl) (by kernel_rfl) (fun _ _ _ h => h) (Or.inl ⟨by rfl, ?_⟩) hHeld ?_
    rotate_left
    · intro w' hSw; obtain ⟨d0, d1, d2, d3, _, _, _, _⟩ := Cod.block4 hSw.2.1; obtain ⟨k0, k1, k2, k3, k4, k5, k6⟩ := hSw.2.2; go_simp; first | done | with_reducible rfl | rfl
    try simp only [Act.put, List.getElem_toArray, List.getElem_cons_zero, List.getElem_cons_succ, List.setIfInBounds_toArray, List.set_cons_zero, List.set_cons_succ]
    refine wpAnyH_take (i := 14) (v := ?_) rfl (by kernel_rfl) (by kernel_rfl) (by kernel_rfl) (fun _ _ _ h => h) (Or.inl ⟨by rfl, ?_⟩) hHeld ?_
    rotate_left
    · intro w' hSw; obtain ⟨d0, d1, d2, d3, _, _, _, _⟩ := Cod.block4 hSw.2.1; obtain ⟨k0, k1, k2, k3, k4, k5, k6⟩ := hSw.2.2; go_simp; first | done | with_reducible rfl | rfl
    try simp only [Act.put, List.getElem_toArray, List.getElem_cons_zero, List.getElem_cons_succ, List.setIfInBounds_toArray, List.set_cons_zero, List.set_cons_succ]
    refine wpAnyH_take (i := 15) (v := ?_) rfl (by kernel_rfl) (by kernel_rfl) (by kernel_rfl) (fun _ _ _ h => h) (Or.inl ⟨by rfl, ?_⟩) hHeld ?_
    rotate_left
    · intro w' hSw; obtain ⟨d0, d1, d2, d3, _, _, _, _⟩ := Cod.block4 hSw.2.1; obtain ⟨k0, k1, k2, k3, k4, k5, k6⟩ := hSw.2.2; go_simp; first | done | with_reducible rfl | rfl
    try simp only [Act.put, List.getElem_toArray, List.getElem_cons_zero, List.getElem_cons_succ, List.setIfInBounds_toArray, List.set_cons_zero, List.set_cons_succ]
    refine wpAnyH_take (i := 16) (v := ?_) rfl (by kernel_rfl) (by kernel_rfl) (by kernel_rfl) (fun _ _ _ h => h) (Or.inl ⟨by rfl, ?_⟩) hHeld ?_
    rotate_left
    · intro w' hSw; obtain ⟨d0, d1, d2, d3, _, _, _, _⟩ := Cod.block4 hSw.2.1; obtain ⟨k0, k1, k2, k3, k4, k5, k6⟩ := hSw.2.2; go_simp; first | done | with_reducible rfl | rfl
    try simp only [Act.put, List.getElem_toArray, List.getElem_cons_zero, List.getElem_cons_succ, List.setIfInBounds_toArray, List.set_cons_zero, List.set_cons_succ]
    refine wpAnyH_take (i := 17) (v := ?_) rfl (by kernel_rfl) (by kernel_rfl) (by kernel_rfl) (fun _ _ _ h => h) (Or.inl ⟨by rfl, ?_⟩) hHeld ?_
    rotate_left
    · intro w' hSw; obtain ⟨d0, d1, d2, d3, _, _, _, _⟩ := Cod.block4 hSw.2.1; obtain ⟨k0, k1, k2, k3, k4, k5, k6⟩ := hSw.2.2; go_simp; first | done | with_reducible rfl | rfl
    try simp only [Act.put, List.getElem_toArray, List.getElem_cons_zero, List.getElem_cons_succ, List.setIfInBounds_toArray, List.set_cons_zero, List.set_cons_succ]
    refine wpAnyH_take (i := 18) (v := ?_) rfl (by kernel_rfl) (by kernel_rfl) (by kernel_rfl) (fun _ _ _ h => h) (Or.inl ⟨by rfl, ?_⟩) hHeld ?_
    rotate_left
    · intro w' hSw; obtain ⟨d0, d1, d2, d3, _, _, _, _⟩ := Cod.block4 hSw.2.1; obtain ⟨k0, k1, k2, k3, k4, k5, k6⟩ := hSw.2.2; go_simp; first | done | with_reducible rfl | rfl
    try simp only [Act.put, List.getElem_toArray, List.getElem_cons_zero, List.getElem_cons_succ, List.setIfInBounds_toArray, List.set_cons_zero, List.set_cons_succ]
    refine wpAnyH_take (i := 19) (v := ?_) rfl (by kernel_rfl) (by kernel_rfl) (by kernel_rfl) (fun _ _ _ h => h) (Or.inl ⟨by rfl, ?_⟩) hHeld ?_
    rotate_left
    · intro w' hSw; obtain ⟨d0, d1, d2, d3, _, _, _, _⟩ := Cod.block4 hSw.2.1; obtain ⟨k0, k1, k2, k3, k4, k5, k6⟩ := hSw.2.2; go_simp; first | done | with_reducible rfl | rfl
    try simp only [Act.put, List.getElem_toArray, List.getElem_cons_zero, List.getElem_cons_succ, List.setIfInBounds_toArray, List.set_cons_zero, List.set_cons_succ]
    refine wpAnyH_take (i := 20) (v := ?_) rfl (by kernel_rfl) (by kernel_rfl) (by kernel_rfl) (fun _ _ _ h => h) (Or.inl ⟨by rfl, ?_⟩) hHeld ?_
    rotate_left
    · intro w' hSw; obtain ⟨d0, d1, d2, d3, _, _, _, _⟩ := Cod.block4 hSw.2.1; obtain ⟨k0, k1, k2, k3, k4, k5, k6⟩ := hSw.2.2; go_simp; first | done | with_reducible rfl | rfl
    try simp only [Act.put, List.getElem_toArray, List.getElem_cons_zero, List.getElem_cons_succ, List.setIfInBounds_toArray, List.set_cons_zero, List.set_cons_succ]
    refine wpAnyH_take (i := 21) (v := ?_) rfl (by kernel_rfl) (by kernel_rfl) (by kernel_rfl) (fun _ _ _ h => h) (Or.inl ⟨by rfl, ?_⟩) hHeld ?_
    rotate_left
    · intro w' hSw; obtain ⟨d0, d1, d2, d3, _, _, _, _⟩ := Cod.block4 hSw.2.1; obtain ⟨k0, k1, k2, k3, k4, k5, k6⟩ := hSw.2.2; go_simp; first | done | with_reducible rfl | rfl
    try simp only [Act.put, List.getElem_toArray, List.getElem_cons_zero, List.getElem_cons_succ, List.setIfInBounds_toArray, List.set_cons_zero, List.set_cons_succ]
    refine wpAnyH_take (i := 22) (v := ?_) rfl (by kernel_rfl) (by kernel_rfl) (by kernel_rfl) (fun _ _ _ h => h) (Or.inl ⟨by rfl, ?_⟩) hHeld ?_
    rotate_left
    · intro w' hSw; obtain ⟨d0, d1, d2, d3, _, _, _, _⟩ := Cod.block4 hSw.2.1; obtain ⟨k0, k1, k2, k3, k4, k5, k6⟩ := hSw.2.2; go_simp; first | done | with_reducible rfl | rfl
    try simp only [Act.put, List.getElem_toArray, List.getElem_cons_zero, List.getElem_cons_succ, List.setIfInBounds_toArray, List.set_cons_zero, List.set_cons_succ]
    refine wpAnyH_take (i := 23) (v := ?_) rfl (by kernel_rfl) (by kernel_rfl) (by kernel_rfl) (fun _ _ _ h => h) (Or.inl ⟨by rfl, ?_⟩) hHeld ?_
    rotate_left
    · intro w' hSw; obtain ⟨d0, d1, d2, d3, _, _, _, _⟩ := Cod.block4 hSw.2.1; obtain ⟨k0, k1, k2, k3, k4, k5, k6⟩ := hSw.2.2; go_simp; first | done | with_reducible rfl | rfl
    try simp only [Act.put, List.getElem_toArray, List.getElem_cons_zero, List.getElem_cons_succ, List.setIfInBounds_toArray, List.set_cons_zero, List.set_cons_succ]
    refine wpAnyH_take (i := 24) (v := ?_) rfl (by kernel_rfl) (by kernel_rfl) (by kernel_rfl) (fun _ _ _ h => h) (Or.inl ⟨by rfl, ?_⟩) hHeld ?_
    rotate_left
    · intro w' hSw; obtain ⟨d0, d1, d2, d3, _, _, _, _⟩ := Cod.block4 hSw.2.1; obtain ⟨k0, k1, k2, k3, k4, k5, k6⟩ := hSw.2.2; go_simp; first | done | with_reducible rfl | rfl
    try simp only [Act.put, List.getElem_toArray, List.getElem_cons_zero, List.getElem_cons_succ, List.setIfInBounds_toArray, List.set_cons_zero, List.set_cons_succ]
    refine wpAnyH_take (i := 25) (v := ?_) rfl (by kernel_rfl) (by kernel_rfl) (by kernel_rfl) (fun _ _ _ h => h) (Or.inl ⟨by rfl, ?_⟩) hHeld ?_
    rotate_left
    · intro w' hSw; obtain ⟨d0, d1, d2, d3, _, _, _, _⟩ := Cod.block4 hSw.2.1; obtain ⟨k0, k1, k2, k3, k4, k5, k6⟩ := hSw.2.2; go_simp; first | done | with_reducible rfl | rfl
    try simp only [Act.put, List.getElem_toArray, List.getElem_cons_zero, List.getElem_cons_succ, List.setIfInBounds_toArray, List.set_cons_zero, List.set_cons_succ]
    refine wpAnyH_take (i := 26) (v := ?_) rfl (by kernel_rfl) (by kernel_rfl) (by kernel_rfl) (fun _ _ _ h => h) (Or.inl ⟨by rfl, ?_⟩) hHeld ?_
    rotate_left
    · intro w' hSw; obtain ⟨d0, d1, d2, d3, _, _, _, _⟩ := Cod.block4 hSw.2.1; obtain ⟨k0, k1, k2, k3, k4, k5, k6⟩ := hSw.2.2; go_simp; first | done | with_reducible rfl | rfl
    try simp only [Act.put, List.getElem_toArray, List.getElem_cons_zero, List.getElem_cons_succ, List.setIfInBounds_toArray, List.set_cons_zero, List.set_cons_succ]
    refine wpAnyH_take (i := 27) (v := ?_) rfl (by kernel_rfl) (by kernel_rfl) (by kernel_rfl) (fun _ _ _ h => h) (Or.inl ⟨by rfl, ?_⟩) hHeld ?_
    rotate_left
    · intro w' hSw; obtain ⟨d0, d1, d2, d3, _, _, _, _⟩ := Cod.block4 hSw.2.1; obtain ⟨k0, k1, k2, k3, k4, k5, k6⟩ := hSw.2.2; go_simp; first | done | with_reducible rfl | rfl
    try simp only [Act.put, List.getElem_toArray, List.getElem_cons_zero, List.getElem_cons_succ, List.setIfInBounds_toArray, List.set_cons_zero, List.set_cons_succ]
    refine wpAnyH_take (i := 28) (v := ?_) rfl (by kernel_rfl) (by kernel_rfl) (by kernel_rfl) (fun _ _ _ h => h) (Or.inl ⟨by rfl, ?_⟩) hHeld ?_
    rotate_left
    · intro w' hSw; obtain ⟨d0, d1, d2, d3, _, _, _, _⟩ := Cod.block4 hSw.2.1; obtain ⟨k0, k1, k2, k3, k4, k5, k6⟩ := hSw.2.2; go_simp; first | done | with_reducible rfl | rfl
    try simp only [Act.put, List.getElem_toArray, List.getElem_cons_zero, List.getElem_cons_succ, List.setIfInBounds_toArray, List.set_cons_zero, List.set_cons_succ]
    refine wpAnyH_take (i := 29) (v := ?_) rfl (by kernel_rfl) (by kernel_rfl) (by kernel_rfl) (fun _ _ _ h => h) (Or.inl ⟨by rfl, ?_⟩) hHeld ?_
    rotate_left
    · intro w' hSw; obtain ⟨d0, d1, d2, d3, _, _, _, _⟩ := Cod.block4 hSw.2.1; obtain ⟨k0, k1, k2, k3, k4, k5, k6⟩ := hSw.2.2; go_simp; first | done | with_reducible rfl | rfl
    try simp only [Act.put, List.getElem_toArray, List.getElem_cons_zero, List.getElem_cons_succ, List.setIfInBounds_toArray, List.set_cons_zero, List.set_cons_succ]
    refine wpAnyH_take (i := 30) (v := ?_) rfl (by kernel_rfl) (by kernel_rfl) (by kernel_rfl) (fun _ _ _ h => h) (Or.inl ⟨by rfl, ?_⟩) hHeld ?_
    rotate_left
    · intro w' hSw; obtain ⟨d0, d1, d2, d3, _, _, _, _⟩ := Cod.block4 hSw.2.1; obtain ⟨k0, k1, k2, k3, k4, k5, k6⟩ := hSw.2.2; go_simp; first | done | with_reducible rfl | rfl
    try simp only [Act.put, List.getElem_toArray, List.getElem_cons_zero, List.getElem_cons_succ, List.setIfInBounds_toArray, List.set_cons_zero, List.set_cons_succ]
    refine wpAnyH_take (i := 31) (v := ?_) rfl (by kernel_rfl) (by kernel_rfl) (by kernel_rfl) (fun _ _ _ h => h) (Or.inl ⟨by rfl, ?_⟩) hHeld ?_
    rotate_left
    · intro w' hSw; obtain ⟨d0, d1, d2, d3, _, _, _, _⟩ := Cod.block4 hSw.2.1; obtain ⟨k0, k1, k2, k3, k4, k5, k6⟩ := hSw.2.2; go_simp; first | done | with_reducible rfl | rfl
    try simp only [Act.put, List.getElem_toArray, List.getElem_cons_zero, List.getElem_cons_succ, List.setIfInBounds_toArray, List.set_cons_zero, List.set_cons_succ]
    refine wpAnyH_take (i := 32) (v := ?_) rfl (by kernel_rfl) (by kernel_rfl) (by kernel_rfl) (fun _ _ _ h => h) (Or.inl ⟨by rfl, ?_⟩) hHeld ?_
    rotate_left
    · intro w' hSw; obtain ⟨d0, d1, d2, d3, _, _, _, _⟩ := Cod.block4 hSw.2.1; obtain ⟨k0, k1, k2, k3, k4, k5, k6⟩ := hSw.2.2; go_simp; first | done | with_reducible rfl | rfl
    try simp only [Act.put, List.getElem_toArray, List.getElem_cons_zero, List.getElem_cons_succ, List.setIfInBounds_toArray, List.set_cons_zero, List.set_cons_succ]
    refine wpAnyH_take (i := 33) (v := ?_) rfl (by kernel_rfl) (by kernel_rfl) (by kernel_rfl) (fun _ _ _ h => h) (Or.inl ⟨by rfl, ?_⟩) hHeld ?_
    rotate_left
    · intro w' hSw; obtain ⟨d0, d1, d2, d3, _, _, _, _⟩ := Cod.block4 hSw.2.1; obtain ⟨k0, k1, k2, k3, k4, k5, k6⟩ := hSw.2.2; go_simp; first | done | with_reducible rfl | rfl
    try simp only [Act.put, List.getElem_toArray, List.getElem_cons_zero, List.getElem_cons_succ, List.setIfInBounds_toArray, List.set_cons_zero, List.set_cons_succ]
    refine wpAnyH_take (i := 34) (v := ?_) rfl (by kernel_rfl) (by kernel_rfl) (by kernel_rfl) (fun _ _ _ h => h) (Or.inl ⟨by rfl, ?_⟩) hHeld ?_
    rotate_left
    · intro w' hSw; obtain ⟨d0, d1, d2, d3, _, _, _, _⟩ := Cod.block4 hSw.2.1; obtain ⟨k0, k1, k2, k3, k4, k5, k6⟩ := hSw.2.2; go_simp; first | done | with_reducible rfl | rfl
    try simp only [Act.put, List.getElem_toArray, List.getElem_cons_zero, List.getElem_cons_succ, List.setIfInBounds_toArray, List.set_cons_zero, List.set_cons_succ]
    refine wpAnyH_take (i := 35) (v := ?_) rfl (by kernel_rfl) (by kernel_rfl) (by kernel_rfl) (fun _ _ _ h => h) (Or.inl ⟨by rfl, ?_⟩) hHeld ?_
    rotate_left
    · intro w' hSw; obtain ⟨d0, d1, d2, d3, _, _, _, _⟩ := Cod.block4 hSw.2.1; obtain ⟨k0, k1, k2, k3, k4, k5, k6⟩ := hSw.2.2; go_simp; first | done | with_reducible rfl | rfl
    try simp only [Act.put, List.getElem_toArray, List.getElem_cons_zero, List.getElem_cons_succ, List.setIfInBounds_toArray, List.set_cons_zero, List.set_cons_succ]
    refine wpAnyH_take (i := 36) (v := ?_) rfl (by kernel_rfl) (by kernel_rfl) (by kernel_rfl) (fun _ _ _ h => h) (Or.inl ⟨by rfl, ?_⟩) hHeld ?_
    rotate_left
    · intro w' hSw; obtain ⟨d0, d1, d2, d3, _, _, _, _⟩ := Cod.block4 hSw.2.1; obtain ⟨k0, k1, k2, k3, k4, k5, k6⟩ := hSw.2.2; go_simp; first | done | with_reducible rfl | rfl
    try simp only [Act.put, List.getElem_toArray, List.getElem_cons_zero, List.getElem_cons_succ, List.setIfInBounds_toArray, List.set_cons_zero, List.set_cons_succ]
    refine wpAnyH_ready (rs := [37]) (by kernel_rfl) (by simp) ?_
    refine AllReadyH.cons rfl (fun K hK => ?_) AllReadyH.nil
    try simp only [Act.put, List.getElem_toArray, List.getElem_cons_zero, List.getElem_cons_succ, List.setIfInBounds_toArray, List.set_cons_zero, List.set_cons_succ]
    go_simp
    refine hK.out _ _ (⟨HBD.alloc HBD.size _, (Below.heap_alloc _ _ _ (block_lt HZD)).trans HZD, HCD.later ((Below.refl _ _).alloc (Nat.le_refl _) _)⟩) (fun hS1 => ?_)
    clear hK K
    try simp only [Act.put, List.getElem_toArray, List.getElem_cons_zero, List.getElem_cons_succ, List.setIfInBounds_toArray, List.set_cons_zero, List.set_cons_succ]
    clear hS1
    refine Cod.named (M := wpAnyH _ _ _ _ _ _ _ _) ?_
    intro wa hka hba sza
    have HBa := HBD.trans (hba.mono HBD.size)
    have HZa := (hba.block _ (block_lt HZD)).trans HZD
    have HRa := (hba.block _ (block_lt HRD)).trans HRD
    have HCa := HCD.later hba
    have hQ := And.intro HBa (And.intro HZa HCa)
    have hlt := block_lt HRD
    refine wpAnyH_ready (rs := [38]) (by kernel_rfl) (by simp) ?_
    refine AllReadyH.cons rfl (fun K hK => ?_) AllReadyH.nil
    obtain ⟨z0, z1, z2, z3, z4, z5, z6⟩ := cells7 hka
    obtain ⟨y0, y1, y2, y3, y4, y5, y6⟩ := free7 hka
    try simp only [Act.put, List.getElem_toArray, List.getElem_cons_zero, List.getElem_cons_succ]
    go_simp
    have HBs := HBa.trans (set7_below (w := wa) (G := WD.heap.size) (Nat.le_of_lt (by omega)) (.int .u64 s.h.shard) (.int .u64 s.h.seq) (.string s.h.prev) (.string s.h.root) (.int .u64 s.h.who) (.int .u64 s.h.stamp) (.string s.mac))
    have HZs := (set7_other wa (WD.heap.size) (.int .u64 s.h.shard) (.int .u64 s.h.seq) (.string s.h.prev) (.string s.h.root) (.int .u64 s.h.who) (.int .u64 s.h.stamp) (.string s.mac) w.heap.size (by omega)).trans HZa
    have HRs := (set7_other wa (WD.heap.size) (.int .u64 s.h.shard) (.int .u64 s.h.seq) (.string s.h.prev) (.string s.h.root) (.int .u64 s.h.who) (.int .u64 s.h.stamp) (.string s.mac) (w.heap.size + 1) (by omega)).trans HRa
    have HSs := set7_heap hka (.int .u64 s.h.shard) (.int .u64 s.h.seq) (.string s.h.prev) (.string s.h.root) (.int .u64 s.h.who) (.int .u64 s.h.stamp) (.string s.mac)
    have HCs := HCa.mv (set7_other wa (WD.heap.size) (.int .u64 s.h.shard) (.int .u64 s.h.seq) (.string s.h.prev) (.string s.h.root) (.int .u64 s.h.who) (.int .u64 s.h.stamp) (.string s.mac) g (by have := HCD.lt; omega))
    refine hK.out _ (set7 wa (WD.heap.size) (.int .u64 s.h.shard) (.int .u64 s.h.seq) (.string s.h.prev) (.string s.h.root) (.int .u64 s.h.who) (.int .u64 s.h.stamp) (.string s.mac)) (⟨HBs, HZs, HCs⟩) (fun hS2 => ?_)
    clear hK K
    try simp only [Act.put, List.getElem_toArray, List.getElem_cons_zero, List.getElem_cons_succ]
    refine wpAnyH_done (by kernel_rfl) ?_ _
    obtain ⟨W2, hW2⟩ : ∃ W2, W2 = set7 wa WD.heap.size (.int .u64 s.h.shard) (.int .u64 s.h.seq) (.string s.h.prev) (.string s.h.root) (.int .u64 s.h.who) (.int .u64 s.h.stamp) (.string s.mac) := ⟨_, rfl⟩
    rw [← hW2] at HBs HZs HRs HSs HCs ⊢
    have HB2 := Lib.hid HBs
    have HZ2 := Lib.hid HZs
    have HR2 := Lib.hid HRs
    obtain ⟨gs, hgs⟩ : ∃ gs, gs = WD.heap.size := ⟨_, rfl⟩
    rw [← hgs] at HSs ⊢
    have HS2 := Lib.hid HSs
    clear hW2 hgs HBs HZs HRs HSs HCs HBa HZa HRa HCa HBD HZD HCD HRD hka hba sza hlt hQ hHeld HB1 HZ1 HR1 HC1
    go_upto_region 4 with fail
    obtain ⟨bi, hbi⟩ : ∃ b, s.h.is = b := ⟨_, rfl⟩
    rw [hbi] at KI
    rw [hbi] at HRR
    cases bi with
    | false =>
      have HO : Hid (R = none) := Lib.hid (by rw [← HRR.out]; rfl)
      have HBE := HB2.out.drew
      have HZE : W2.drew.heap[w.heap.size]? = some (.cells #[.int .i64 x.k, .int .u64 x.n, .string x.s, .slice (some ⟨g, o, none⟩) 7 cap] 46 (0, 0)) := HZ2.out
      have HSE : W2.drew.heap[gs]? = some (.cells #[.int .u64 s.h.shard, .int .u64 s.h.seq, .string s.h.prev, .string s.h.root, .int .u64 s.h.who, .int .u64 s.h.stamp, .string s.mac] 35 (0, 0)) := HS2.out
      have HRE : W2.drew.heap[w.heap.size + 1]? = some (.cells #[.int .u64 0, .int .u64 0, .string ⟨#[]⟩, .string ⟨#[]⟩, .int .u64 0, .int .u64 0, .string ⟨#[]⟩] 35 (0, 0)) := HR2.out
      refine wp_region_held_drew (S := fun w' => Below w.heap.size w w' ∧ w'.heap[w.heap.size]? = some (.cells #[.int .i64 x.k, .int .u64 x.n, .string x.s, .slice (some ⟨g, o, none⟩) 7 cap] 46 (0, 0)) ∧ w'.heap[gs]? = some (.cells #[.int .u64 s.h.shard, .int .u64 s.h.seq, .string s.h.prev, .string s.h.root, .int .u64 s.h.who, .int .u64 s.h.stamp, .string s.mac] 35 (0, 0))) (by kernel_rfl) (⟨HB2.out.drew, HZ2.out, HS2.out⟩) (fun hHeld => ?_)
      refine wpAnyH_take (i := 0) (v := ?_) rfl (by kernel_rfl) (by kernel_rfl) (by kernel_rfl) (fun _ _ _ h => h) (Or.inl ⟨by rfl, ?_⟩) hHeld ?_
      rotate_left
      · intro w' hSw; obtain ⟨d0, d1, d2, d3, _, _, _, _⟩ := Cod.block4 hSw.2.1; obtain ⟨k0, k1, k2, k3, k4, k5, k6⟩ := cells7 hSw.2.2; go_simp; first | done | with_reducible rfl | rfl
      try simp only [Act.put, List.getElem_toArray, List.getElem_cons_zero, List.setIfInBounds_toArray, List.set_cons_zero, List.set_cons_succ]
      refine wpAnyH_take (i := 1) (v := ?_) rfl (by kernel_rfl) (by kernel_rfl) (by kernel_rfl) (fun _ _ _ h => h) (Or.inl ⟨by rfl, ?_⟩) hHeld ?_
      rotate_left
      · intro w' hSw; obtain ⟨d0, d1, d2, d3, _, _, _, _⟩ := Cod.block4 hSw.2.1; obtain ⟨k0, k1, k2, k3, k4, k5, k6⟩ := cells7 hSw.2.2; go_simp; first | done | with_reducible rfl | rfl
      try simp only [Act.put, List.getElem_toArray, List.getElem_cons_zero, List.getElem_cons_succ, List.setIfInBounds_toArray, List.set_cons_zero, List.set_cons_succ]
      refine wpAnyH_ready (rs := [2]) (by kernel_rfl) (by simp) ?_
      refine AllReadyH.cons rfl (fun K hK => ?_) AllReadyH.nil
      try simp only [Act.put, List.getElem_toArray, List.getElem_cons_zero, List.getElem_cons_succ, List.setIfInBounds_toArray, List.set_cons_zero, List.set_cons_succ]
      go_simp
      go_at_call 17
      refine (KI.out _).mono ?_
      rintro e wr1 ⟨rfl, hb1⟩
      have HB_1 := HBE.trans (hb1.mono HBE.size)
      have HZ_1 := (hb1.block _ (block_lt HZE)).trans HZE
      have HS_1 := (hb1.block _ (block_lt HSE)).trans HSE
      have HR_1 := (hb1.block _ (block_lt HRE)).trans HRE
      go_wp2_with fail
      refine hK.out _ _ (⟨HB_1, HZ_1, HS_1⟩) (fun hS1 => ?_)
      clear hK K
      try simp only [Act.put, List.getElem_toArray, List.getElem_cons_zero, List.getElem_cons_succ, List.setIfInBounds_toArray, List.set_cons_zero, List.set_cons_succ]
      refine wpAnyH_take (i := 3) (v := ?_) rfl (by kernel_rfl) (by kernel_rfl) (by kernel_rfl) (fun _ _ _ h => h) (Or.inl ⟨by rfl, ?_⟩) hS1 ?_
      rotate_left
      · intro w' hSw; obtain ⟨d0, d1, d2, d3, _, _, _, _⟩ := Cod.block4 hSw.2.1; obtain ⟨k0, k1, k2, k3, k4, k5, k6⟩ := cells7 hSw.2.2; go_simp; first | done | with_reducible rfl | rfl
      try simp only [Act.put, List.getElem_toArray, List.getElem_cons_zero, List.getElem_cons_succ, List.setIfInBounds_toArray, List.set_cons_zero, List.set_cons_succ]
      refine wpAnyH_take (i := 4) (v := ?_) rfl (by kernel_rfl) (by kernel_rfl) (by kernel_rfl) (fun _ _ _ h => h) (Or.inl ⟨by rfl, ?_⟩) hS1 ?_
      rotate_left
      · intro w' hSw; obtain ⟨d0, d1, d2, d3, _, _, _, _⟩ := Cod.block4 hSw.2.1; obtain ⟨k0, k1, k2, k3, k4, k5, k6⟩ := cells7 hSw.2.2; go_simp; first | done | with_reducible rfl | rfl
      try simp only [Act.put, List.getElem_toArray, List.getElem_cons_zero, List.getElem_cons_succ, List.setIfInBounds_toArray, List.set_cons_zero, List.set_cons_succ]
      refine wpAnyH_take (i := 5) (v := undef) rfl (by kernel_rfl) (by kernel_rfl) (by kernel_rfl) (fun _ _ _ h => h) (Or.inr ⟨by rfl, by rfl⟩) hS1 ?_
      try simp only [Act.put, List.getElem_toArray, List.getElem_cons_zero, List.getElem_cons_succ, List.setIfInBounds_toArray, List.set_cons_zero, List.set_cons_succ]
      refine wpAnyH_take (i := 6) (v := undef) rfl (by kernel_rfl) (by kernel_rfl) (by kernel_rfl) (fun _ _ _ h => h) (Or.inr ⟨by rfl, by rfl⟩) hS1 ?_
      try simp only [Act.put, List.getElem_toArray, List.getElem_cons_zero, List.getElem_cons_succ, List.setIfInBounds_toArray, List.set_cons_zero, List.set_cons_succ]
      refine wpAnyH_take (i := 7) (v := undef) rfl (by kernel_rfl) (by kernel_rfl) (by kernel_rfl) (fun _ _ _ h => h) (Or.inr ⟨by rfl, by rfl⟩) hS1 ?_
      try simp only [Act.put, List.getElem_toArray, List.getElem_cons_zero, List.getElem_cons_succ, List.setIfInBounds_toArray, List.set_cons_zero, List.set_cons_succ]
      refine wpAnyH_take (i := 8) (v := undef) rfl (by kernel_rfl) (by kernel_rfl) (by kernel_rfl) (fun _ _ _ h => h) (Or.inr ⟨by rfl, by rfl⟩) hS1 ?_
      try simp only [Act.put, List.getElem_toArray, List.getElem_cons_zero, List.getElem_cons_succ, List.setIfInBounds_toArray, List.set_cons_zero, List.set_cons_succ]
      refine wpAnyH_take (i := 9) (v := undef) rfl (by kernel_rfl) (by kernel_rfl) (by kernel_rfl) (fun _ _ _ h => h) (Or.inr ⟨by rfl, by rfl⟩) hS1 ?_
      try simp only [Act.put, List.getElem_toArray, List.getElem_cons_zero, List.getElem_cons_succ, List.setIfInBounds_toArray, List.set_cons_zero, List.set_cons_succ]
      refine wpAnyH_take (i := 10) (v := ?_) rfl (by kernel_rfl) (by kernel_rfl) (by kernel_rfl) (fun _ _ _ h => h) (Or.inl ⟨by rfl, ?_⟩) hS1 ?_
      rotate_left
      · intro w' hSw; obtain ⟨d0, d1, d2, d3, _, _, _, _⟩ := Cod.block4 hSw.2.1; obtain ⟨k0, k1, k2, k3, k4, k5, k6⟩ := cells7 hSw.2.2; go_simp; first | done | with_reducible rfl | rfl
      try simp only [Act.put, List.getElem_toArray, List.getElem_cons_zero, List.getElem_cons_succ, List.setIfInBounds_toArray, List.set_cons_zero, List.set_cons_succ]
      refine wpAnyH_done (by kernel_rfl) ?_ _
      obtain ⟨z0, z1, z2, z3, z4, z5, z6⟩ := cells7 HR_1
      obtain ⟨y0, y1, y2, y3, y4, y5, y6⟩ := free7 HR_1
      go_wp2_with fail
      exact bodyPost_ret (results_sgb rfl rfl rfl (set7_heap HR_1 _ _ _ _ _ _ _) rfl) rfl ⟨by rw [HO.out]; rfl, HB_1.trans (set7_below (Nat.le_succ _) _ _ _ _ _ _ _)⟩
    | true =>
      have KN := Lib.hid (fun W => KN.out hbi W)
      obtain ⟨be, hbe⟩ : ∃ b, x.eqB ⟨2, 0, ⟨#[]⟩, sgF s⟩ = b := ⟨_, rfl⟩
      rw [hbe] at KS
      have hR2 : (if (true && x.eqB (sgN s)) = true then some s else none) = R := HRR.out
      rw [show x.eqB (sgN s) = be from hbe] at hR2
      have HR3 := Lib.hid hR2
      clear HRR hR2
      cases be with
      | false =>
        have HO : Hid (R = none) := Lib.hid (by rw [← HR3.out]; rfl)
        have HBE := HB2.out.drew
        have HZE : W2.drew.heap[w.heap.size]? = some (.cells #[.int .i64 x.k, .int .u64 x.n, .string x.s, .slice (some ⟨g, o, none⟩) 7 cap] 46 (0, 0)) := HZ2.out
        have HSE : W2.drew.heap[gs]? = some (.cells #[.int .u64 s.h.shard, .int .u64 s.h.seq, .string s.h.prev, .string s.h.root, .int .u64 s.h.who, .int .u64 s.h.stamp, .string s.mac] 35 (0, 0)) := HS2.out
        have HRE : W2.drew.heap[w.heap.size + 1]? = some (.cells #[.int .u64 0, .int .u64 0, .string ⟨#[]⟩, .string ⟨#[]⟩, .int .u64 0, .int .u64 0, .string ⟨#[]⟩] 35 (0, 0)) := HR2.out
        refine wp_region_held_drew (S := fun w' => Below w.heap.size w w' ∧ w'.heap[w.heap.size]? = some (.cells #[.int .i64 x.k, .int .u64 x.n, .string x.s, .slice (some ⟨g, o, none⟩) 7 cap] 46 (0, 0)) ∧ w'.heap[gs]? = some (.cells #[.int .u64 s.h.shard, .int .u64 s.h.seq, .string s.h.prev, .string s.h.root, .int .u64 s.h.who, .int .u64 s.h.stamp, .string s.mac] 35 (0, 0))) (by kernel_rfl) (⟨HB2.out.drew, HZ2.out, HS2.out⟩) (fun hHeld => ?_)
        refine wpAnyH_take (i := 0) (v := ?_) rfl (by kernel_rfl) (by kernel_rfl) (by kernel_rfl) (fun _ _ _ h => h) (Or.inl ⟨by rfl, ?_⟩) hHeld ?_
        rotate_left
        · intro w' hSw; obtain ⟨d0, d1, d2, d3, _, _, _, _⟩ := Cod.block4 hSw.2.1; obtain ⟨k0, k1, k2, k3, k4, k5, k6⟩ := cells7 hSw.2.2; go_simp; first | done | with_reducible rfl | rfl
        try simp only [Act.put, List.getElem_toArray, List.getElem_cons_zero, List.setIfInBounds_toArray, List.set_cons_zero, List.set_cons_succ]
        refine wpAnyH_take (i := 1) (v := ?_) rfl (by kernel_rfl) (by kernel_rfl) (by kernel_rfl) (fun _ _ _ h => h) (Or.inl ⟨by rfl, ?_⟩) hHeld ?_
        rotate_left
        · intro w' hSw; obtain ⟨d0, d1, d2, d3, _, _, _, _⟩ := Cod.block4 hSw.2.1; obtain ⟨k0, k1, k2, k3, k4, k5, k6⟩ := cells7 hSw.2.2; go_simp; first | done | with_reducible rfl | rfl
        try simp only [Act.put, List.getElem_toArray, List.getElem_cons_zero, List.getElem_cons_succ, List.setIfInBounds_toArray, List.set_cons_zero, List.set_cons_succ]
        refine wpAnyH_ready (rs := [2]) (by kernel_rfl) (by simp) ?_
        refine AllReadyH.cons rfl (fun K hK => ?_) AllReadyH.nil
        try simp only [Act.put, List.getElem_toArray, List.getElem_cons_zero, List.getElem_cons_succ, List.setIfInBounds_toArray, List.set_cons_zero, List.set_cons_succ]
        go_simp
        go_at_call 17
        refine (KI.out _).mono ?_
        rintro e wr1 ⟨rfl, hb1⟩
        have HB_1 := HBE.trans (hb1.mono HBE.size)
        have HZ_1 := (hb1.block _ (block_lt HZE)).trans HZE
        have HS_1 := (hb1.block _ (block_lt HSE)).trans HSE
        have HR_1 := (hb1.block _ (block_lt HRE)).trans HRE
        go_wp2_with fail
        refine hK.out _ _ (⟨HB_1, HZ_1, HS_1⟩) (fun hS1 => ?_)
        clear hK K
        try simp only [Act.put, List.getElem_toArray, List.getElem_cons_zero, List.getElem_cons_succ, List.setIfInBounds_toArray, List.set_cons_zero, List.set_cons_succ]
        refine wpAnyH_take (i := 3) (v := ?_) rfl (by kernel_rfl) (by kernel_rfl) (by kernel_rfl) (fun _ _ _ h => h) (Or.inl ⟨by rfl, ?_⟩) hS1 ?_
        rotate_left
        · intro w' hSw; obtain ⟨d0, d1, d2, d3, _, _, _, _⟩ := Cod.block4 hSw.2.1; obtain ⟨k0, k1, k2, k3, k4, k5, k6⟩ := cells7 hSw.2.2; go_simp; first | done | with_reducible rfl | rfl
        try simp only [Act.put, List.getElem_toArray, List.getElem_cons_zero, List.getElem_cons_succ, List.setIfInBounds_toArray, List.set_cons_zero, List.set_cons_succ]
        refine wpAnyH_take (i := 4) (v := ?_) rfl (by kernel_rfl) (by kernel_rfl) (by kernel_rfl) (fun _ _ _ h => h) (Or.inl ⟨by rfl, ?_⟩) hS1 ?_
        rotate_left
        · intro w' hSw; obtain ⟨d0, d1, d2, d3, _, _, _, _⟩ := Cod.block4 hSw.2.1; obtain ⟨k0, k1, k2, k3, k4, k5, k6⟩ := cells7 hSw.2.2; go_simp; first | done | with_reducible rfl | rfl
        try simp only [Act.put, List.getElem_toArray, List.getElem_cons_zero, List.getElem_cons_succ, List.setIfInBounds_toArray, List.set_cons_zero, List.set_cons_succ]
        refine wpAnyH_take (i := 5) (v := ?_) rfl (by kernel_rfl) (by kernel_rfl) (by kernel_rfl) (fun _ _ _ h => h) (Or.inl ⟨by rfl, ?_⟩) hS1 ?_
        rotate_left
        · intro w' hSw; obtain ⟨d0, d1, d2, d3, _, _, _, _⟩ := Cod.block4 hSw.2.1; obtain ⟨k0, k1, k2, k3, k4, k5, k6⟩ := cells7 hSw.2.2; go_simp; first | done | with_reducible rfl | rfl
        try simp only [Act.put, List.getElem_toArray, List.getElem_cons_zero, List.getElem_cons_succ, List.setIfInBounds_toArray, List.set_cons_zero, List.set_cons_succ]
        refine wpAnyH_take (i := 6) (v := ?_) rfl (by kernel_rfl) (by kernel_rfl) (by kernel_rfl) (fun _ _ _ h => h) (Or.inl ⟨by rfl, ?_⟩) hS1 ?_
        rotate_left
        · intro w' hSw; obtain ⟨d0, d1, d2, d3, _, _, _, _⟩ := Cod.block4 hSw.2.1; obtain ⟨k0, k1, k2, k3, k4, k5, k6⟩ := cells7 hSw.2.2; go_simp; first | done | with_reducible rfl | rfl
        try simp only [Act.put, List.getElem_toArray, List.getElem_cons_zero, List.getElem_cons_succ, List.setIfInBounds_toArray, List.set_cons_zero, List.set_cons_succ]
        refine wpAnyH_ready (rs := [7]) (by kernel_rfl) (by simp) ?_
        refine AllReadyH.cons rfl (fun K hK => ?_) AllReadyH.nil
        try simp only [Act.put, List.getElem_toArray, List.getElem_cons_zero, List.getElem_cons_succ, List.setIfInBounds_toArray, List.set_cons_zero, List.set_cons_succ]
        go_simp
        go_at_call 18
        refine (KN.out _).mono ?_
        rintro e wn2 ⟨na, nc, rfl, hb2, hkn⟩
        have HB_2 := HB_1.trans (hb2.mono HB_1.size)
        have HZ_2 := (hb2.block _ (block_lt HZ_1)).trans HZ_1
        have HS_2 := (hb2.block _ (block_lt HS_1)).trans HS_1
        have HR_2 := (hb2.block _ (block_lt HR_1)).trans HR_1
        have HKN := Lib.hid (hkn.mono (S' := fun b => b < wn2.heap.size) (fun _ h => h.2) (fun _ _ => rfl))
        have HKX := Lib.hid (HX.out.up HB_2.size HB_2)
        clear hkn
        go_wp2_with fail
        refine hK.out _ _ (⟨HB_2, HZ_2, HS_2⟩) (fun hS2 => ?_)
        clear hK K
        try simp only [Act.put, List.getElem_toArray, List.getElem_cons_zero, List.getElem_cons_succ, List.setIfInBounds_toArray, List.set_cons_zero, List.set_cons_succ]
        refine wpAnyH_ready (rs := [8]) (by kernel_rfl) (by simp) ?_
        refine AllReadyH.cons rfl (fun K hK => ?_) AllReadyH.nil
        try simp only [Act.put, List.getElem_toArray, List.getElem_cons_zero, List.getElem_cons_succ, List.setIfInBounds_toArray, List.set_cons_zero, List.set_cons_succ]
        go_simp
        go_at_call 42
        refine (KS.out _ _ _ HKX.out HKN.out).mono ?_
        rintro e wm3 ⟨rfl, hb3⟩
        have HB_3 := HB_2.trans (hb3.mono HB_2.size)
        have HZ_3 := (hb3.block _ (block_lt HZ_2)).trans HZ_2
        have HS_3 := (hb3.block _ (block_lt HS_2)).trans HS_2
        have HR_3 := (hb3.block _ (block_lt HR_2)).trans HR_2
        go_wp2_with fail
        refine hK.out _ _ (⟨HB_3, HZ_3, HS_3⟩) (fun hS3 => ?_)
        clear hK K
        try simp only [Act.put, List.getElem_toArray, List.getElem_cons_zero, List.getElem_cons_succ, List.setIfInBounds_toArray, List.set_cons_zero, List.set_cons_succ]
        refine wpAnyH_take (i := 9) (v := ?_) rfl (by kernel_rfl) (by kernel_rfl) (by kernel_rfl) (fun _ _ _ h => h) (Or.inl ⟨by rfl, ?_⟩) hS3 ?_
        rotate_left
        · intro w' hSw; obtain ⟨d0, d1, d2, d3, _, _, _, _⟩ := Cod.block4 hSw.2.1; obtain ⟨k0, k1, k2, k3, k4, k5, k6⟩ := cells7 hSw.2.2; go_simp; first | done | with_reducible rfl | rfl
        try simp only [Act.put, List.getElem_toArray, List.getElem_cons_zero, List.getElem_cons_succ, List.setIfInBounds_toArray, List.set_cons_zero, List.set_cons_succ]
        refine wpAnyH_take (i := 10) (v := ?_) rfl (by kernel_rfl) (by kernel_rfl) (by kernel_rfl) (fun _ _ _ h => h) (Or.inl ⟨by rfl, ?_⟩) hS3 ?_
        rotate_left
        · intro w' hSw; obtain ⟨d0, d1, d2, d3, _, _, _, _⟩ := Cod.block4 hSw.2.1; obtain ⟨k0, k1, k2, k3, k4, k5, k6⟩ := cells7 hSw.2.2; go_simp; first | done | with_reducible rfl | rfl
        try simp only [Act.put, List.getElem_toArray, List.getElem_cons_zero, List.getElem_cons_succ, List.setIfInBounds_toArray, List.set_cons_zero, List.set_cons_succ]
        refine wpAnyH_done (by kernel_rfl) ?_ _
        obtain ⟨z0, z1, z2, z3, z4, z5, z6⟩ := cells7 HR_3
        obtain ⟨y0, y1, y2, y3, y4, y5, y6⟩ := free7 HR_3
        go_wp2_with fail
        exact bodyPost_ret (results_sgb rfl rfl rfl (set7_heap HR_3 _ _ _ _ _ _ _) rfl) rfl ⟨by rw [HO.out]; rfl, HB_3.trans (set7_below (Nat.le_succ _) _ _ _ _ _ _ _)⟩
      | true =>
        have HO : Hid (R = some s) := Lib.hid (by rw [← HR3.out]; rfl)
        have HBE := HB2.out.drew
        have HZE : W2.drew.heap[w.heap.size]? = some (.cells #[.int .i64 x.k, .int .u64 x.n, .string x.s, .slice (some ⟨g, o, none⟩) 7 cap] 46 (0, 0)) := HZ2.out
        have HSE : W2.drew.heap[gs]? = some (.cells #[.int .u64 s.h.shard, .int .u64 s.h.seq, .string s.h.prev, .string s.h.root, .int .u64 s.h.who, .int .u64 s.h.stamp, .string s.mac] 35 (0, 0)) := HS2.out
        have HRE : W2.drew.heap[w.heap.size + 1]? = some (.cells #[.int .u64 0, .int .u64 0, .string ⟨#[]⟩, .string ⟨#[]⟩, .int .u64 0, .int .u64 0, .string ⟨#[]⟩] 35 (0, 0)) := HR2.out
        refine wp_region_held_drew (S := fun w' => Below w.heap.size w w' ∧ w'.heap[w.heap.size]? = some (.cells #[.int .i64 x.k, .int .u64 x.n, .string x.s, .slice (some ⟨g, o, none⟩) 7 cap] 46 (0, 0)) ∧ w'.heap[gs]? = some (.cells #[.int .u64 s.h.shard, .int .u64 s.h.seq, .string s.h.prev, .string s.h.root, .int .u64 s.h.who, .int .u64 s.h.stamp, .string s.mac] 35 (0, 0))) (by kernel_rfl) (⟨HB2.out.drew, HZ2.out, HS2.out⟩) (fun hHeld => ?_)
        refine wpAnyH_take (i := 0) (v := ?_) rfl (by kernel_rfl) (by kernel_rfl) (by kernel_rfl) (fun _ _ _ h => h) (Or.inl ⟨by rfl, ?_⟩) hHeld ?_
        rotate_left
        · intro w' hSw; obtain ⟨d0, d1, d2, d3, _, _, _, _⟩ := Cod.block4 hSw.2.1; obtain ⟨k0, k1, k2, k3, k4, k5, k6⟩ := cells7 hSw.2.2; go_simp; first | done | with_reducible rfl | rfl
        try simp only [Act.put, List.getElem_toArray, List.getElem_cons_zero, List.setIfInBounds_toArray, List.set_cons_zero, List.set_cons_succ]
        refine wpAnyH_take (i := 1) (v := ?_) rfl (by kernel_rfl) (by kernel_rfl) (by kernel_rfl) (fun _ _ _ h => h) (Or.inl ⟨by rfl, ?_⟩) hHeld ?_
        rotate_left
        · intro w' hSw; obtain ⟨d0, d1, d2, d3, _, _, _, _⟩ := Cod.block4 hSw.2.1; obtain ⟨k0, k1, k2, k3, k4, k5, k6⟩ := cells7 hSw.2.2; go_simp; first | done | with_reducible rfl | rfl
        try simp only [Act.put, List.getElem_toArray, List.getElem_cons_zero, List.getElem_cons_succ, List.setIfInBounds_toArray, List.set_cons_zero, List.set_cons_succ]
        refine wpAnyH_ready (rs := [2]) (by kernel_rfl) (by simp) ?_
        refine AllReadyH.cons rfl (fun K hK => ?_) AllReadyH.nil
        try simp only [Act.put, List.getElem_toArray, List.getElem_cons_zero, List.getElem_cons_succ, List.setIfInBounds_toArray, List.set_cons_zero, List.set_cons_succ]
        go_simp
        go_at_call 17
        refine (KI.out _).mono ?_
        rintro e wr1 ⟨rfl, hb1⟩
        have HB_1 := HBE.trans (hb1.mono HBE.size)
        have HZ_1 := (hb1.block _ (block_lt HZE)).trans HZE
        have HS_1 := (hb1.block _ (block_lt HSE)).trans HSE
        have HR_1 := (hb1.block _ (block_lt HRE)).trans HRE
        go_wp2_with fail
        refine hK.out _ _ (⟨HB_1, HZ_1, HS_1⟩) (fun hS1 => ?_)
        clear hK K
        try simp only [Act.put, List.getElem_toArray, List.getElem_cons_zero, List.getElem_cons_succ, List.setIfInBounds_toArray, List.set_cons_zero, List.set_cons_succ]
        refine wpAnyH_take (i := 3) (v := ?_) rfl (by kernel_rfl) (by kernel_rfl) (by kernel_rfl) (fun _ _ _ h => h) (Or.inl ⟨by rfl, ?_⟩) hS1 ?_
        rotate_left
        · intro w' hSw; obtain ⟨d0, d1, d2, d3, _, _, _, _⟩ := Cod.block4 hSw.2.1; obtain ⟨k0, k1, k2, k3, k4, k5, k6⟩ := cells7 hSw.2.2; go_simp; first | done | with_reducible rfl | rfl
        try simp only [Act.put, List.getElem_toArray, List.getElem_cons_zero, List.getElem_cons_succ, List.setIfInBounds_toArray, List.set_cons_zero, List.set_cons_succ]
        refine wpAnyH_take (i := 4) (v := ?_) rfl (by kernel_rfl) (by kernel_rfl) (by kernel_rfl) (fun _ _ _ h => h) (Or.inl ⟨by rfl, ?_⟩) hS1 ?_
        rotate_left
        · intro w' hSw; obtain ⟨d0, d1, d2, d3, _, _, _, _⟩ := Cod.block4 hSw.2.1; obtain ⟨k0, k1, k2, k3, k4, k5, k6⟩ := cells7 hSw.2.2; go_simp; first | done | with_reducible rfl | rfl
        try simp only [Act.put, List.getElem_toArray, List.getElem_cons_zero, List.getElem_cons_succ, List.setIfInBounds_toArray, List.set_cons_zero, List.set_cons_succ]
        refine wpAnyH_take (i := 5) (v := ?_) rfl (by kernel_rfl) (by kernel_rfl) (by kernel_rfl) (fun _ _ _ h => h) (Or.inl ⟨by rfl, ?_⟩) hS1 ?_
        rotate_left
        · intro w' hSw; obtain ⟨d0, d1, d2, d3, _, _, _, _⟩ := Cod.block4 hSw.2.1; obtain ⟨k0, k1, k2, k3, k4, k5, k6⟩ := cells7 hSw.2.2; go_simp; first | done | with_reducible rfl | rfl
        try simp only [Act.put, List.getElem_toArray, List.getElem_cons_zero, List.getElem_cons_succ, List.setIfInBounds_toArray, List.set_cons_zero, List.set_cons_succ]
        refine wpAnyH_take (i := 6) (v := ?_) rfl (by kernel_rfl) (by kernel_rfl) (by kernel_rfl) (fun _ _ _ h => h) (Or.inl ⟨by rfl, ?_⟩) hS1 ?_
        rotate_left
        · intro w' hSw; obtain ⟨d0, d1, d2, d3, _, _, _, _⟩ := Cod.block4 hSw.2.1; obtain ⟨k0, k1, k2, k3, k4, k5, k6⟩ := cells7 hSw.2.2; go_simp; first | done | with_reducible rfl | rfl
        try simp only [Act.put, List.getElem_toArray, List.getElem_cons_zero, List.getElem_cons_succ, List.setIfInBounds_toArray, List.set_cons_zero, List.set_cons_succ]
        refine wpAnyH_ready (rs := [7]) (by kernel_rfl) (by simp) ?_
        refine AllReadyH.cons rfl (fun K hK => ?_) AllReadyH.nil
        try simp only [Act.put, List.getElem_toArray, List.getElem_cons_zero, List.getElem_cons_succ, List.setIfInBounds_toArray, List.set_cons_zero, List.set_cons_succ]
        go_simp
        go_at_call 18
        refine (KN.out _).mono ?_
        rintro e wn2 ⟨na, nc, rfl, hb2, hkn⟩
        have HB_2 := HB_1.trans (hb2.mono HB_1.size)
        have HZ_2 := (hb2.block _ (block_lt HZ_1)).trans HZ_1
        have HS_2 := (hb2.block _ (block_lt HS_1)).trans HS_1
        have HR_2 := (hb2.block _ (block_lt HR_1)).trans HR_1
        have HKN := Lib.hid (hkn.mono (S' := fun b => b < wn2.heap.size) (fun _ h => h.2) (fun _ _ => rfl))
        have HKX := Lib.hid (HX.out.up HB_2.size HB_2)
        clear hkn
        go_wp2_with fail
        refine hK.out _ _ (⟨HB_2, HZ_2, HS_2⟩) (fun hS2 => ?_)
        clear hK K
        try simp only [Act.put, List.getElem_toArray, List.getElem_cons_zero, List.getElem_cons_succ, List.setIfInBounds_toArray, List.set_cons_zero, List.set_cons_succ]
        refine wpAnyH_ready (rs := [8]) (by kernel_rfl) (by simp) ?_
        refine AllReadyH.cons rfl (fun K hK => ?_) AllReadyH.nil
        try simp only [Act.put, List.getElem_toArray, List.getElem_cons_zero, List.getElem_cons_succ, List.setIfInBounds_toArray, List.set_cons_zero, List.set_cons_succ]
        go_simp
        go_at_call 42
        refine (KS.out _ _ _ HKX.out HKN.out).mono ?_
        rintro e wm3 ⟨rfl, hb3⟩
        have HB_3 := HB_2.trans (hb3.mono HB_2.size)
        have HZ_3 := (hb3.block _ (block_lt HZ_2)).trans HZ_2
        have HS_3 := (hb3.block _ (block_lt HS_2)).trans HS_2
        have HR_3 := (hb3.block _ (block_lt HR_2)).trans HR_2
        go_wp2_with fail
        refine hK.out _ _ (⟨HB_3, HZ_3, HS_3⟩) (fun hS3 => ?_)
        clear hK K
        try simp only [Act.put, List.getElem_toArray, List.getElem_cons_zero, List.getElem_cons_succ, List.setIfInBounds_toArray, List.set_cons_zero, List.set_cons_succ]
        refine wpAnyH_take (i := 9) (v := ?_) rfl (by kernel_rfl) (by kernel_rfl) (by kernel_rfl) (fun _ _ _ h => h) (Or.inl ⟨by rfl, ?_⟩) hS3 ?_
        rotate_left
        · intro w' hSw; obtain ⟨d0, d1, d2, d3, _, _, _, _⟩ := Cod.block4 hSw.2.1; obtain ⟨k0, k1, k2, k3, k4, k5, k6⟩ := cells7 hSw.2.2; go_simp; first | done | with_reducible rfl | rfl
        try simp only [Act.put, List.getElem_toArray, List.getElem_cons_zero, List.getElem_cons_succ, List.setIfInBounds_toArray, List.set_cons_zero, List.set_cons_succ]
        refine wpAnyH_take (i := 10) (v := ?_) rfl (by kernel_rfl) (by kernel_rfl) (by kernel_rfl) (fun _ _ _ h => h) (Or.inl ⟨by rfl, ?_⟩) hS3 ?_
        rotate_left
        · intro w' hSw; obtain ⟨d0, d1, d2, d3, _, _, _, _⟩ := Cod.block4 hSw.2.1; obtain ⟨k0, k1, k2, k3, k4, k5, k6⟩ := cells7 hSw.2.2; go_simp; first | done | with_reducible rfl | rfl
        try simp only [Act.put, List.getElem_toArray, List.getElem_cons_zero, List.getElem_cons_succ, List.setIfInBounds_toArray, List.set_cons_zero, List.set_cons_succ]
        refine wpAnyH_done (by kernel_rfl) ?_ _
        obtain ⟨z0, z1, z2, z3, z4, z5, z6⟩ := cells7 HR_3
        obtain ⟨y0, y1, y2, y3, y4, y5, y6⟩ := free7 HR_3
        obtain ⟨x0, x1, x2, x3, x4, x5, x6⟩ := cells7 HS_3
        go_wp2_with fail
        exact bodyPost_ret (results_sgb rfl rfl rfl (set7_heap HR_3 _ _ _ _ _ _ _) rfl) rfl ⟨by rw [HO.out]; rfl, HB_3.trans (set7_below (Nat.le_succ _) _ _ _ _ _ _ _)⟩
  · have hn : ofO x = none := by unfold ofO; rw [seven_len _ hl]
    rw [hn]
    obtain ⟨va, vc, rfl⟩ := hx.shape
    obtain ⟨n, hnn⟩ : ∃ n, x.kids.len = n := ⟨_, rfl⟩
    rw [hnn] at hl ⊢
    have e1 : ((n : Int) != 7) = true := by simp; omega
    obtain ⟨W0, hW0⟩ : ∃ W0, W0 = (w.alloc (.cells #[.int .i64 x.k, .int .u64 x.n, .string x.s, .slice va n vc] 46)).alloc (.cells #[.int .u64 0, .int .u64 0, .string ⟨#[]⟩, .string ⟨#[]⟩, .int .u64 0, .int .u64 0, .string ⟨#[]⟩] 35) := ⟨_, rfl⟩
    have HB1 := Lib.hid (show Below w.heap.size w W0 by rw [hW0]; exact ((Below.refl _ _).alloc (Nat.le_refl _) _).alloc (by simp) _)
    have HZ1 : Hid (W0.heap[w.heap.size]? = some (.cells #[.int .i64 x.k, .int .u64 x.n, .string x.s, .slice va n vc] 46 (0, 0))) := Lib.hid (by rw [hW0]; exact (Below.heap_alloc _ _ _ (by simp)).trans (heap_alloc_new _ _))
    have HR1 : Hid (W0.heap[w.heap.size + 1]? = some (.cells #[.int .u64 0, .int .u64 0, .string ⟨#[]⟩, .string ⟨#[]⟩, .int .u64 0, .int .u64 0, .string ⟨#[]⟩] 35 (0, 0))) := Lib.hid (by rw [hW0]; simpa using heap_alloc_new (w.alloc (.cells #[.int .i64 x.k, .int .u64 x.n, .string x.s, .slice va n vc] 46)) _)
    unfold nodeV
    clear hok hm hsm hx hl hnn hn
    obtain ⟨c0, c1, c2, c3, _, _, _, _⟩ := Cod.block4 HZ1.out
    obtain ⟨z0, z1, z2, z3, z4, z5, z6⟩ := cells7 HR1.out
    obtain ⟨y0, y1, y2, y3, y4, y5, y6⟩ := free7 HR1.out
    go_enter Tryd.func21, Tryd.ntmps21
    go_upto_region 1 with fail
    simp only [← hW0]
    clear hW0
    go_wp2_with fail
    exact bodyPost_ret (results_sgb rfl rfl rfl (set7_heap HR1.out _ _ _ _ _ _ _) rfl) rfl ⟨rfl, HB1.out.trans (set7_below (Nat.le_succ _) _ _ _ _ _ _ _)⟩
end Go.Proofs.YtpkkdjmcabefbaaDoor
