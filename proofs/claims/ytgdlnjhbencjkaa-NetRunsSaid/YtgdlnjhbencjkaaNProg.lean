/- net: New, Len, there, copied, add. -/
import Derived.Test.YtgdlnjhbencjkaaNMem
namespace Go.Proofs.Ytgdlnjhbencjkaa
open Go.RowKit

def set10 (w : World) (G : Nat) (b0 b1 b2 b3 b4 b5 b6 b7 b8 b9 : Value) : World :=
  (((((((((w.setCell ⟨G, 0, none⟩ b0).setCell ⟨G, 1, none⟩ b1).setCell ⟨G, 2, none⟩ b2).setCell ⟨G, 3, none⟩ b3).setCell ⟨G, 4, none⟩ b4).setCell ⟨G, 5, none⟩ b5).setCell ⟨G, 6, none⟩ b6).setCell ⟨G, 7, none⟩ b7).setCell ⟨G, 8, none⟩ b8).setCell ⟨G, 9, none⟩ b9
theorem set10_heap {w : World} {G : Nat} {a0 a1 a2 a3 a4 a5 a6 a7 a8 a9 : Value} {ty : TypeId} (h : w.heap[G]? = some (.cells #[a0, a1, a2, a3, a4, a5, a6, a7, a8, a9] ty (0, 0))) (b0 b1 b2 b3 b4 b5 b6 b7 b8 b9 : Value) :
    (set10 w G b0 b1 b2 b3 b4 b5 b6 b7 b8 b9).heap[G]? = some (.cells #[b0, b1, b2, b3, b4, b5, b6, b7, b8, b9] ty (0, 0)) := by
  have h0 := heap_setCell_same w G 0 _ _ b0 h
  have h1 := heap_setCell_same _ G 1 _ _ b1 h0
  have h2 := heap_setCell_same _ G 2 _ _ b2 h1
  have h3 := heap_setCell_same _ G 3 _ _ b3 h2
  have h4 := heap_setCell_same _ G 4 _ _ b4 h3
  have h5 := heap_setCell_same _ G 5 _ _ b5 h4
  have h6 := heap_setCell_same _ G 6 _ _ b6 h5
  have h7 := heap_setCell_same _ G 7 _ _ b7 h6
  have h8 := heap_setCell_same _ G 8 _ _ b8 h7
  have h9 := heap_setCell_same _ G 9 _ _ b9 h8
  simpa [set10] using h9
theorem set10_below {w : World} {G B : Nat} (hB : B ≤ G) (b0 b1 b2 b3 b4 b5 b6 b7 b8 b9 : Value) : Below B w (set10 w G b0 b1 b2 b3 b4 b5 b6 b7 b8 b9) :=
  (((((((((((Below.refl B w).setCell hB _).setCell hB _).setCell hB _).setCell hB _).setCell hB _).setCell hB _).setCell hB _).setCell hB _).setCell hB _).setCell hB _)
theorem set10_other (w : World) (G : Nat) (b0 b1 b2 b3 b4 b5 b6 b7 b8 b9 : Value) (j : Nat) (hj : j ≠ G) : (set10 w G b0 b1 b2 b3 b4 b5 b6 b7 b8 b9).heap[j]? = w.heap[j]? := by
  unfold set10
  rw [heap_setCell_other _ ⟨G, 9, none⟩ j _ hj, heap_setCell_other _ ⟨G, 8, none⟩ j _ hj, heap_setCell_other _ ⟨G, 7, none⟩ j _ hj, heap_setCell_other _ ⟨G, 6, none⟩ j _ hj, heap_setCell_other _ ⟨G, 5, none⟩ j _ hj, heap_setCell_other _ ⟨G, 4, none⟩ j _ hj, heap_setCell_other _ ⟨G, 3, none⟩ j _ hj, heap_setCell_other _ ⟨G, 2, none⟩ j _ hj, heap_setCell_other _ ⟨G, 1, none⟩ j _ hj, heap_setCell_other _ ⟨G, 0, none⟩ j _ hj]
/-- A call's result that lies in a variable of type Msg, in slot k. -/
theorem results_msg {f : Func} {k : Nat} {tmps : Array Value} {w : World} {H : Nat} {cs : Array Value} (hf : f.results = #[.cell k 32]) (h2 : tmps.getD k undef = .pointer (some ⟨H, 0, none⟩))
    (hg : w.heap[H]? = some (.cells cs 32 (0, 0))) (hs : cs.size = 10) : (results f tmps).run Try.prog w = .ok (.agg cs) w := by
  have hi : (Try.prog.info? 32).map (·.size) = some cs.size := by rw [hs]; kernel_rfl
  have h3 : tmps[k]?.getD undef = .pointer (some ⟨H, 0, none⟩) := by simpa using h2
  simp only [results, hf]
  simp [h3, asAddr, run_loadVar_row w H 32 32 cs (0, 0) _ hg Try.underlying32 rfl hi]
set_option maxHeartbeats 1000000 in
set_option maxRecDepth 100000 in
theorem new_prog (w : World) : Calls Try.prog 8 #[] w fun e w' => e = .returned (.pointer (some ⟨w.heap.size, 0, none⟩)) ∧ NW w' w.heap.size (.slice none 0 0) 0 [] ∧ Below w.heap.size w w' := by
  go_enter Try.func8, Try.ntmps8
  go_wp2
  go_ret
  exact ⟨rfl, ⟨heap_alloc_new _ _, [], .nil _, rfl, fun i x h => by cases h⟩, (Below.refl _ _).alloc (Nat.le_refl _) _⟩
section
variable {w : World} {nb : Nat} {v : Value} {all : Nat} {l : List (Nat × Mg)}
set_option maxHeartbeats 1000000 in
set_option maxRecDepth 100000 in
theorem len_prog (h : NW w nb v all l) : Calls Try.prog 19 #[.pointer (some ⟨nb, 0, none⟩)] w fun e w' => e = .returned (.int .i64 (l.length : Int)) ∧ w = w' := by
  obtain ⟨c0, c1, f0, f1⟩ := h.cells
  obtain ⟨a, c, rfl⟩ := h.shape
  obtain ⟨n, hn⟩ : ∃ n, l.length = n := ⟨_, rfl⟩
  rw [hn] at c0 ⊢
  clear h hn
  go_enter Try.func19, Try.ntmps19
  go_wp2
  go_ret
  exact ⟨rfl, rfl⟩
set_option maxHeartbeats 1000000 in
set_option maxRecDepth 100000 in
theorem there_prog (h : NW w nb v all l) (i : Int) : Calls Try.prog 27 #[.pointer (some ⟨nb, 0, none⟩), .int .i64 i] w fun e w' => e = .returned (.bool (decide (0 ≤ i) && decide (i < (l.length : Int)))) ∧ w = w' := by
  have H := Lib.hid (len_prog h)
  obtain ⟨n, hn⟩ : ∃ n, l.length = n := ⟨_, rfl⟩
  rw [hn] at H ⊢
  clear h hn
  by_cases h0 : 0 ≤ i
  · go_enter Try.func27, Try.ntmps27
    go_wp2_with fail
    refine H.out.mono ?_
    rintro e w1 ⟨rfl, rfl⟩
    go_wp2
    go_ret
    exact ⟨by simp [h0], rfl⟩
  · go_enter Try.func27, Try.ntmps27
    go_wp2_with fail
    go_ret
    exact ⟨by simp; omega, rfl⟩
end
set_option maxHeartbeats 2000000 in
set_option maxRecDepth 100000 in
theorem copied_prog (m : Mg) (ev : Value) (w : World) (h : ESl w ev m.ents) (hl : m.ents.length ≤ 1000) :
    Calls Try.prog 24 #[.agg (mgL m ev).toArray] w fun e w' => ∃ ev', e = .returned (.agg (mgL m ev').toArray) ∧ EOwn w' w.heap.size ev' m.ents ∧ Below w.heap.size w w' := by
  obtain ⟨W0, hW0⟩ : ∃ W0, W0 = (w.alloc (.cells (mgL m ev).toArray 32)).alloc (.cells #[.int .i64 0, .int .i64 0, .int .i64 0, .int .u64 0, .int .u64 0, .int .u64 0, .int .u64 0, .bool false, .slice none 0 0, .string ⟨#[]⟩] 32) := ⟨_, rfl⟩
  have hb0 : Below w.heap.size w W0 := by rw [hW0]; exact ((Below.refl _ _).alloc (Nat.le_refl _) _).alloc (by simp) _
  have hz0 : W0.heap[w.heap.size]? = some (.cells (mgL m ev).toArray 32 (0, 0)) := by rw [hW0]; rw [heap_alloc_old _ _ (by simp)]; exact heap_alloc_new w _
  have hz1 : W0.heap[w.heap.size + 1]? = some (.cells #[.int .i64 0, .int .i64 0, .int .i64 0, .int .u64 0, .int .u64 0, .int .u64 0, .int .u64 0, .bool false, .slice none 0 0, .string ⟨#[]⟩] 32 (0, 0)) := by
    rw [hW0]; have := heap_alloc_new (w.alloc (.cells (mgL m ev).toArray 32)) (.cells #[.int .i64 0, .int .i64 0, .int .i64 0, .int .u64 0, .int .u64 0, .int .u64 0, .int .u64 0, .bool false, .slice none 0 0, .string ⟨#[]⟩] 32); simpa using this
  have K := Lib.hid (eclone_prog ev m.ents W0 (h.later hb0) (by omega))
  have HB0 := Lib.hid hb0
  unfold mgL at hW0 hz0 ⊢
  obtain ⟨d0, d1, d2, d3, d4, d5, d6, d7, d8, d9⟩ := cells10 hz0
  have HZ0 := Lib.hid hz0
  have HZ1 := Lib.hid hz1
  have hs0 : W0.heap.size = w.heap.size + 2 := by rw [hW0]; simp
  clear h hl hz0 hz1 hb0
  go_enter Try.func24, Try.ntmps24
  go_wp2_with fail
  simp only [← hW0]
  clear hW0
  refine K.out.mono ?_
  rintro e w1 ⟨ev', rfl, ho, hb1⟩
  have y0 := block_kept HZ0.out (by omega) hb1
  have y1 := block_kept HZ1.out (by omega) hb1
  have HB1 := Lib.hid (HB0.out.trans (hb1.mono HB0.out.size))
  obtain ⟨e0, e1, e2, e3, e4, e5, e6, e7, e8, e9⟩ := cells10 y0
  obtain ⟨f0, f1, f2, f3, f4, f5, f6, f7, f8, f9⟩ := free10 y0
  obtain ⟨g0, g1, g2, g3, g4, g5, g6, g7, g8, g9⟩ := cells10 y1
  obtain ⟨k0, k1, k2, k3, k4, k5, k6, k7, k8, k9⟩ := free10 y1
  have HO := Lib.hid ho
  obtain ⟨a', c', rfl, _⟩ := ho.shape
  clear K hb1 y0 ho
  clear d0 d1 d2 d3 d4 d5 d6 d7 d8 d9
  go_wp2_with fail
  have hne : w.heap.size + 1 ≠ w.heap.size := by omega
  have hz := heap_setCell_other w1 ⟨w.heap.size, 8, none⟩ (w.heap.size + 1) (.slice a' m.ents.length c') hne
  refine bodyPost_ret (results_msg rfl rfl (set10_heap (w := w1.setCell ⟨w.heap.size, 8, none⟩ (.slice a' m.ents.length c')) (hz.trans y1) _ _ _ _ _ _ _ _ _ _) rfl) rfl ⟨_, rfl, ?_, ?_⟩
  · refine (EOwn.base (B := W0.heap.size) ?_ (fun k hk => Nat.le_trans HB0.out.size (EOwn.low (B := W0.heap.size) HO.out k hk)))
    refine HO.out.mv fun k hk => ?_
    have hk' := EOwn.low (B := W0.heap.size) HO.out k hk
    exact (set10_other _ _ _ _ _ _ _ _ _ _ _ _ k (by omega)).trans (heap_setCell_other w1 ⟨w.heap.size, 8, none⟩ k _ (by show k ≠ w.heap.size; omega))
  · exact (HB1.out.setCell (Nat.le_refl _) _).trans (set10_below (by omega) _ _ _ _ _ _ _ _ _ _)

section
variable {w : World} {nb : Nat} {v : Value} {all : Nat} {l : List (Nat × Mg)}
theorem u64_succ (n : Nat) (h : n < 1000000000) : IntKind.u64.wrap ((n : Int) + 1) = ((n + 1 : Nat) : Int) := by
  simp only [IntKind.wrap, IntKind.signed, IntKind.bits]; simp; omega
theorem add_end {w W1 w2 : World} {nb : Nat} {v v' : Value} {all : Nat} {l : List (Nat × Mg)} {q : List (Nat × Nat)} {A1 b : Nat} {m : Mg} (h : NW w nb v all l) (hql : q.length = l.length)
    (hqm : ∀ (i : Nat) (x : Nat × Nat), q[i]? = some x → ∃ m, l[i]? = some (x.1, m) ∧ MAt w x.2 m)
    (hn1 : W1.heap[nb]? = some (.cells #[v, .int .u64 (A1 : Int)] 63 (0, 0))) (ho1 : ∀ j, j ≠ nb → W1.heap[j]? = w.heap[j]?) (hs1 : W1.heap.size = w.heap.size) (hos : W1.os = w.os ∧ W1.tape = w.tape ∧ W1.output = w.output)
    (hm : MAt w b m) (hv2 : WSl w2 v' (q ++ [(A1, b)])) (G2 : Grew W1 v w2 v') :
    NW (w2.setCell ⟨nb, 0, none⟩ v') nb v' A1 (l ++ [(A1, m)]) ∧ NCh nb v w (w2.setCell ⟨nb, 0, none⟩ v') v' := by
  have hfar := h.far
  have hlt := h.lt
  have hc : NCh nb v w (w2.setCell ⟨nb, 0, none⟩ v') v' := by
    refine ⟨G2.grow.os.trans hos.1, G2.grow.tape.trans hos.2.1, G2.grow.output.trans hos.2.2, by have := G2.size; simp; omega, fun j hj h1 h2 => ?_, fun j hj => ?_⟩
    · rw [heap_setCell_other w2 ⟨nb, 0, none⟩ j _ h1, G2.block (by omega) h2, ho1 j h1]
    · rcases G2.loc j hj with e | e
      · exact .inl e
      · exact .inr (by omega)
  have hv' : v'.ownBlock ≠ some nb := fun e => by
    rcases G2.loc nb e with e | e
    · exact hfar e
    · omega
  refine ⟨⟨?_, q ++ [(A1, b)], hv2.mv fun k hk => heap_setCell_other w2 ⟨nb, 0, none⟩ k _ (fun e => hv' (by rw [hk, e])), by simp [hql], fun i x hx => ?_⟩, hc⟩
  · have e := (G2.block (b := nb) (by omega) hfar).trans hn1
    have := heap_setCell_same w2 nb 0 _ _ v' e
    simpa using this
  · by_cases hi : i < q.length
    · rw [List.getElem?_append_left hi] at hx
      obtain ⟨m', e1, e2⟩ := hqm i x hx
      exact ⟨m', by rw [List.getElem?_append_left (by omega)]; exact e1, e2.ch hc h⟩
    · rw [List.getElem?_append_right (by omega)] at hx
      have hi0 : i - q.length = 0 := by
        have := (List.getElem?_eq_some_iff.1 hx).1
        simp at this; omega
      rw [hi0] at hx
      obtain rfl : (A1, b) = x := by simpa using hx
      exact ⟨m, by rw [List.getElem?_append_right (by omega), show i - l.length = 0 by omega]; rfl, hm.ch hc h⟩
set_option maxHeartbeats 4000000 in
set_option maxRecDepth 100000 in
theorem add_prog (h : NW w nb v all l) (b : Nat) (m : Mg) (hm : MAt w b m) (hall : all < 1000000) (hl : l.length < 1000000) :
    Calls Try.prog 25 #[.pointer (some ⟨nb, 0, none⟩), .pointer (some ⟨b, 0, none⟩)] w fun e w' => e = .returned (.tuple #[]) ∧ ∃ v', NW w' nb v' (all + 1) (l ++ [(all + 1, m)]) ∧ NCh nb v w w' v' := by
  obtain ⟨c0, c1, f0, f1⟩ := h.cells
  obtain ⟨q, hq, hql, hqm⟩ := h.way
  have hfar := h.far
  have hwr := u64_succ all (by omega)
  obtain ⟨A1, hA1⟩ : ∃ A1, all + 1 = A1 := ⟨_, rfl⟩
  rw [hA1] at hwr ⊢
  have H := Lib.hid h
  obtain ⟨a, c, rfl⟩ := h.shape
  have hnlt := h.lt
  -- behind the first store
  obtain ⟨W1, hW1⟩ : ∃ W1, W1 = w.setCell ⟨nb, 1, none⟩ (.int .u64 (A1 : Int)) := ⟨_, rfl⟩
  have hs1 : W1.heap.size = w.heap.size := by rw [hW1]; simp
  have hn1 : W1.heap[nb]? = some (.cells #[.slice a l.length c, .int .u64 (A1 : Int)] 63 (0, 0)) := by rw [hW1]; have := heap_setCell_same w nb 1 _ _ (.int .u64 (A1 : Int)) h.net; simpa using this
  have ho1 : ∀ j, j ≠ nb → W1.heap[j]? = w.heap[j]? := fun j hj => by rw [hW1]; exact heap_setCell_other w ⟨nb, 1, none⟩ j _ hj
  have HQ1 := Lib.hid (hq.mv (w' := W1) (fun k hk => ho1 k (fun e => hfar (by rw [hk, e]))))
  have d0 : W1.cell? ⟨nb, 0, none⟩ = some (.slice a l.length c) := by simp [World.cell?, hn1]
  have d1 : W1.cell? ⟨nb, 1, none⟩ = some (.int .u64 (A1 : Int)) := by simp [World.cell?, hn1]
  have g0 : W1.frozen? ⟨nb, 0, none⟩ = false := by simp [World.frozen?, hn1]
  have HN1 := Lib.hid hn1
  have HO1 := Lib.hid ho1
  have HS1 := Lib.hid hs1
  have HQL := Lib.hid hql
  have HQM := Lib.hid hqm
  have HL := Lib.hid hl
  have HF := Lib.hid hfar
  have HM := Lib.hid hm
  have HOS : Hid (W1.os = w.os ∧ W1.tape = w.tape ∧ W1.output = w.output) := Lib.hid (by rw [hW1]; exact ⟨rfl, rfl, rfl⟩)
  have hnW : nb < W1.heap.size := by omega
  clear hA1 h hq hql hqm hall hl hfar hn1 ho1 hs1 hm
  go_enter Try.func25, Try.ntmps25
  go_wp2_with fail
  rw [← hW1]
  clear hW1 c0 c1 f0 f1 hwr
  go_region_law (refine step_wapp rfl _ _ (by rfl) _ q (by rfl) (HQ1.out.mv (fun k hk => (heap_alloc_old W1 _ (HQ1.out.lt k hk)))) W1.heap.size 1 A1 b (by rfl) (heap_at_alloc W1 _) (by have := HL.out; have := HQL.out; omega) ?_; intro v' w2 hv2 hg2; obtain ⟨a2, c2, rfl⟩ := hv2.shape; have G2 : Grew W1 (.slice a l.length c) w2 _ := ((Grew.alloc _ _ _).trans (Grew.drew _ _)).trans hg2; have hb2 := G2.block hnW HF.out; have T0 := (World.cell?_of_block (w := W1) (a := ⟨nb, 0, none⟩) hb2).trans d0; have TF := (World.frozen?_of_block (w := W1) (a := ⟨nb, 0, none⟩) hb2).trans g0)
  all_goals
    (have e : (q ++ [(A1, b)]).length = q.length + 1 := by simp
     rw [e] at hv2 G2
     have hend := add_end H.out HQL.out HQM.out HN1.out HO1.out HS1.out HOS.out HM.out hv2 G2
     exact bodyPost_end (v := .tuple #[]) (results_none rfl _ _ _) rfl ⟨rfl, _, hend⟩)
end
end Go.Proofs.Ytgdlnjhbencjkaa
