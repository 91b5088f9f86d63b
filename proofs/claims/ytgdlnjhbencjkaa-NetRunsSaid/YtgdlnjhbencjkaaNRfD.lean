/- net: the reference's net: Drop. -/
import Derived.Test.YtgdlnjhbencjkaaNRf
namespace Go.Proofs.Ytgdlnjhbencjkaa
open Go.RowKit
set_option maxHeartbeats 4000000 in
set_option maxRecDepth 100000 in
theorem rdrop_prog (w : World) (v : Value) (q : List On) (last : Nat) (h : ROwn w 0 v q) (hE : REnt w q) (hl : q.length ≤ 1000) (i : Int) :
    Calls Try.prog 15 #[.agg #[v, .int .u64 (last : Int)], .int .i64 i] w fun e w' => ∃ v', e = .returned (.agg #[v', .int .u64 (last : Int)]) ∧ ROwn w' w.heap.size v' (dropI q i) ∧ Below w.heap.size w w' := by
  obtain ⟨a, c, rfl⟩ := h.shape
  obtain ⟨W1, hW1⟩ : ∃ W1, W1 = (w.alloc (.cells #[.slice a q.length c, .int .u64 (last : Int)] 29)).alloc (.cells #[.slice none 0 0, .int .u64 0] 29) := ⟨_, rfl⟩
  have hb1 : Below w.heap.size w W1 := by rw [hW1]; exact ((Below.refl _ _).alloc (Nat.le_refl _) _).alloc (by simp) _
  have HZ1 : Hid (W1.heap[w.heap.size]? = some (.cells #[.slice a q.length c, .int .u64 (last : Int)] 29 (0, 0))) := Lib.hid (by rw [hW1, heap_alloc_old _ _ (by simp)]; exact heap_alloc_new _ _)
  have HR1 : Hid (W1.heap[w.heap.size + 1]? = some (.cells #[.slice none 0 0, .int .u64 0] 29 (0, 0))) := Lib.hid (by rw [hW1]; simpa using heap_alloc_new (w.alloc (.cells #[.slice a q.length c, .int .u64 (last : Int)] 29)) _)
  have HS1 : Hid (W1.heap.size = w.heap.size + 2) := Lib.hid (by rw [hW1]; simp)
  have HB1 := Lib.hid hb1
  have HO := Lib.hid (h.later hb1)
  have HE := Lib.hid (REnt.later hE hb1)
  have hq0 : (0 : Int) ≤ (q.length : Int) := by omega
  have hqm : (q.length : Int) ≤ 1000 := by omega
  clear h hE hb1
  go_enter Try.func15, Try.ntmps15
  go_wp2_with fail
  simp only [← hW1]
  clear hW1
  go_loopw [5, 6] (fun u i' wr => ∃ k : Nat, k ≤ q.length ∧ i' = .int .i64 (k : Int) ∧ Hid (ROwn wr W1.heap.size u (dropI (q.take k) i)) ∧ Hid (Below W1.heap.size W1 wr)) (fun _ i' _ => q.length - (intOf i').toNat)
  case atStart => exact ⟨0, by omega, rfl, Lib.hid (by rw [show dropI (q.take 0) i = [] by unfold dropI; split <;> simp]; exact World.ownsRow_nil _ _ _ _), Lib.hid (Below.refl _ _)⟩
  case round =>
    obtain ⟨k, hk, rfl, HK, HB⟩ := hrel
    have hz := block_kept HZ1.out (block_lt HZ1.out) HB.out
    have c0 : wr.cell? ⟨w.heap.size, 0, none⟩ = some (.slice a q.length c) := by unfold World.cell?; rw [hz]; rfl
    have c1 : wr.cell? ⟨w.heap.size, 1, none⟩ = some (.int .u64 (last : Int)) := by unfold World.cell?; rw [hz]; rfl
    by_cases hlt : k < q.length
    · have hkI : (k : Int) < (q.length : Int) := by omega
      have hk0 : (0 : Int) ≤ (k : Int) := by omega
      obtain ⟨⟨num, m, ev⟩, hx⟩ : ∃ x, q[k]? = some x := ⟨_, List.getElem?_eq_getElem hlt⟩
      have HT : Hid (q.take (k + 1) = q.take k ++ [(num, m, ev)]) := Lib.hid (by rw [List.take_add_one, hx]; rfl)
      have HTL : Hid ((q.take k).length = k) := Lib.hid (by rw [List.length_take]; omega)
      by_cases hki : (k : Int) = i
      · have HK2 : Hid (ROwn wr W1.heap.size u5 (dropI (q.take (k + 1)) i)) := Lib.hid (by rw [HT.out, dropI_snoc, HTL.out, if_pos hki.symm]; exact HK.out)
        have ht : ((k : Int) != i) = false := by simp [hki]
        clear hx hki
        go_wp2_with fail
        go_roundw
        case rel => exact ⟨k + 1, by omega, by go_num, HK2, HB⟩
        case measure => simp [intOf]; omega
      · have ht : ((k : Int) != i) = true := by simp [hki]
        obtain ⟨ea, ec, e1, _⟩ := HE.out _ (List.mem_of_getElem? hx)
        have e1 : ev = .slice ea m.ents.length ec := e1
        subst e1
        obtain ⟨g, c', e2, hg, hcs⟩ := HO.out.get hx
        injection e2 with e2 e3 e4
        subst e2
        clear e3 e4
        have d : ∀ j u, (oneC (num, m, .slice ea m.ents.length ec))[j]? = some u → wr.cell? ⟨g, k * 11 + j, none⟩ = some u := fun j u hu => cellB HB.out (hcs j u hu)
        have d0 := d 0 _ rfl
        have d1 := d 1 _ rfl
        have d2 := d 2 _ rfl
        have d3 := d 3 _ rfl
        have d4 := d 4 _ rfl
        have d5 := d 5 _ rfl
        have d6 := d 6 _ rfl
        have d7 := d 7 _ rfl
        have d8 := d 8 _ rfl
        have d9 := d 9 _ rfl
        have d10 := d 10 _ rfl
        rw [Nat.add_zero] at d0
        have HN := Lib.hid (show ¬ i = ((q.take k).length : Int) by rw [HTL.out]; exact fun e => hki e.symm)
        have HL : Hid ((dropI (q.take k) i).length ≤ 1000) := Lib.hid (by have := dropI_len (q.take k) i; have := HTL.out; omega)
        clear d hcs hg hx hki
        go_wp2_with (first | (at_builtin; refine list_appN Try.oneSl rfl _ _ rfl W1.heap.size _ (dropI (q.take k) i).length _ rfl ((HK.out.later ((Below.refl _ _).alloc (Nat.le_refl _) _) : ROwn _ _ _ _)) wr.heap.size 1 1 (oneC (num, m, .slice ea m.ents.length ec)) rfl (heap_alloc_new wr _) rfl (oneC_one ⟨_, _, _, rfl⟩) (by omega) (by have := HL.out; unfold maxLen; omega) (by have := HL.out; omega) (by have := HB.out.size; simp; omega) ?_) | fail)
        intro g5 cap5 w5 ho5 hg5
        have HK5 : Hid (ROwn w5 W1.heap.size (.slice (some ⟨g5, 0, none⟩) ((dropI (q.take k) i).length + 1) cap5) (dropI (q.take (k + 1)) i)) := Lib.hid (by
          rw [HT.out, dropI_snoc, if_neg HN.out]
          unfold ROwn
          rw [List.length_append, onC_append, show onC [(num, m, Value.slice ea m.ents.length ec)] = oneC (num, m, .slice ea m.ents.length ec) by simp [onC]]
          exact ho5)
        have HB5 : Hid (Below W1.heap.size W1 w5) := Lib.hid ((HB.out.alloc HB.out.size _).trans (hg5.below (by have := HB.out.size; simp; omega) (fun j hj => ownN_low HK.out j hj)))
        clear ho5 hg5
        go_wp2_with fail
        go_roundw
        case rel => exact ⟨k + 1, by omega, by go_num, HK5, HB5⟩
        case measure => simp [intOf]; omega
    · have hke : k = q.length := by omega
      subst hke
      have hkI : ¬ (q.length : Int) < (q.length : Int) := by omega
      rw [List.take_length] at HK
      have hr := block_kept HR1.out (block_lt HR1.out) HB.out
      have r0 : wr.cell? ⟨w.heap.size + 1, 0, none⟩ = some (.slice none 0 0) := by unfold World.cell?; rw [hr]; rfl
      have r1 : wr.cell? ⟨w.heap.size + 1, 1, none⟩ = some (.int .u64 0) := by unfold World.cell?; rw [hr]; rfl
      have f0 : wr.frozen? ⟨w.heap.size + 1, 0, none⟩ = false := by simp [World.frozen?, hr]
      have f1 : wr.frozen? ⟨w.heap.size + 1, 1, none⟩ = false := by simp [World.frozen?, hr]
      obtain ⟨sa, sc, rfl⟩ := HK.out.shape
      obtain ⟨W5, hW5⟩ : ∃ W5, W5 = (wr.setCell ⟨w.heap.size + 1, 0, none⟩ (.slice sa (dropI q i).length sc)).setCell ⟨w.heap.size + 1, 1, none⟩ (.int .u64 (last : Int)) := ⟨_, rfl⟩
      have hz5 : W5.heap[w.heap.size + 1]? = some (.cells #[.slice sa (dropI q i).length sc, .int .u64 (last : Int)] 29 (0, 0)) := by rw [hW5]; exact set2_heap hr _ _
      have hb5 : Below w.heap.size w W5 := by rw [hW5]; exact (HB1.out.trans (HB.out.mono HB1.out.size)).trans (set2_below (by omega) _ _)
      have ho5 : ROwn W5 w.heap.size (.slice sa (dropI q i).length sc) (dropI q i) := by
        rw [hW5]
        refine ownN_base (ownN_mv HK.out fun j hj => set2_other _ _ _ _ j (fun e => ?_)) fun j hj => ?_
        · have := ownN_low HK.out j hj; have := HS1.out; omega
        · have := ownN_low HK.out j hj; have := HS1.out; omega
      clear HK HB
      go_wp2_with fail
      simp only [← hW5]
      exact bodyPost_ret (results_net rfl rfl hz5 rfl) rfl ⟨_, rfl, ho5, hb5⟩
end Go.Proofs.Ytgdlnjhbencjkaa
