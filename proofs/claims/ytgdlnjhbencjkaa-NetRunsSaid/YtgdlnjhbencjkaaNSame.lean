/- Same of lists of messages. -/
import Derived.Test.YtgdlnjhbencjkaaNMsl
namespace Go.Proofs.Ytgdlnjhbencjkaa
open Go.RowKit

def SameRes (l1 l2 : List Mg) (w : World) (e : Ending) (w' : World) : Prop := ∃ r : Bool, e = .returned (.bool r) ∧ (r = true ↔ l1 = l2) ∧ Below w.heap.size w w'
theorem SameRes.no {l1 l2 : List Mg} {w w' : World} (h : l1 ≠ l2) (hb : Below w.heap.size w w') : SameRes l1 l2 w (.returned (.bool false)) w' := ⟨false, rfl, ⟨fun e => (by cases e), fun e => absurd e h⟩, hb⟩
theorem SameRes.yes {l1 l2 : List Mg} {w w' : World} (h : l1 = l2) (hb : Below w.heap.size w w') : SameRes l1 l2 w (.returned (.bool true)) w' := ⟨true, rfl, ⟨fun _ => h, fun _ => rfl⟩, hb⟩
set_option maxHeartbeats 8000000 in
set_option maxRecDepth 100000 in
theorem same_ref (l1 l2 : List Mg) (v1 v2 : Value) (w : World) (h1 : MSl w v1 l1) (h2 : MSl w v2 l2) (hl1 : l1.length ≤ 1000000) (hE1 : ∀ m ∈ l1, m.ents.length ≤ 1000000) :
    Calls Try.prog 26 #[v1, v2] w (SameRes l1 l2 w) := by
  by_cases hlen : l1.length = l2.length
  · obtain ⟨a1, c1, rfl⟩ := h1.shape
    obtain ⟨a2, c2, rfl⟩ := h2.shape
    have H1 := Lib.hid h1
    have H2 := Lib.hid h2
    have HL := Lib.hid hlen
    have HE := Lib.hid hE1
    obtain ⟨n, hn⟩ : ∃ n, l1.length = n := ⟨_, rfl⟩
    have hn2 : l2.length = n := by omega
    rw [hn] at H1 hl1
    rw [hn2] at H2
    have HN1 := Lib.hid hn
    have HN2 := Lib.hid hn2
    rw [hn, hn2]
    have hnI : (n : Int) ≤ 1000000 := by omega
    clear h1 h2 hlen hn hn2 hE1 hl1
    go_enter Try.func26, Try.ntmps26
    go_wp2_with fail
    go_loopw [5] (fun i wr => ∃ k : Nat, k ≤ n ∧ i = .int .i64 (k : Int) ∧ Hid (l1.take k = l2.take k) ∧ Hid (Below w.heap.size w wr)) (fun i _ => n - (intOf i).toNat)
    case atStart => exact ⟨0, by omega, rfl, Lib.hid rfl, Lib.hid (Below.refl _ _)⟩
    case round =>
      obtain ⟨k, hk, rfl, HT, HB⟩ := hrel
      by_cases hlt : k < n
      · have hkI : (k : Int) < (n : Int) := by omega
        have hk0 : (0 : Int) ≤ (k : Int) := by omega
        obtain ⟨m1, hm1⟩ : ∃ m, l1[k]? = some m := ⟨_, List.getElem?_eq_getElem (by rw [HN1.out]; exact hlt)⟩
        obtain ⟨m2, hm2⟩ : ∃ m, l2[k]? = some m := ⟨_, List.getElem?_eq_getElem (by rw [HN2.out]; exact hlt)⟩
        rcases H1.out.later HB.out with ⟨e, _⟩ | ⟨g1, c1', e1, hg1, hx1⟩
        · exfalso; injection e with _ e _; omega
        rcases H2.out.later HB.out with ⟨e, _⟩ | ⟨g2, c2', e2, hg2, hx2⟩
        · exfalso; injection e with _ e _; omega
        injection e1 with e1 hq1 e1'
        injection e2 with e2 hq2 e2'
        clear hq1 hq2
        subst e1 e1' e2 e2'
        obtain ⟨ev1, k1, s1⟩ := hx1 k m1 hm1
        obtain ⟨ev2, k2, s2⟩ := hx2 k m2 hm2
        obtain ⟨x0, x1, x2, x3, x4, x5, x6, x7, x8, x9⟩ := k1
        obtain ⟨y0, y1, y2, y3, y4, y5, y6, y7, y8, y9⟩ := k2
        have S1 := Lib.hid s1
        have S2 := Lib.hid s2
        obtain ⟨p1, q1, rfl, _, _⟩ := id s1
        obtain ⟨p2, q2, rfl, _, _⟩ := id s2
        have HM1 := Lib.hid hm1
        have HM2 := Lib.hid hm2
        have HSTEP : Hid (m1 = m2 → l1.take (k + 1) = l2.take (k + 1)) := Lib.hid (fun e => by rw [List.take_add_one, List.take_add_one, HT.out, HM1.out, HM2.out, e])
        have HNE : Hid (m1 ≠ m2 → l1 ≠ l2) := Lib.hid (fun e e' => e (by have := HM1.out; rw [e', HM2.out] at this; exact (Option.some.inj this).symm))
        have HEE := Lib.hid (HE.out m1 (List.mem_of_getElem? hm1))
        clear hx1 hx2 s1 s2 hm1 hm2 hg1 hg2
        clear HE
        obtain ⟨W2, hW2⟩ : ∃ W2, W2 = (wr.alloc (.cells #[.int .i64 m1.kind, .int .i64 m1.src, .int .i64 m1.dst, .int .u64 (m1.term : Int), .int .u64 (m1.index : Int), .int .u64 (m1.lterm : Int), .int .u64 (m1.commit : Int), .bool m1.ok, (.slice p1 m1.ents.length q1), .string m1.state] 32)).alloc (.cells #[.int .i64 m2.kind, .int .i64 m2.src, .int .i64 m2.dst, .int .u64 (m2.term : Int), .int .u64 (m2.index : Int), .int .u64 (m2.lterm : Int), .int .u64 (m2.commit : Int), .bool m2.ok, (.slice p2 m2.ents.length q2), .string m2.state] 32) := ⟨_, rfl⟩
        have hb2 : Below wr.heap.size wr W2 := by rw [hW2]; exact ((Below.refl _ _).alloc (Nat.le_refl _) _).alloc (by simp) _
        have HB2 := Lib.hid (HB.out.trans (hb2.mono HB.out.size))
        have HB2' := Lib.hid hb2
        have hba : Below wr.heap.size wr (wr.alloc (.cells #[.int .i64 m1.kind, .int .i64 m1.src, .int .i64 m1.dst, .int .u64 (m1.term : Int), .int .u64 (m1.index : Int), .int .u64 (m1.lterm : Int), .int .u64 (m1.commit : Int), .bool m1.ok, (.slice p1 m1.ents.length q1), .string m1.state] 32)) := (Below.refl _ _).alloc (Nat.le_refl _) _
        have z0 := cellB hba y0
        have z1 := cellB hba y1
        have z2 := cellB hba y2
        have z3 := cellB hba y3
        have z4 := cellB hba y4
        have z5 := cellB hba y5
        have z6 := cellB hba y6
        have z7 := cellB hba y7
        have z8 := cellB hba y8
        have z9 := cellB hba y9
        clear hba
        obtain ⟨kind1, src1, dst1, term1, index1, lterm1, commit1, ok1, ents1, state1⟩ := m1
        obtain ⟨kind2, src2, dst2, term2, index2, lterm2, commit2, ok2, ents2, state2⟩ := m2
        simp only at x0 x1 x2 x3 x4 x5 x6 x7 x8 x9 y0 y1 y2 y3 y4 y5 y6 y7 y8 y9 z0 z1 z2 z3 z4 z5 z6 z7 z8 z9 hW2
        clear hb2
        obtain ⟨b_kind, t_kind⟩ : ∃ b, (kind1 != kind2) = b := ⟨_, rfl⟩
        obtain ⟨b_src, t_src⟩ : ∃ b, (src1 != src2) = b := ⟨_, rfl⟩
        obtain ⟨b_dst, t_dst⟩ : ∃ b, (dst1 != dst2) = b := ⟨_, rfl⟩
        obtain ⟨b_term, t_term⟩ : ∃ b, ((term1 : Int) != (term2 : Int)) = b := ⟨_, rfl⟩
        obtain ⟨b_index, t_index⟩ : ∃ b, ((index1 : Int) != (index2 : Int)) = b := ⟨_, rfl⟩
        obtain ⟨b_lterm, t_lterm⟩ : ∃ b, ((lterm1 : Int) != (lterm2 : Int)) = b := ⟨_, rfl⟩
        obtain ⟨b_commit, t_commit⟩ : ∃ b, ((commit1 : Int) != (commit2 : Int)) = b := ⟨_, rfl⟩
        obtain ⟨b_ok, t_ok⟩ : ∃ b, (ok1 != ok2) = b := ⟨_, rfl⟩
        obtain ⟨b_state, t_state⟩ : ∃ b, decide (state1 = state2) = b := ⟨_, rfl⟩
        obtain ⟨b_ents, t_ents⟩ : ∃ b, ((ents1.length : Int) != (ents2.length : Int)) = b := ⟨_, rfl⟩
        have HDIF : Hid (b_kind = true ∨ b_src = true ∨ b_dst = true ∨ b_term = true ∨ b_index = true ∨ b_lterm = true ∨ b_commit = true ∨ ¬ ok1 = ok2 ∨ ¬ state1.toList = state2.toList ∨ b_ents = true → l1 ≠ l2) := Lib.hid (fun h => HNE.out (fun e => by injection e; subst_vars; simp at h))
        have HALL : Hid (¬ b_kind = true → ¬ b_src = true → ¬ b_dst = true → ¬ b_term = true → ¬ b_index = true → ¬ b_lterm = true → ¬ b_commit = true → ok1 = ok2 → state1.toList = state2.toList → b_ents = false → (ents1.length = ents2.length ∧ (ents1 = ents2 → (⟨kind1, src1, dst1, term1, index1, lterm1, commit1, ok1, ents1, state1⟩ : Mg) = (⟨kind2, src2, dst2, term2, index2, lterm2, commit2, ok2, ents2, state2⟩ : Mg)))) := Lib.hid (by
          rw [← t_kind, ← t_src, ← t_dst, ← t_term, ← t_index, ← t_lterm, ← t_commit, ← t_ents]
          simp only [bne_iff_ne, ne_eq, Classical.not_not, bne_eq_false_iff_eq]
          intro a1 a2 a3 a4 a5 a6 a7 a8 a9 a10
          have a9' := toList_inj a9
          refine ⟨by omega, fun a11 => ?_⟩
          rw [a1, a2, a3, a8, a9', a11, show term1 = term2 by omega, show index1 = index2 by omega, show lterm1 = lterm2 by omega, show commit1 = commit2 by omega])
        have HW2 := Lib.hid hW2
        clear hW2 HM1 HM2 HT
        go_wp2_with fail
        all_goals try (go_ret; exact SameRes.no (HDIF.out (by first | exact .inl ‹_› | exact .inr (.inl ‹_›) | exact .inr (.inr (.inl ‹_›)) | exact .inr (.inr (.inr (.inl ‹_›))) | exact .inr (.inr (.inr (.inr (.inl ‹_›)))) | exact .inr (.inr (.inr (.inr (.inr (.inl ‹_›))))) | exact .inr (.inr (.inr (.inr (.inr (.inr (.inl ‹_›)))))) | exact .inr (.inr (.inr (.inr (.inr (.inr (.inr (.inl ‹_›))))))) | exact .inr (.inr (.inr (.inr (.inr (.inr (.inr (.inr (.inl ‹_›)))))))) | exact .inr (.inr (.inr (.inr (.inr (.inr (.inr (.inr (.inr (‹_›))))))))))) ((HB.out.alloc HB.out.size _).alloc (by have := HB.out.size; simp; omega) _))
        obtain ⟨hel, heq⟩ := HALL.out ‹_› ‹_› ‹_› ‹_› ‹_› ‹_› ‹_› ‹_› ‹_› ‹_›
        have hW2 := HW2.out
        rw [(‹ok1 = ok2› : ok1 = ok2)] at hW2
        simp only [← hW2]
        have HEQ := Lib.hid heq
        obtain ⟨wo, hwo⟩ : ∃ x, x = wr := ⟨_, rfl⟩
        obtain ⟨N, hN⟩ : ∃ N, ents1.length = N := ⟨_, rfl⟩
        have hN2 : ents2.length = N := by omega
        have hz1 : W2.heap[wr.heap.size]? = some (.cells #[.int .i64 kind1, .int .i64 src1, .int .i64 dst1, .int .u64 (term1 : Int), .int .u64 (index1 : Int), .int .u64 (lterm1 : Int), .int .u64 (commit1 : Int), .bool ok2, .slice p1 N q1, .string state1] 32 (0, 0)) := by rw [hW2, heap_alloc_old _ _ (by simp), heap_alloc_new, hN]
        have hz2 : W2.heap[wr.heap.size + 1]? = some (.cells #[.int .i64 kind2, .int .i64 src2, .int .i64 dst2, .int .u64 (term2 : Int), .int .u64 (index2 : Int), .int .u64 (lterm2 : Int), .int .u64 (commit2 : Int), .bool ok2, .slice p2 N q2, .string state2] 32 (0, 0)) := by rw [hW2, heap_alloc2, hN2]
        simp only [hN, hN2] at S1 S2 ⊢
        have hNI : (N : Int) ≤ 1000000 := by have := HEE.out; have e : ents1.length ≤ 1000000 := this; omega
        have HNL1 := Lib.hid hN
        have HNL2 := Lib.hid hN2
        obtain ⟨_, _, _, _, _, _, _, _, a8, _⟩ := cells10 hz1
        obtain ⟨_, _, _, _, _, _, _, _, b8, _⟩ := cells10 hz2
        clear hel heq hW2 hN hN2 hz1 hz2 HW2 HDIF HALL HEE
        clear t_kind t_src t_dst t_term t_index t_lterm t_commit t_ok t_state t_ents x0 x1 x2 x3 x4 x5 x6 x7 x8 x9 y0 y1 y2 y3 y4 y5 y6 y7 y8 y9 z0 z1 z2 z3 z4 z5 z6 z7 z8 z9
        have HA8 := Lib.hid a8
        have HB8 := Lib.hid b8
        subst hwo
        go_loopw [8] (fun i w3 => ∃ i' : Nat, i' ≤ N ∧ i = .int .i64 (i' : Int) ∧ Hid (ents1.take i' = ents2.take i') ∧ Hid (Same W2 w3)) (fun i _ => N - (intOf i).toNat)
        case atStart => exact ⟨0, by omega, rfl, Lib.hid rfl, Lib.hid (Same.refl _)⟩
        case round =>
          obtain ⟨i', hi', rfl, HT2, HSM⟩ := hrel
          obtain ⟨d, rfl⟩ := HSM.out
          have a8d : ∀ q, (W2.drewN q).cell? ⟨wo.heap.size, 8, none⟩ = some (.slice p1 N q1) := fun _ => HA8.out
          have b8d : ∀ q, (W2.drewN q).cell? ⟨wo.heap.size + 1, 8, none⟩ = some (.slice p2 N q2) := fun _ => HB8.out
          clear a8 b8
          by_cases hlt2 : i' < N
          · have hi2 : (i' : Int) < (N : Int) := by omega
            have hi0 : (0 : Int) ≤ (i' : Int) := by omega
            obtain ⟨⟨t1, s1⟩, hx⟩ : ∃ x, ents1[i']? = some x := ⟨_, List.getElem?_eq_getElem (by rw [HNL1.out]; exact hlt2)⟩
            obtain ⟨⟨t2, s2⟩, hy⟩ : ∃ x, ents2[i']? = some x := ⟨_, List.getElem?_eq_getElem (by rw [HNL2.out]; exact hlt2)⟩
            obtain ⟨ax, cx, e1, _, f1⟩ := S1.out.later HB2'.out
            obtain ⟨ay, cy, e2, _, f2⟩ := S2.out.later HB2'.out
            injection e1 with e1 hq1 e1'
            injection e2 with e2 hq2 e2'
            clear hq1 hq2
            obtain ⟨gx, ox, rfl, _, fx⟩ := f1 (fun e => by rw [e] at hx; cases hx)
            obtain ⟨gy, oy, rfl, _, fy⟩ := f2 (fun e => by rw [e] at hy; cases hy)
            obtain ⟨u1, u2⟩ := fx i' _ hx
            obtain ⟨v1, v2⟩ := fy i' _ hy
            have u1d : ∀ q, (W2.drewN q).cell? ⟨gx, ox + i' * 2, none⟩ = some (.int .u64 (t1 : Int)) := fun _ => u1
            have u2d : ∀ q, (W2.drewN q).cell? ⟨gx, ox + i' * 2 + 1, none⟩ = some (.string s1) := fun _ => u2
            have v1d : ∀ q, (W2.drewN q).cell? ⟨gy, oy + i' * 2, none⟩ = some (.int .u64 (t2 : Int)) := fun _ => v1
            have v2d : ∀ q, (W2.drewN q).cell? ⟨gy, oy + i' * 2 + 1, none⟩ = some (.string s2) := fun _ => v2
            subst e1 e2
            have HX := Lib.hid hx
            have HY := Lib.hid hy
            clear u1 u2 v1 v2 fx fy f1 f2 hx hy e1' e2'
            by_cases hxy : (t1, s1) = (t2, s2)
            · injection hxy with g1 g2
              subst g1 g2
              have HT3 : Hid (ents1.take (i' + 1) = ents2.take (i' + 1)) := Lib.hid (by rw [List.take_add_one, List.take_add_one, HT2.out, HX.out, HY.out])
              clear HX HY HT2
              go_wp2_with fail
              go_region
              go_wp2_with fail
              go_roundw
              case rel => exact ⟨i' + 1, by omega, by go_num, HT3, Lib.hid ((Same.of W2 d).trans (by first | exact Same.of _ _ | exact ⟨_, (World.drewN_drewN ..).symm⟩))⟩
              case measure => simp [intOf]; omega
            · have HD2 : Hid (l1 ≠ l2) := Lib.hid (HNE.out (fun e => by injection e with _ _ _ _ _ _ _ _ e9 _; have := HX.out; rw [e9, HY.out] at this; exact hxy (Option.some.inj this).symm))
              clear HX HY HT2
              by_cases ht : t1 = t2
              · subst ht
                have hs : ¬ s1.toList = s2.toList := fun e => hxy (by rw [toList_inj e])
                clear hxy
                go_wp2_with fail
                go_region
                go_wp2_with fail
                go_ret
                exact .no HD2.out (HB2.out.trans ((Same.of W2 _).below _))
              · have hti : ¬ (t1 : Int) = (t2 : Int) := by omega
                clear hxy ht
                go_wp2_with fail
                go_region
                go_wp2_with fail
                go_ret
                exact .no HD2.out (HB2.out.trans ((Same.of W2 _).below _))
          · have hie : i' = N := by omega
            subst hie
            have hi2 : ¬ (i' : Int) < (i' : Int) := by omega
            have HEE2 : Hid (ents1 = ents2) := Lib.hid (by have h1 : ents1.take i' = ents1 := List.take_of_length_le (by rw [HNL1.out]; exact Nat.le_refl _); have h2 : ents2.take i' = ents2 := List.take_of_length_le (by rw [HNL2.out]; exact Nat.le_refl _); rw [← h1, ← h2]; exact HT2.out)
            have HST := Lib.hid (HSTEP.out (HEQ.out HEE2.out))
            have HBE : Hid (Below w.heap.size w (W2.drewN d)) := Lib.hid (HB2.out.trans ((Same.of W2 d).below _))
            clear HEE2 HEQ HSTEP HNE S1 S2 HT2
            go_wp2_with fail
            go_roundw
            case rel => exact ⟨k + 1, by omega, by go_num, HST, HBE⟩
            case measure => simp [intOf]; omega
      · have hke : k = n := by omega
        subst hke
        have hkI : ¬ (k : Int) < (k : Int) := by omega
        have HEND : Hid (l1 = l2) := Lib.hid (by have := HT.out; rwa [List.take_of_length_le (by rw [HN1.out]; omega), List.take_of_length_le (by rw [HN2.out]; omega)] at this)
        go_wp2_with fail
        go_ret
        exact .yes HEND.out HB.out
  · have hD : l1 ≠ l2 := fun e => hlen (by rw [e])
    obtain ⟨a1, c1, rfl⟩ := h1.shape
    obtain ⟨a2, c2, rfl⟩ := h2.shape
    have hbI : ((l1.length : Int) != (l2.length : Int)) = true := by simp; omega
    clear h1 h2 hE1 hl1 hlen
    go_enter Try.func26, Try.ntmps26
    go_wp2_with fail
    go_ret
    exact .no hD (Below.refl _ _)
end Go.Proofs.Ytgdlnjhbencjkaa
