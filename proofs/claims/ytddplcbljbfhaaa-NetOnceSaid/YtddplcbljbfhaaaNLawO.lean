/- net: NetOnce: the walk. -/
import Derived.Test.YtddplcbljbfhaaaNOnc
import Derived.Test.YtddplcbljbfhaaaArgs
namespace Go.Proofs.Ytddplcbljbfhaaa
open Go.RowKit Go.Maps
/-- The slice's elements are pairs of bytes. -/
def U2f (w : World) (la : Option Addr) (ln : Nat) (A B : Nat → Nat) : Prop := ∀ i, i < ln → ∃ (g o : Nat), la = some ⟨g, o, none⟩ ∧ g < w.heap.size ∧ A i ≤ 255 ∧ B i ≤ 255 ∧ w.cell? ⟨g, o + i * 2, none⟩ = some (.int .u8 (A i : Int)) ∧ w.cell? ⟨g, o + i * 2 + 1, none⟩ = some (.int .u8 (B i : Int))
theorem mgO_cells (t : Nat) : (mgL (mgO t) (.slice none 0 0)).toArray = #[.int .i64 0, .int .i64 0, .int .i64 0, .int .u64 (t : Int), .int .u64 0, .int .u64 0, .int .u64 0, .bool false, .slice none 0 0, .string ⟨#[]⟩] := rfl
set_option maxHeartbeats 8000000 in
set_option maxRecDepth 100000 in
theorem once_law (cN : Nat) (hcN : cN ≤ 255) (A B : Nat → Nat) (la : Option Addr) (ln lc : Nat) (w : World) (hI : U2f w la ln A B) (hln : ln ≤ maxLen) :
    Calls Try.prog 6 #[.int .u8 (cN : Int), .slice la ln lc] w fun e w' => e = .returned (.bool true) ∧ Below w.heap.size w w' := by
  have K0 := Lib.hid (awake_prog w)
  by_cases hbig : 20 < cN ∨ 30 < ln
  · have HBig := Lib.hid hbig
    have hcI : (0 : Int) ≤ (cN : Int) := by omega
    have hcJ : (cN : Int) ≤ 255 := by omega
    obtain ⟨t1, ht1⟩ : ∃ t, decide ((20 : Int) < (cN : Int)) = t := ⟨_, rfl⟩
    clear hI hbig
    cases t1 with
    | true =>
      have h1 : (20 : Int) < (cN : Int) := of_decide_eq_true ht1
      clear HBig
      go_enter Try.func6, Try.ntmps6
      go_wp2_with fail
      refine K0.out.mono ?_
      rintro e w1 ⟨rfl, hb1⟩
      have HB := Lib.hid hb1
      clear hb1 K0
      go_wp2_with fail
      go_ret
      exact ⟨rfl, HB.out⟩
    | false =>
      have h1 : ¬ (20 : Int) < (cN : Int) := of_decide_eq_false ht1
      have h2 : (30 : Int) < (ln : Int) := by have := HBig.out; omega
      clear HBig
      go_enter Try.func6, Try.ntmps6
      go_wp2_with fail
      refine K0.out.mono ?_
      rintro e w1 ⟨rfl, hb1⟩
      have HB := Lib.hid hb1
      clear hb1 K0
      go_wp2_with fail
      go_ret
      exact ⟨rfl, HB.out⟩
  · have hc20 : cN ≤ 20 := by omega
    have hl30 : ln ≤ 30 := by omega
    have HI := Lib.hid hI
    have c1 : ¬ (20 : Int) < (cN : Int) := by omega
    have c2 : ¬ (30 : Int) < (ln : Int) := by omega
    have hmm := @run_makeMap Try.prog
    clear hI hbig
    go_enter Try.func6, Try.ntmps6
    go_wp2_with fail
    refine K0.out.mono ?_
    rintro e w1 ⟨rfl, hb1⟩
    clear K0
    have KN := Lib.hid (new_prog w1)
    go_wp2_with fail
    refine KN.out.mono ?_
    rintro e w2 ⟨rfl, hn2, hb2⟩
    obtain ⟨nb, hnb⟩ : ∃ nb, w1.heap.size = nb := ⟨_, rfl⟩
    rw [hnb] at hn2 ⊢
    have hB2 := hb1.trans (hb2.mono hb1.size)
    have HQ2 : Hid (NQ w (w2.alloc (.map #[] 0)) nb w2.heap.size (.slice none 0 0) 0 0 [] (tcnt [])) := Lib.hid ⟨hn2.later ((Below.refl _ _).alloc (Nat.le_refl _) _), IMap.made w2, hB2.trans ((Below.refl _ _).alloc hB2.size _), by rw [← hnb]; exact hb1.size, hB2.size, fun j hj => by simp [Value.ownBlock] at hj⟩
    clear KN hn2 hb1 hb2 hnb hB2
    obtain ⟨mb, hmb⟩ : ∃ mb, w2.heap.size = mb := ⟨_, rfl⟩
    rw [hmb] at HQ2
    go_wp2_with fail
    try rw [hmb]
    clear hmb
    go_loopw [29] (fun i wr => ∃ (k : Nat) (v' : Value) (l : List (Nat × Mg)), k ≤ cN ∧ i = .int .u8 (k : Int) ∧ Hid (NQ w wr nb mb v' k k l (tcnt l)) ∧ Hid (Plain l ∧ l.length = k ∧ ∀ j, k ≤ j → tcnt l j = 0)) (fun i _ => cN - (intOf i).toNat)
    case atStart => exact ⟨0, _, [], by omega, rfl, HQ2, Lib.hid ⟨(fun x hx => by cases hx), rfl, fun _ _ => rfl⟩⟩
    case round =>
      obtain ⟨k, v', l, hk, rfl, HQ, HL⟩ := hrel
      by_cases hlt : k < cN
      · have hkI : (k : Int) < (cN : Int) := by omega
        have hk0 : (0 : Int) ≤ (k : Int) := by omega
        have hcv : IntKind.u64.wrap (k : Int) = (k : Int) := u64_w _ hk0 (by omega)
        obtain ⟨W1, hW1⟩ : ∃ W1, W1 = wr.alloc (.cells #[.int .i64 0, .int .i64 0, .int .i64 0, .int .u64 (k : Int), .int .u64 0, .int .u64 0, .int .u64 0, .bool false, .slice none 0 0, .string ⟨#[]⟩] 32) := ⟨_, rfl⟩
        have hz1 : W1.heap[wr.heap.size]? = some (.cells (mgL (mgO k) (.slice none 0 0)).toArray 32 (0, 0)) := by rw [hW1]; exact heap_alloc_new _ _
        have hq1 : NQ w W1 nb mb v' k k l (tcnt l) := by rw [hW1]; exact HQ.out.alloc _
        have hn1 := hq1.nw
        have KP := Lib.hid (put_prog [mgO k] wr.heap.size 1 hn1 (fun w' v'' hc i m hm => by
          have hz := (hc.msgs hn1 _ _ _ hz1 (by decide) (by decide)).trans hz1
          cases i with
          | zero =>
            obtain rfl : mgO k = m := by simpa using hm
            exact ⟨_, by simpa using MCl.ofBlock hz, ESl.nil _⟩
          | succ i => simp at hm) (by show k + 1 < _; omega) (by rw [HL.out.2.1]; show k + 1 < _; omega) (fun m hm => by
            obtain rfl : m = mgO k := by simpa using hm
            exact Nat.zero_le _))
        have HQ1 := Lib.hid hq1
        clear hz1 hq1 hn1
        go_wp2_with fail
        simp only [← hW1]
        clear hW1
        refine KP.out.mono ?_
        rintro e w3 ⟨rfl, v3, hn3, hc3⟩
        obtain ⟨w4, hr4, hq4⟩ := (HQ1.out.net hn3 hc3).put k (by omega) (by omega) 1 1 rfl (by omega)
        have HQ4 : Hid (NQ w w4 nb mb v3 (k + 1) (k + 1) (l ++ [(k + 1, mgO k)]) (tcnt (l ++ [(k + 1, mgO k)]))) := Lib.hid (NQ.congr hq4 fun j => by
          rw [tcnt_snoc]
          have e1 : (mgO k).term = k := rfl
          rw [e1, HL.out.2.2 k (Nat.le_refl _)])
        have HL4 : Hid (Plain (l ++ [(k + 1, mgO k)]) ∧ (l ++ [(k + 1, mgO k)]).length = k + 1 ∧ ∀ j, k + 1 ≤ j → tcnt (l ++ [(k + 1, mgO k)]) j = 0) := Lib.hid ⟨HL.out.1.snoc (Nat.zero_le _) (by show k ≤ 255; omega), (by simp [HL.out.2.1]), fun j hj => by
          rw [tcnt_snoc, if_neg (by show ¬ j = k; omega)]
          exact HL.out.2.2 j (by omega)⟩
        clear KP hn3 hc3 hq4 HQ1 HQ HL
        go_wp2_with fail
        go_roundw
        case rel => exact ⟨k + 1, v3, _, by omega, by go_num, HQ4, HL4⟩
        case measure => simp [intOf]; omega
      · have hke : k = cN := by omega
        subst hke
        have hkI : ¬ (k : Int) < (k : Int) := by omega
        have HQ2' : Hid (NQ w wr nb mb v' k k l (tcnt l) ∧ Plain l ∧ k ≤ 20 ∧ l.length ≤ 20) := Lib.hid ⟨HQ.out, HL.out.1, hc20, by have := HL.out.2.1; omega⟩
        clear HQ HL HQ2
        go_wp2_with fail
        go_loopw [44] (fun i w2 => ∃ (j : Nat) (v : Value) (all n : Nat) (l : List (Nat × Mg)), j ≤ ln ∧ i = .int .i64 (j : Int) ∧ Hid (NQ w w2 nb mb v all n l (tcnt l)) ∧ Hid (Plain l ∧ all ≤ 20 + j ∧ n ≤ 20 + j ∧ l.length ≤ 20 + j)) (fun i _ => ln - (intOf i).toNat)
        case atStart => exact ⟨0, _, _, _, _, by omega, rfl, Lib.hid HQ2'.out.1, Lib.hid ⟨HQ2'.out.2.1, HQ2'.out.2.2.1, HQ2'.out.2.2.1, HQ2'.out.2.2.2⟩⟩
        case round =>
          clear HQ2'
          obtain ⟨j, v, all, n, l, hj, rfl, HQ, HL⟩ := hrel
          by_cases hlj : j < ln
          · have hjI : (j : Int) < (ln : Int) := by omega
            have hj0 : (0 : Int) ≤ (j : Int) := by omega
            obtain ⟨g, o, rfl, hg, hA, hB, ha, hb⟩ := HI.out j hlj
            obtain ⟨a, ha'⟩ : ∃ a, A j = a := ⟨_, rfl⟩
            obtain ⟨b, hb'⟩ : ∃ b, B j = b := ⟨_, rfl⟩
            rw [ha'] at hA ha
            rw [hb'] at hB hb
            have a0 := cellB HQ.out.below ha
            have b0 := cellB HQ.out.below hb
            have hbI : (0 : Int) ≤ (b : Int) := by omega
            have hbJ : (b : Int) ≤ 255 := by omega
            have haI : (0 : Int) ≤ (a : Int) := by omega
            have haJ : (a : Int) ≤ 255 := by omega
            have hcv : IntKind.i64.wrap (b : Int) = (b : Int) := (i64_w _ hbI (by omega)).1
            obtain ⟨W1, hW1⟩ : ∃ W1, W1 = wr.alloc (.cells #[.int .u8 (a : Int), .int .u8 (b : Int)] 57) := ⟨_, rfl⟩
            have hz1 : W1.heap[wr.heap.size]? = some (.cells #[.int .u8 (a : Int), .int .u8 (b : Int)] 57 (0, 0)) := by rw [hW1]; exact heap_alloc_new _ _
            have HQ1 : Hid (NQ w W1 nb mb v all n l (tcnt l)) := Lib.hid (by rw [hW1]; exact HQ.out.alloc _)
            have HZ1 := Lib.hid hz1
            clear hz1 ha hb hg ha' hb' hA hB
            by_cases hin : b < l.length
            · obtain ⟨⟨kk, m⟩, hm⟩ : ∃ x, l[b]? = some x := ⟨_, List.getElem?_eq_getElem hin⟩
              obtain ⟨hme, hmt⟩ := HL.out.1.get hm
              have HM := Lib.hid hm
              have KA := Lib.hid (at_yes HQ1.out.nw b kk m hm hme)
              unfold mgL at KA
              have HME := Lib.hid hme
              have htI : (m.term : Int) ≤ 255 := by omega
              have ht0 : (0 : Int) ≤ (m.term : Int) := by omega
              clear hm hme hin
              go_wp2_with fail
              simp only [← hW1]
              refine KA.out.mono ?_
              rintro e w6 ⟨ev, rfl, ho6, hb6⟩
              obtain ⟨ra, rc, rfl, _⟩ := ho6.shape
              have hG : W1.heap.size = wr.heap.size + 1 := by rw [hW1]; simp
              clear hW1 KA
              obtain ⟨W7, hW7⟩ : ∃ W7, W7 = w6.alloc (.cells #[.int .i64 m.kind, .int .i64 m.src, .int .i64 m.dst, .int .u64 (m.term : Int), .int .u64 (m.index : Int), .int .u64 (m.lterm : Int), .int .u64 (m.commit : Int), .bool m.ok, .slice ra m.ents.length rc, .string m.state] 32) := ⟨_, rfl⟩
              have HQ7 : Hid (NQ w W7 nb mb v all n l (tcnt l)) := Lib.hid (by rw [hW7]; exact (HQ1.out.later hb6).alloc _)
              have HZ7 : Hid (W7.heap[w6.heap.size]? = some (.cells #[.int .i64 m.kind, .int .i64 m.src, .int .i64 m.dst, .int .u64 (m.term : Int), .int .u64 (m.index : Int), .int .u64 (m.lterm : Int), .int .u64 (m.commit : Int), .bool m.ok, .slice ra m.ents.length rc, .string m.state] 32 (0, 0))) := Lib.hid (by rw [hW7]; exact heap_alloc_new _ _)
              have hz9 : W7.heap[wr.heap.size]? = some (.cells #[.int .u8 (a : Int), .int .u8 (b : Int)] 57 (0, 0)) := by
                rw [hW7, heap_alloc_old _ _ (by have := hb6.size; omega), hb6.block _ (by omega)]; exact HZ1.out
              have d0 : W7.cell? ⟨wr.heap.size, 0, none⟩ = some (.int .u8 (a : Int)) := by unfold World.cell?; rw [hz9]; rfl
              have d1 : W7.cell? ⟨wr.heap.size, 1, none⟩ = some (.int .u8 (b : Int)) := by unfold World.cell?; rw [hz9]; rfl
              rw [hW7] at d0 d1
              clear ho6 hb6 hz9 hG HZ1 HQ1
              by_cases r0 : a % 3 = 0
              · have hL := HL.out.2
                have KT := Lib.hid (twice_yes HQ7.out.nw b kk m HM.out (by omega) (by omega))
                go_wp2_with fail
                simp only [← hW7]
                refine KT.out.mono ?_
                rintro e w8 ⟨rfl, v8, hn8, hc8⟩
                have hz8 := (hc8.msgs HQ7.out.nw _ _ _ HZ7.out (by decide) (by decide)).trans HZ7.out
                have d3 : w8.cell? ⟨w6.heap.size, 3, none⟩ = some (.int .u64 (m.term : Int)) := by unfold World.cell?; rw [hz8]; rfl
                have hq8 := HQ7.out.net hn8 hc8
                obtain ⟨T, hT⟩ : ∃ T, tcnt l m.term = T := ⟨_, rfl⟩
                have hT1 : T ≤ 100 := by have := tcnt_le l m.term; omega
                have hlk := hq8.im.look m.term hmt
                rw [hT] at hlk
                have hT2 : (0 : Int) ≤ (T : Int) := by omega
                have hT3 : (T : Int) ≤ 100 := by omega
                obtain ⟨w9, hr9, hq9⟩ := hq8.put m.term hmt (by omega) ((T : Int) + 1) (T + 1) (by omega) (by omega)
                have HQ9 : Hid (NQ w w9 nb mb v8 (all + 1) (n + 1) (l ++ [(all + 1, m)]) (tcnt (l ++ [(all + 1, m)]))) := Lib.hid (NQ.congr hq9 fun j => by
                  rw [tcnt_snoc, hT])
                have HL9 : Hid (Plain (l ++ [(all + 1, m)]) ∧ (all + 1) ≤ 20 + (j + 1) ∧ n + 1 ≤ 20 + (j + 1) ∧ (l ++ [(all + 1, m)]).length ≤ 20 + (j + 1)) := Lib.hid ⟨HL.out.1.snoc HME.out hmt, by omega, by omega, by rw [List.length_append]; show l.length + 1 ≤ _; omega⟩
                clear KT hn8 hc8 hz8 hq8 hq9 HQ7 HZ7 HQ HL HM hL hW7 d0 d1
                go_wp2_with fail
                go_roundw
                case rel => exact ⟨j + 1, v8, _, _, _, by omega, by go_num, HQ9, HL9⟩
                case measure => simp [intOf]; omega
              · by_cases r1 : a % 3 = 1
                · have hL := HL.out.2
                  have KT := Lib.hid (drop_yes HQ7.out.nw b (List.getElem?_eq_some_iff.1 HM.out).1 (by omega))
                  go_wp2_with fail
                  simp only [← hW7]
                  refine KT.out.mono ?_
                  rintro e w8 ⟨rfl, v8, hn8, hc8, _⟩
                  have hz8 := (hc8.msgs HQ7.out.nw _ _ _ HZ7.out (by decide) (by decide)).trans HZ7.out
                  have d3 : w8.cell? ⟨w6.heap.size, 3, none⟩ = some (.int .u64 (m.term : Int)) := by unfold World.cell?; rw [hz8]; rfl
                  have hq8 := HQ7.out.net hn8 hc8
                  obtain ⟨T, hT⟩ : ∃ T, tcnt l m.term = T := ⟨_, rfl⟩
                  have hT1 : T ≤ 100 := by have := tcnt_le l m.term; omega
                  have he := tcnt_erase l b kk m HM.out
                  have hT4 : 0 < T := by have := he m.term; rw [if_pos rfl] at this; omega
                  have hlk := hq8.im.look m.term hmt
                  rw [hT] at hlk
                  have hT2 : (0 : Int) ≤ (T : Int) := by omega
                  have hT3 : (T : Int) ≤ 100 := by omega
                  obtain ⟨w9, hr9, hq9⟩ := hq8.put m.term hmt (by omega) ((T : Int) - 1) (T - 1) (by omega) (by omega)
                  have HQ9 : Hid (NQ w w9 nb mb v8 all (n + 1) (l.eraseIdx b) (tcnt (l.eraseIdx b))) := Lib.hid (NQ.congr hq9 fun j => by
                    have h1 := he j
                    split
                    · rename_i hjm
                      subst hjm
                      rw [if_pos rfl] at h1
                      omega
                    · rename_i hjm
                      rw [if_neg (fun e => hjm e.symm)] at h1
                      omega)
                  have HL9 : Hid (Plain (l.eraseIdx b) ∧ all ≤ 20 + (j + 1) ∧ n + 1 ≤ 20 + (j + 1) ∧ (l.eraseIdx b).length ≤ 20 + (j + 1)) := Lib.hid ⟨HL.out.1.erase b, by omega, by omega, by have := List.length_eraseIdx_le l b; omega⟩
                  clear KT hn8 hc8 hz8 hq8 hq9 HQ7 HZ7 HQ HL HM hL hW7 d0 d1
                  go_wp2_with fail
                  go_roundw
                  case rel => exact ⟨j + 1, v8, _, _, _, by omega, by go_num, HQ9, HL9⟩
                  case measure => simp [intOf]; omega
                · have hL := HL.out.2
                  have KT := Lib.hid (take_yes HQ7.out.nw b kk m HM.out (by omega) HME.out)
                  go_wp2_with fail
                  simp only [← hW7]
                  refine KT.out.mono ?_
                  rintro e w8 ⟨ev8, rfl, _, v8, hn8, hc8⟩
                  have hz8 := (hc8.msgs HQ7.out.nw _ _ _ HZ7.out (by decide) (by decide)).trans HZ7.out
                  have d3 : w8.cell? ⟨w6.heap.size, 3, none⟩ = some (.int .u64 (m.term : Int)) := by unfold World.cell?; rw [hz8]; rfl
                  have hq8 := HQ7.out.net hn8 hc8
                  obtain ⟨T, hT⟩ : ∃ T, tcnt l m.term = T := ⟨_, rfl⟩
                  have hT1 : T ≤ 100 := by have := tcnt_le l m.term; omega
                  have he := tcnt_erase l b kk m HM.out
                  have hT4 : 0 < T := by have := he m.term; rw [if_pos rfl] at this; omega
                  have hlk := hq8.im.look m.term hmt
                  rw [hT] at hlk
                  have hT2 : (0 : Int) ≤ (T : Int) := by omega
                  have hT3 : (T : Int) ≤ 100 := by omega
                  obtain ⟨w9, hr9, hq9⟩ := hq8.put m.term hmt (by omega) ((T : Int) - 1) (T - 1) (by omega) (by omega)
                  have HQ9 : Hid (NQ w w9 nb mb v8 all (n + 1) (l.eraseIdx b) (tcnt (l.eraseIdx b))) := Lib.hid (NQ.congr hq9 fun j => by
                    have h1 := he j
                    split
                    · rename_i hjm
                      subst hjm
                      rw [if_pos rfl] at h1
                      omega
                    · rename_i hjm
                      rw [if_neg (fun e => hjm e.symm)] at h1
                      omega)
                  have HL9 : Hid (Plain (l.eraseIdx b) ∧ all ≤ 20 + (j + 1) ∧ n + 1 ≤ 20 + (j + 1) ∧ (l.eraseIdx b).length ≤ 20 + (j + 1)) := Lib.hid ⟨HL.out.1.erase b, by omega, by omega, by have := List.length_eraseIdx_le l b; omega⟩
                  clear KT hn8 hc8 hz8 hq8 hq9 HQ7 HZ7 HQ HL HM hL hW7 d0 d1
                  go_wp2_with fail
                  go_roundw
                  case rel => exact ⟨j + 1, v8, _, _, _, by omega, by go_num, HQ9, HL9⟩
                  case measure => simp [intOf]; omega
            · have KA := Lib.hid (at_no HQ1.out.nw (b : Int) (by omega))
              have eN : (mgL mgNil (.slice none 0 0)).toArray = #[.int .i64 0, .int .i64 0, .int .i64 0, .int .u64 0, .int .u64 0, .int .u64 0, .int .u64 0, .bool false, .slice none 0 0, .string ⟨#[]⟩] := rfl
              rw [eN] at KA
              clear eN hin
              go_wp2_with fail
              simp only [← hW1]
              refine KA.out.mono ?_
              rintro e w6 ⟨rfl, hb6⟩
              have HQ6 : Hid (NQ w (w6.alloc (.cells #[.int .i64 0, .int .i64 0, .int .i64 0, .int .u64 0, .int .u64 0, .int .u64 0, .int .u64 0, .bool false, .slice none 0 0, .string ⟨#[]⟩] 32)) nb mb v all n l (tcnt l)) := Lib.hid ((HQ1.out.later hb6).alloc _)
              have HL6 : Hid (Plain l ∧ all ≤ 20 + (j + 1) ∧ n ≤ 20 + (j + 1) ∧ l.length ≤ 20 + (j + 1)) := Lib.hid ⟨HL.out.1, by have := HL.out.2; omega, by have := HL.out.2; omega, by have := HL.out.2; omega⟩
              clear KA hb6 hW1 HQ1 HZ1 HQ HL
              go_wp2_with fail
              go_roundw
              case rel => exact ⟨j + 1, v, all, n, l, by omega, by go_num, HQ6, HL6⟩
              case measure => simp [intOf]; omega
          · have hje : j = ln := by omega
            subst hje
            have hjI : ¬ (j : Int) < (j : Int) := by omega
            have HQ3 : Hid (NQ w wr nb mb v all n l (tcnt l) ∧ Plain l ∧ n + l.length ≤ 100 ∧ n ≤ 50) := Lib.hid ⟨HQ.out, HL.out.1, by have := HL.out.2; omega, by have := HL.out.2; omega⟩
            clear HQ HL
            go_wp2_with fail
            go_loopw [13] (fun _ w3 => ∃ (v : Value) (n : Nat) (l : List (Nat × Mg)), Hid (NQ w w3 nb mb v all n l (tcnt l)) ∧ Hid (Plain l ∧ n + l.length ≤ 100)) (fun _ w3 => wayLen w3 nb)
            case atStart => exact ⟨_, _, _, Lib.hid HQ3.out.1, Lib.hid ⟨HQ3.out.2.1, HQ3.out.2.2.1⟩⟩
            case round =>
              clear HQ3
              obtain ⟨v, n, l, HQ, HL⟩ := hrel
              have KL := Lib.hid (len_prog HQ.out.nw)
              obtain ⟨wo, hwo⟩ : ∃ x, x = wr := ⟨_, rfl⟩
              by_cases h0 : 0 < l.length
              · have hLI : (0 : Int) < (l.length : Int) := by omega
                obtain ⟨⟨kk, m⟩, hm⟩ : ∃ x, l[0]? = some x := ⟨_, List.getElem?_eq_getElem h0⟩
                obtain ⟨hme, hmt⟩ := HL.out.1.get hm
                have hL := HL.out.2
                have KT := Lib.hid (take_yes HQ.out.nw 0 kk m hm (by omega) hme)
                unfold mgL at KT
                have HM := Lib.hid hm
                have htI : (m.term : Int) ≤ 255 := by omega
                have ht0 : (0 : Int) ≤ (m.term : Int) := by omega
                subst hwo
                clear hm hme
                go_wp2_with fail
                refine KL.out.mono ?_
                rintro e w4 ⟨rfl, rfl⟩
                clear KL
                go_wp2_with fail
                refine KT.out.mono ?_
                rintro e w8 ⟨ev, rfl, ho8, v8, hn8, hc8⟩
                obtain ⟨ra, rc, rfl, _⟩ := ho8.shape
                have hq8 := (HQ.out.net hn8 hc8).alloc (.cells #[.int .i64 m.kind, .int .i64 m.src, .int .i64 m.dst, .int .u64 (m.term : Int), .int .u64 (m.index : Int), .int .u64 (m.lterm : Int), .int .u64 (m.commit : Int), .bool m.ok, .slice ra m.ents.length rc, .string m.state] 32)
                obtain ⟨T, hT⟩ : ∃ T, tcnt l m.term = T := ⟨_, rfl⟩
                have hT1 : T ≤ 100 := by have := tcnt_le l m.term; omega
                have he := tcnt_erase l 0 kk m HM.out
                have hT4 : 0 < T := by have := he m.term; rw [if_pos rfl] at this; omega
                have hlk := hq8.im.look m.term hmt
                rw [hT] at hlk
                have hT2 : (0 : Int) ≤ (T : Int) := by omega
                have hT3 : (T : Int) ≤ 100 := by omega
                obtain ⟨w9, hr9, hq9⟩ := hq8.put m.term hmt (by omega) ((T : Int) - 1) (T - 1) (by omega) (by omega)
                have HQ9 : Hid (NQ w w9 nb mb v8 all (n + 1) (l.eraseIdx 0) (tcnt (l.eraseIdx 0))) := Lib.hid (NQ.congr hq9 fun j => by
                  have h1 := he j
                  split
                  · rename_i hjm
                    subst hjm
                    rw [if_pos rfl] at h1
                    omega
                  · rename_i hjm
                    rw [if_neg (fun e => hjm e.symm)] at h1
                    omega)
                have hel : (l.eraseIdx 0).length = l.length - 1 := by rw [List.length_eraseIdx]; simp [h0]
                have HL9 : Hid (Plain (l.eraseIdx 0) ∧ (n + 1) + (l.eraseIdx 0).length ≤ 100) := Lib.hid ⟨HL.out.1.erase 0, by omega⟩
                have HM9 : Hid (wayLen w9 nb < wayLen wo nb) := Lib.hid (by rw [HQ9.out.nw.wayLen, HQ.out.nw.wayLen]; omega)
                clear KT hn8 hc8 hq8 hq9 HQ HL HM hL ho8 he hel
                go_wp2_with fail
                go_roundw
                case rel => exact ⟨v8, _, _, HQ9, HL9⟩
                case measure => exact HM9.out
              · have hl0 : l = [] := List.eq_nil_of_length_eq_zero (by omega)
                subst hl0
                obtain ⟨D, hown, hz⟩ := HQ.out.im.zero tcnt_nil
                have HB := Lib.hid HQ.out.below
                have HZ := Lib.hid hz
                subst hwo
                clear hz HQ HL
                go_wp2_with fail
                refine KL.out.mono ?_
                rintro e w4 ⟨rfl, rfl⟩
                clear KL
                go_wp2_with (first
                  | (at_range; refine wpList_range_own _ rfl _ 56 rfl 27 3 u64_law Try.underlying56 _ mb n _ rfl hown ?_; intro w5 hrg5 hg5 hs5)
                  | fail)
                obtain ⟨r, hr⟩ : ∃ r, wo.heap.size = r := ⟨_, rfl⟩
                have HB5 : Hid (Below w.heap.size w w5) := Lib.hid (HB.out.grown hg5 HB.out.size (fun k e => by cases e))
                have HR : w.heap.size ≤ r := by rw [← hr]; exact HB.out.size
                rw [hr] at hrg5 ⊢
                clear hg5 hs5 HB hown
                go_frame
                go_loopw [114] (fun _ w6 => ∃ (left : Lit → Bool) (cnt : Nat), w6.ranges Try.prog 27 (plainElem Try.prog 3) mb r n D left cnt ∧ Hid (Below w.heap.size w w6)) (fun _ w6 => w6.rangeLeft mb r)
                case atStart => exact ⟨_, _, hrg5, HB5⟩
                case round =>
                  obtain ⟨left, cnt, hrg, HB6⟩ := hrel
                  go_wp2_with (first
                    | (at_next; refine wpList_next_ranges_ii _ rfl _ rfl 27 3 .u64 .i64 u64_law Try.underlying27 Try.underlying3 mb r n _ _ _ rfl hrg ?_ ?_)
                    | fail)
                  · intro _ _
                    go_wp2_with fail
                    go_ret
                    exact ⟨rfl, HB6.out⟩
                  · intro x c w7 cnt7 hwx _ _ hat hrg7 hlt7 hg7 _ hen
                    obtain rfl := HZ.out x c hwx hat
                    have HB7 : Hid (Below w.heap.size w w7) := Lib.hid (HB6.out.grown hg7 HB6.out.size (fun k e => by injection e with e; exact e ▸ HR))
                    go_wp2_with fail
                    go_roundw
                    case rel => exact ⟨_, cnt7, hrg7, HB7⟩
                    case measure => rw [hrg7.left_eq, hrg.left_eq]; exact hlt7
end Go.Proofs.Ytddplcbljbfhaaa
