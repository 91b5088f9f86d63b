/- net: NetRuns: the walk. -/
import Derived.Test.YtgdlnjhbencjkaaNRun
import Derived.Test.YtgdlnjhbencjkaaNActs
import Derived.Test.YtgdlnjhbencjkaaNAwk
namespace Go.Proofs.Ytgdlnjhbencjkaa
open Go.RowKit
theorem drop_any {w : World} {nb : Nat} {v : Value} {all : Nat} {q : List On} (h : NW w nb v all (valQ q)) (hl : q.length < 1000000) (N : Int) :
    Calls Try.prog 17 #[.pointer (some ⟨nb, 0, none⟩), .int .i64 N] w fun e w' => e = .returned (.bool (decide (0 ≤ N) && decide (N < (q.length : Int)))) ∧ ∃ v', NW w' nb v' all (valQ (dropI q N)) ∧ NCh nb v w w' v' := by
  by_cases hN : 0 ≤ N ∧ N < (q.length : Int)
  · obtain ⟨i, rfl⟩ : ∃ i : Nat, N = (i : Int) := ⟨N.toNat, by omega⟩
    have hi : i < q.length := by omega
    refine (drop_yes h i (by rw [valQ_len]; exact hi) (by rw [valQ_len]; exact hl)).mono ?_
    rintro e w' ⟨rfl, v', h1, h2, _⟩
    exact ⟨by simp [hi], v', by rw [valQ_drop q i hi]; exact h1, h2⟩
  · refine (drop_no h N (by rw [valQ_len]; exact hN)).mono ?_
    rintro e w' ⟨rfl, rfl⟩
    refine ⟨?_, v, by rw [dropI_out hN]; exact h, NCh.refl _ _ _⟩
    by_cases h1 : 0 ≤ N
    · have h2 : ¬ N < (q.length : Int) := fun h3 => hN ⟨h1, h3⟩
      simp [h2]
    · simp [h1]
set_option maxHeartbeats 8000000 in
set_option maxRecDepth 100000 in
theorem runs_law (A : List Ac) (v : Value) (w : World) (h : ASl w v A) :
    Calls Try.prog 3 #[v] w fun e w' => e = .returned (.bool true) ∧ Below w.heap.size w w' := by
  have K0 := Lib.hid (awake_prog w)
  obtain ⟨la, lc, rfl, hml, hwf, hcells⟩ := h
  have HWF := Lib.hid hwf
  have HC := Lib.hid hcells
  clear hwf hcells
  by_cases hbig : 60 < A.length
  · have hb : (60 : Int) < (A.length : Int) := by omega
    go_enter Try.func3, Try.ntmps3
    go_wp2_with fail
    refine K0.out.mono ?_
    rintro e w1 ⟨rfl, hb1⟩
    have HB := Lib.hid hb1
    clear hb1 K0
    go_wp2_with fail
    go_ret
    exact ⟨rfl, HB.out⟩
  · have hb : ¬ (60 : Int) < (A.length : Int) := by omega
    have hA60 : A.length ≤ 60 := by omega
    go_enter Try.func3, Try.ntmps3
    go_wp2_with fail
    refine K0.out.mono ?_
    rintro e w1 ⟨rfl, hb1⟩
    clear K0
    have KN := Lib.hid (new_prog w1)
    go_wp2_with fail
    refine KN.out.mono ?_
    rintro e w2 ⟨rfl, hn2, hb2⟩
    obtain ⟨nb, hnb⟩ : ∃ nb, w1.heap.size = nb := ⟨_, rfl⟩
    rw [hnb] at hn2 ⊢
    have hB2 := hb1.trans (hb2.mono hb1.size)
    obtain ⟨W3, hW3⟩ : ∃ W3, W3 = w2.alloc (.cells #[.slice none 0 0, .int .u64 0] 29) := ⟨_, rfl⟩
    have HQ3 : Hid (NR w W3 nb w2.heap.size (.slice none 0 0) (.slice none 0 0) 0 0 (valQ []) []) := Lib.hid (by
      rw [hW3]
      exact ⟨hn2.later ((Below.refl _ _).alloc (Nat.le_refl _) _), heap_alloc_new _ _, World.ownsRow_nil _ _ _ _, (fun x hx => by cases hx), hB2.trans ((Below.refl _ _).alloc hB2.size _), by rw [← hnb]; exact hb1.size, hB2.size, fun j hj => by simp [Value.ownBlock] at hj⟩)
    obtain ⟨rb, hrb⟩ : ∃ rb, w2.heap.size = rb := ⟨_, rfl⟩
    rw [hrb] at HQ3
    clear KN hn2 hb1 hb2 hnb hB2
    go_wp2_with fail
    simp only [← hW3]
    try rw [hrb]
    clear hrb hW3
    go_loopw [27] (fun i wr => ∃ (k : Nat) (v rv : Value) (all : Nat) (q : List On), k ≤ A.length ∧ i = .int .i64 (k : Int) ∧ Hid (NR w wr nb rb v rv all all (valQ q) q) ∧ Hid (all ≤ k ∧ q.length ≤ k ∧ ∀ x ∈ q, SmallP x.2.1)) (fun i _ => A.length - (intOf i).toNat)
    case atStart => exact ⟨0, _, _, _, _, by omega, rfl, HQ3, Lib.hid ⟨Nat.le_refl _, Nat.le_refl _, (fun x hx => by cases hx)⟩⟩
    case round =>
      clear HQ3
      obtain ⟨k, v, rv, all, q, hk, rfl, HQ, HL⟩ := hrel
      by_cases hlt : k < A.length
      · have hkI : (k : Int) < (A.length : Int) := by omega
        have hk0 : (0 : Int) ≤ (k : Int) := by omega
        obtain ⟨⟨what, N, m, ev⟩, hx⟩ : ∃ x, A[k]? = some x := ⟨_, List.getElem?_eq_getElem hlt⟩
        obtain ⟨g, o, rfl, hg, hcs⟩ := HC.out (fun e => by rw [e] at hlt; simp at hlt)
        obtain ⟨hES, hWM⟩ := HWF.out _ (List.mem_of_getElem? hx)
        have hES : ESl w ev m.ents := hES
        obtain ⟨ea, ec, rfl, _, _⟩ := id hES
        have d : ∀ j u, (acC (what, N, m, .slice ea m.ents.length ec))[j]? = some u → wr.cell? ⟨g, o + k * 12 + j, none⟩ = some u := fun j u hu => cellB HQ.out.below (hcs k _ hx j u hu)
        have d0 := d 0 _ rfl
        have d1 := d 1 _ rfl
        have d2 := d 2 _ rfl
        have d3 := d 3 _ rfl
        have d4 := d 4 _ rfl
        have d5 := d 5 _ rfl
        have d6 := d 6 _ rfl
        have d7 := d 7 _ rfl
        have d8 := d 8 _ rfl
        have d9 := d 9 _ rfl
        have d10 := d 10 _ rfl
        have d11 := d 11 _ rfl
        rw [Nat.add_zero] at d0
        obtain ⟨W4, hW4⟩ : ∃ W4, W4 = wr.alloc (.cells #[.int .i64 what, .int .i64 N, .int .i64 m.kind, .int .i64 m.src, .int .i64 m.dst, .int .u64 (m.term : Int), .int .u64 (m.index : Int), .int .u64 (m.lterm : Int), .int .u64 (m.commit : Int), .bool m.ok, .slice ea m.ents.length ec, .string m.state] 34) := ⟨_, rfl⟩
        have HQ4 : Hid (NR w W4 nb rb v rv all all (valQ q) q) := Lib.hid (by rw [hW4]; exact HQ.out.later ((Below.refl _ _).alloc (Nat.le_refl _) _))
        have HZ4 : Hid (W4.heap[wr.heap.size]? = some (.cells #[.int .i64 what, .int .i64 N, .int .i64 m.kind, .int .i64 m.src, .int .i64 m.dst, .int .u64 (m.term : Int), .int .u64 (m.index : Int), .int .u64 (m.lterm : Int), .int .u64 (m.commit : Int), .bool m.ok, .slice ea m.ents.length ec, .string m.state] 34 (0, 0))) := Lib.hid (by rw [hW4]; exact heap_alloc_new _ _)
        have KS := Lib.hid (small_prog m (.slice ea m.ents.length ec) W4 (hES.later HQ4.out.below))
        have HES := Lib.hid hES
        unfold mgL at KS
        clear d hg hcs hES hWM hx
        go_wp2_with fail
        simp only [← hW4]
        clear hW4 d0 d1 d2 d3 d4 d5 d6 d7 d8 d9 d10 d11
        refine KS.out.mono ?_
        rintro e w5 ⟨r, rfl, hr, hb5⟩
        have HQ5 := Lib.hid (HQ4.out.later hb5)
        have HZ5 := Lib.hid (block_kept HZ4.out (block_lt HZ4.out) hb5)
        have hz5 := HZ5.out
        clear KS hb5 HQ4 HZ4
        cases r with
        | false =>
          go_wp2_with fail
          go_ret
          exact ⟨rfl, HQ5.out.below⟩
        | true =>
          have HSM := Lib.hid (hr.1 rfl)
          clear hr
          obtain ⟨ra, rc, rfl⟩ := HQ5.out.row.shape
          have r0 : w5.cell? ⟨rb, 0, none⟩ = some (.slice ra q.length rc) := by unfold World.cell?; rw [HQ5.out.var]; rfl
          have r1 : w5.cell? ⟨rb, 1, none⟩ = some (.int .u64 (all : Int)) := by unfold World.cell?; rw [HQ5.out.var]; rfl
          have z1 : w5.cell? ⟨wr.heap.size, 1, none⟩ = some (.int .i64 N) := by unfold World.cell?; rw [hz5]; rfl
          have KH := Lib.hid (rhas_prog w5 0 (.slice ra q.length rc) q all (ownN_base HQ5.out.row (fun _ _ => Nat.zero_le _)) N)
          obtain ⟨has, hhas⟩ : ∃ b, (decide (0 ≤ N) && decide (N < (q.length : Int))) = b := ⟨_, rfl⟩
          rw [hhas] at KH
          have HHAS := Lib.hid hhas
          clear hz5 hhas
          go_wp2_with fail
          refine KH.out.mono ?_
          rintro e w6 ⟨rfl, hb6⟩
          have HQ6 := Lib.hid (HQ5.out.later hb6)
          have HZ6 := Lib.hid (block_kept HZ5.out (block_lt HZ5.out) hb6)
          have hz6 := HZ6.out
          have y0 : w6.cell? ⟨wr.heap.size, 0, none⟩ = some (.int .i64 what) := by unfold World.cell?; rw [hz6]; rfl
          have y1 : w6.cell? ⟨wr.heap.size, 1, none⟩ = some (.int .i64 N) := by unfold World.cell?; rw [hz6]; rfl
          have s0 : w6.cell? ⟨rb, 0, none⟩ = some (.slice ra q.length rc) := by unfold World.cell?; rw [HQ6.out.var]; rfl
          have s1 : w6.cell? ⟨rb, 1, none⟩ = some (.int .u64 (all : Int)) := by unfold World.cell?; rw [HQ6.out.var]; rfl
          clear KH hb6 HQ5 HZ5 r0 r1 z1 HQ
          by_cases e0 : what = 0
          · have y2 : w6.cell? ⟨wr.heap.size, 2, none⟩ = some (.int .i64 m.kind) := by unfold World.cell?; rw [hz6]; rfl
            have y3 : w6.cell? ⟨wr.heap.size, 3, none⟩ = some (.int .i64 m.src) := by unfold World.cell?; rw [hz6]; rfl
            have y4 : w6.cell? ⟨wr.heap.size, 4, none⟩ = some (.int .i64 m.dst) := by unfold World.cell?; rw [hz6]; rfl
            have y5 : w6.cell? ⟨wr.heap.size, 5, none⟩ = some (.int .u64 (m.term : Int)) := by unfold World.cell?; rw [hz6]; rfl
            have y6 : w6.cell? ⟨wr.heap.size, 6, none⟩ = some (.int .u64 (m.index : Int)) := by unfold World.cell?; rw [hz6]; rfl
            have y7 : w6.cell? ⟨wr.heap.size, 7, none⟩ = some (.int .u64 (m.lterm : Int)) := by unfold World.cell?; rw [hz6]; rfl
            have y8 : w6.cell? ⟨wr.heap.size, 8, none⟩ = some (.int .u64 (m.commit : Int)) := by unfold World.cell?; rw [hz6]; rfl
            have y9 : w6.cell? ⟨wr.heap.size, 9, none⟩ = some (.bool m.ok) := by unfold World.cell?; rw [hz6]; rfl
            have y10 : w6.cell? ⟨wr.heap.size, 10, none⟩ = some (.slice ea m.ents.length ec) := by unfold World.cell?; rw [hz6]; rfl
            have y11 : w6.cell? ⟨wr.heap.size, 11, none⟩ = some (.string m.state) := by unfold World.cell?; rw [hz6]; rfl
            obtain ⟨W7, hW7⟩ : ∃ W7, W7 = w6.alloc (.cells #[.int .i64 m.kind, .int .i64 m.src, .int .i64 m.dst, .int .u64 (m.term : Int), .int .u64 (m.index : Int), .int .u64 (m.lterm : Int), .int .u64 (m.commit : Int), .bool m.ok, .slice ea m.ents.length ec, .string m.state] 32) := ⟨_, rfl⟩
            have hz7 : W7.heap[w6.heap.size]? = some (.cells (mgL m (.slice ea m.ents.length ec)).toArray 32 (0, 0)) := by rw [hW7]; exact heap_alloc_new _ _
            have hq7 : NR w W7 nb rb v (.slice ra q.length rc) all all (valQ q) q := by rw [hW7]; exact HQ6.out.later ((Below.refl _ _).alloc (Nat.le_refl _) _)
            have ha7 := block_kept hz6 (block_lt hz6) (show Below w6.heap.size w6 W7 by rw [hW7]; exact (Below.refl _ _).alloc (Nat.le_refl _) _)
            have HQ7 := Lib.hid hq7
            have HA7 := Lib.hid ha7
            have hk60 : k < 60 := by omega
            have KP := Lib.hid (put_prog [m] w6.heap.size 1 hq7.nw (fun w' v'' hc i m' hm => by
              have hz := (hc.msgs hq7.nw _ _ _ hz7 (by decide) (by decide)).trans hz7
              cases i with
              | zero =>
                obtain rfl : m = m' := by simpa using hm
                exact ⟨_, by simpa using MCl.ofBlock hz, HES.out.later (hq7.below.trans (hc.below hq7.nbl hq7.vl hq7.below.size))⟩
              | succ i => simp at hm) (by have := HL.out.1; show all + 1 < _; omega) (by have := HL.out.2.1; rw [valQ_len]; show q.length + 1 < _; omega) (fun m' hm => by
                obtain rfl : m' = m := by simpa using hm
                have := HSM.out.1; omega))
            clear hz7 hq7 ha7 hz6
            go_wp2_with fail
            simp only [← hW7]
            clear hW7
            refine KP.out.mono ?_
            rintro e w8 ⟨rfl, v8, hn8, hc8⟩
            have HQ8 : Hid (NR w w8 nb rb v8 (.slice ra q.length rc) (all + 1) all (valQ q ++ [(all + 1, m)]) q) := Lib.hid (HQ7.out.net hn8 hc8)
            have hz8 := (hc8.msgs HQ7.out.nw _ _ _ HA7.out (by decide) (by decide)).trans HA7.out
            have x2 : w8.cell? ⟨wr.heap.size, 2, none⟩ = some (.int .i64 m.kind) := by unfold World.cell?; rw [hz8]; rfl
            have x3 : w8.cell? ⟨wr.heap.size, 3, none⟩ = some (.int .i64 m.src) := by unfold World.cell?; rw [hz8]; rfl
            have x4 : w8.cell? ⟨wr.heap.size, 4, none⟩ = some (.int .i64 m.dst) := by unfold World.cell?; rw [hz8]; rfl
            have x5 : w8.cell? ⟨wr.heap.size, 5, none⟩ = some (.int .u64 (m.term : Int)) := by unfold World.cell?; rw [hz8]; rfl
            have x6 : w8.cell? ⟨wr.heap.size, 6, none⟩ = some (.int .u64 (m.index : Int)) := by unfold World.cell?; rw [hz8]; rfl
            have x7 : w8.cell? ⟨wr.heap.size, 7, none⟩ = some (.int .u64 (m.lterm : Int)) := by unfold World.cell?; rw [hz8]; rfl
            have x8 : w8.cell? ⟨wr.heap.size, 8, none⟩ = some (.int .u64 (m.commit : Int)) := by unfold World.cell?; rw [hz8]; rfl
            have x9 : w8.cell? ⟨wr.heap.size, 9, none⟩ = some (.bool m.ok) := by unfold World.cell?; rw [hz8]; rfl
            have x10 : w8.cell? ⟨wr.heap.size, 10, none⟩ = some (.slice ea m.ents.length ec) := by unfold World.cell?; rw [hz8]; rfl
            have x11 : w8.cell? ⟨wr.heap.size, 11, none⟩ = some (.string m.state) := by unfold World.cell?; rw [hz8]; rfl
            have t0 : w8.cell? ⟨rb, 0, none⟩ = some (.slice ra q.length rc) := by unfold World.cell?; rw [HQ8.out.var]; rfl
            have t1 : w8.cell? ⟨rb, 1, none⟩ = some (.int .u64 (all : Int)) := by unfold World.cell?; rw [HQ8.out.var]; rfl
            have KR := Lib.hid (rput_prog w8 (.slice ra q.length rc) q all m (.slice ea m.ents.length ec) (ownN_base HQ8.out.row (fun _ _ => Nat.zero_le _)) HQ8.out.ents' (HES.out.later HQ8.out.below) (by have := HL.out.2.1; omega) (by have := HL.out.1; omega))
            unfold mgL at KR
            clear KP hn8 hc8 hz8 HQ7 HA7 HQ6 HZ6
            go_wp2_with fail
            refine KR.out.mono ?_
            rintro e w9 ⟨rv9, rfl, hr9, hb9⟩
            have hr9' := hr9
            obtain ⟨ra9, rc9, rfl⟩ := hr9.shape
            have hv9 := (hb9.block _ (block_lt HQ8.out.var)).trans HQ8.out.var
            have p0 : w9.cell? ⟨rb, 0, none⟩ = some (.slice ra q.length rc) := by unfold World.cell?; rw [hv9]; rfl
            have p1 : w9.cell? ⟨rb, 1, none⟩ = some (.int .u64 (all : Int)) := by unfold World.cell?; rw [hv9]; rfl
            have f0 : w9.frozen? ⟨rb, 0, none⟩ = false := by simp [World.frozen?, hv9]
            have f1 : w9.frozen? ⟨rb, 1, none⟩ = false := by simp [World.frozen?, hv9]
            obtain ⟨Q9, hQ9⟩ : ∃ Q9, Q9 = q ++ [(all + 1, m, Value.slice ea m.ents.length ec)] := ⟨_, rfl⟩
            have HE9 : Hid (valQ q ++ [(all + 1, m)] = valQ Q9 ∧ Q9.length = q.length + 1 ∧ (∀ x ∈ Q9, SmallP x.2.1) ∧ REnt w Q9) := Lib.hid ⟨by rw [hQ9, valQ_snoc], by rw [hQ9]; simp, fun x hx => by
              rw [hQ9] at hx
              rcases List.mem_append.1 hx with h1 | h1
              · exact HL.out.2.2 x h1
              · obtain rfl : x = (all + 1, m, Value.slice ea m.ents.length ec) := by simpa using h1
                exact HSM.out, by rw [hQ9]; exact REnt.snoc HQ8.out.ents HES.out⟩
            rw [← hQ9] at hr9 ⊢
            obtain ⟨W10, hW10⟩ : ∃ W10, W10 = (w9.setCell ⟨rb, 0, none⟩ (.slice ra9 Q9.length rc9)).setCell ⟨rb, 1, none⟩ (.int .u64 ((all : Int) + 1)) := ⟨_, rfl⟩
            have HQ10 : Hid (NR w W10 nb rb v8 (.slice ra9 Q9.length rc9) (all + 1) (all + 1) (valQ Q9) Q9) := Lib.hid (by rw [hW10, ← HE9.out.1]; exact HQ8.out.set hb9 hr9 HE9.out.2.2.2)
            have u0 : W10.cell? ⟨rb, 0, none⟩ = some (.slice ra9 Q9.length rc9) := by unfold World.cell?; rw [HQ10.out.var]; rfl
            have KL : Hid (∀ n, Calls Try.prog 19 #[.pointer (some ⟨nb, 0, none⟩)] (W10.drewN n) fun e w' => e = .returned (.int .i64 (Q9.length : Int)) ∧ W10.drewN n = w') := Lib.hid (fun n => by
              have := len_prog (HQ10.out.later ((Same.of W10 n).below _)).nw
              rwa [valQ_len] at this)
            have HL10 : Hid (all + 1 ≤ k + 1 ∧ Q9.length ≤ k + 1 ∧ ∀ x ∈ Q9, SmallP x.2.1) := Lib.hid ⟨Nat.succ_le_succ HL.out.1, by have := HL.out.2.1; have := HE9.out.2.1; omega, HE9.out.2.2.1⟩
            clear KR hr9 hr9' hb9 hv9 hQ9 y0 y1 y2 y3 y4 y5 y6 y7 y8 y9 y10 y11 x2 x3 x4 x5 x6 x7 x8 x9 x10 x11 s0 s1 t0 t1
            go_wp2_with fail
            simp only [← hW10]
            clear hW10 p0 p1 f0 f1
            go_quiet ((go_at_call 19; exact quietE (KL.out _)))
            go_wp2_with fail
            go_roundw
            case rel => exact ⟨k + 1, v8, _, all + 1, Q9, by omega, by go_num, Lib.hid (HQ10.out.later ((Same.of _ _).below _)), HL10⟩
            case measure => simp [intOf]; omega
          · by_cases e1 : what = 1
            · cases has with
              | false =>
                have hN : ¬ (0 ≤ N ∧ N < (q.length : Int)) := fun e => by
                  have := HHAS.out
                  rw [decide_eq_true e.1, decide_eq_true e.2] at this
                  cases this
                have KT := Lib.hid (take_no HQ6.out.nw N (by rw [valQ_len]; exact hN))
                have eN : (mgL mgNil (.slice none 0 0)).toArray = #[.int .i64 0, .int .i64 0, .int .i64 0, .int .u64 0, .int .u64 0, .int .u64 0, .int .u64 0, .bool false, .slice none 0 0, .string ⟨#[]⟩] := rfl
                rw [eN] at KT
                clear hz6
                go_wp2_with fail
                refine KT.out.mono ?_
                rintro e w7 ⟨rfl, hb7⟩
                obtain ⟨W8, hW8⟩ : ∃ W8, W8 = w7.alloc (.cells #[.int .i64 0, .int .i64 0, .int .i64 0, .int .u64 0, .int .u64 0, .int .u64 0, .int .u64 0, .bool false, .slice none 0 0, .string ⟨#[]⟩] 32) := ⟨_, rfl⟩
                have hb8 : Below w6.heap.size w6 W8 := by rw [hW8]; exact hb7.alloc hb7.size _
                have HZ8 := Lib.hid (block_kept HZ6.out (block_lt HZ6.out) hb8)
                have HQ8 := Lib.hid (HQ6.out.later hb8)
                have hm8 : W8.heap[w7.heap.size]? = some (.cells #[.int .i64 0, .int .i64 0, .int .i64 0, .int .u64 0, .int .u64 0, .int .u64 0, .int .u64 0, .bool false, .slice none 0 0, .string ⟨#[]⟩] 32 (0, 0)) := by rw [hW8]; exact heap_alloc_new _ _
                have KS := Lib.hid (same_prog mgNil mgNil (.slice none 0 0) (.slice none 0 0) W8.drew (ESl.nil _) (ESl.nil _) (by decide))
                rw [eN] at KS
                obtain ⟨q0, q1, q2, q3, q4, q5, q6, q7, q8, q9⟩ := cells10 hm8
                have HC0 : Hid (W8.cell? ⟨w7.heap.size, 0, none⟩ = some (.int .i64 0) ∧ W8.cell? ⟨w7.heap.size, 1, none⟩ = some (.int .i64 0) ∧ W8.cell? ⟨w7.heap.size, 2, none⟩ = some (.int .i64 0) ∧ W8.cell? ⟨w7.heap.size, 3, none⟩ = some (.int .u64 0) ∧ W8.cell? ⟨w7.heap.size, 4, none⟩ = some (.int .u64 0) ∧ W8.cell? ⟨w7.heap.size, 5, none⟩ = some (.int .u64 0) ∧ W8.cell? ⟨w7.heap.size, 6, none⟩ = some (.int .u64 0) ∧ W8.cell? ⟨w7.heap.size, 7, none⟩ = some (.bool false) ∧ W8.cell? ⟨w7.heap.size, 8, none⟩ = some (.slice none 0 0) ∧ W8.cell? ⟨w7.heap.size, 9, none⟩ = some (.string ⟨#[]⟩)) := Lib.hid ⟨q0, q1, q2, q3, q4, q5, q6, q7, q8, q9⟩
                have HC1 : Hid (W8.drew.cell? ⟨w7.heap.size, 0, none⟩ = some (.int .i64 0) ∧ W8.drew.cell? ⟨w7.heap.size, 1, none⟩ = some (.int .i64 0) ∧ W8.drew.cell? ⟨w7.heap.size, 2, none⟩ = some (.int .i64 0) ∧ W8.drew.cell? ⟨w7.heap.size, 3, none⟩ = some (.int .u64 0) ∧ W8.drew.cell? ⟨w7.heap.size, 4, none⟩ = some (.int .u64 0) ∧ W8.drew.cell? ⟨w7.heap.size, 5, none⟩ = some (.int .u64 0) ∧ W8.drew.cell? ⟨w7.heap.size, 6, none⟩ = some (.int .u64 0) ∧ W8.drew.cell? ⟨w7.heap.size, 7, none⟩ = some (.bool false) ∧ W8.drew.cell? ⟨w7.heap.size, 8, none⟩ = some (.slice none 0 0) ∧ W8.drew.cell? ⟨w7.heap.size, 9, none⟩ = some (.string ⟨#[]⟩)) := Lib.hid ⟨q0, q1, q2, q3, q4, q5, q6, q7, q8, q9⟩
                have HN := Lib.hid hN
                clear eN hN hb7 hb8 hm8 KT HQ6 HZ6
                go_wp2_with fail
                simp only [← hW8]
                clear hW8 q0 q1 q2 q3 q4 q5 q6 q7 q8 q9
                refine wp_region_held_drew (S := fun w' => w'.cell? ⟨w7.heap.size, 0, none⟩ = some (.int .i64 0) ∧ w'.cell? ⟨w7.heap.size, 1, none⟩ = some (.int .i64 0) ∧ w'.cell? ⟨w7.heap.size, 2, none⟩ = some (.int .i64 0) ∧ w'.cell? ⟨w7.heap.size, 3, none⟩ = some (.int .u64 0) ∧ w'.cell? ⟨w7.heap.size, 4, none⟩ = some (.int .u64 0) ∧ w'.cell? ⟨w7.heap.size, 5, none⟩ = some (.int .u64 0) ∧ w'.cell? ⟨w7.heap.size, 6, none⟩ = some (.int .u64 0) ∧ w'.cell? ⟨w7.heap.size, 7, none⟩ = some (.bool false) ∧ w'.cell? ⟨w7.heap.size, 8, none⟩ = some (.slice none 0 0) ∧ w'.cell? ⟨w7.heap.size, 9, none⟩ = some (.string ⟨#[]⟩)) (by kernel_rfl) (by first | exact HC1.out | exact HC0.out) (fun hHeld => ?_)
                refine wpAnyH_take (i := 0) (v := ?_) rfl (by kernel_rfl) (by kernel_rfl) (by kernel_rfl) (fun _ _ _ h => h) (Or.inl ⟨by rfl, ?_⟩) hHeld ?_
                rotate_left
                · intro w' hSw; (try dsimp only at hSw); go_simp; first | done | with_reducible rfl | rfl
                try simp only [Act.put, List.getElem_toArray, List.getElem_cons_zero, List.setIfInBounds_toArray, List.set_cons_zero, List.set_cons_succ]
                refine wpAnyH_take (i := 1) (v := ?_) rfl (by kernel_rfl) (by kernel_rfl) (by kernel_rfl) (fun _ _ _ h => h) (Or.inl ⟨by rfl, ?_⟩) hHeld ?_
                rotate_left
                · intro w' hSw; (try dsimp only at hSw); go_simp; first | done | with_reducible rfl | rfl
                try simp only [Act.put, List.getElem_toArray, List.getElem_cons_zero, List.getElem_cons_succ, List.setIfInBounds_toArray, List.set_cons_zero, List.set_cons_succ]
                refine wpAnyH_take (i := 2) (v := ?_) rfl (by kernel_rfl) (by kernel_rfl) (by kernel_rfl) (fun _ _ _ h => h) (Or.inl ⟨by rfl, ?_⟩) hHeld ?_
                rotate_left
                · intro w' hSw; (try dsimp only at hSw); go_simp; first | done | with_reducible rfl | rfl
                try simp only [Act.put, List.getElem_toArray, List.getElem_cons_zero, List.getElem_cons_succ, List.setIfInBounds_toArray, List.set_cons_zero, List.set_cons_succ]
                refine wpAnyH_take (i := 3) (v := ?_) rfl (by kernel_rfl) (by kernel_rfl) (by kernel_rfl) (fun _ _ _ h => h) (Or.inl ⟨by rfl, ?_⟩) hHeld ?_
                rotate_left
                · intro w' hSw; (try dsimp only at hSw); go_simp; first | done | with_reducible rfl | rfl
                try simp only [Act.put, List.getElem_toArray, List.getElem_cons_zero, List.getElem_cons_succ, List.setIfInBounds_toArray, List.set_cons_zero, List.set_cons_succ]
                refine wpAnyH_take (i := 4) (v := ?_) rfl (by kernel_rfl) (by kernel_rfl) (by kernel_rfl) (fun _ _ _ h => h) (Or.inl ⟨by rfl, ?_⟩) hHeld ?_
                rotate_left
                · intro w' hSw; (try dsimp only at hSw); go_simp; first | done | with_reducible rfl | rfl
                try simp only [Act.put, List.getElem_toArray, List.getElem_cons_zero, List.getElem_cons_succ, List.setIfInBounds_toArray, List.set_cons_zero, List.set_cons_succ]
                refine wpAnyH_take (i := 5) (v := ?_) rfl (by kernel_rfl) (by kernel_rfl) (by kernel_rfl) (fun _ _ _ h => h) (Or.inl ⟨by rfl, ?_⟩) hHeld ?_
                rotate_left
                · intro w' hSw; (try dsimp only at hSw); go_simp; first | done | with_reducible rfl | rfl
                try simp only [Act.put, List.getElem_toArray, List.getElem_cons_zero, List.getElem_cons_succ, List.setIfInBounds_toArray, List.set_cons_zero, List.set_cons_succ]
                refine wpAnyH_take (i := 6) (v := undef) rfl (by kernel_rfl) (by kernel_rfl) (by kernel_rfl) (fun _ _ _ h => h) (Or.inr ⟨by rfl, rfl⟩) hHeld ?_
                try simp only [Act.put, List.getElem_toArray, List.getElem_cons_zero, List.getElem_cons_succ, List.setIfInBounds_toArray, List.set_cons_zero, List.set_cons_succ]
                refine wpAnyH_take (i := 7) (v := undef) rfl (by kernel_rfl) (by kernel_rfl) (by kernel_rfl) (fun _ _ _ h => h) (Or.inr ⟨by rfl, rfl⟩) hHeld ?_
                try simp only [Act.put, List.getElem_toArray, List.getElem_cons_zero, List.getElem_cons_succ, List.setIfInBounds_toArray, List.set_cons_zero, List.set_cons_succ]
                refine wpAnyH_take (i := 8) (v := undef) rfl (by kernel_rfl) (by kernel_rfl) (by kernel_rfl) (fun _ _ _ h => h) (Or.inr ⟨by rfl, rfl⟩) hHeld ?_
                try simp only [Act.put, List.getElem_toArray, List.getElem_cons_zero, List.getElem_cons_succ, List.setIfInBounds_toArray, List.set_cons_zero, List.set_cons_succ]
                refine wpAnyH_take (i := 9) (v := undef) rfl (by kernel_rfl) (by kernel_rfl) (by kernel_rfl) (fun _ _ _ h => h) (Or.inr ⟨by rfl, rfl⟩) hHeld ?_
                try simp only [Act.put, List.getElem_toArray, List.getElem_cons_zero, List.getElem_cons_succ, List.setIfInBounds_toArray, List.set_cons_zero, List.set_cons_succ]
                refine wpAnyH_take (i := 10) (v := undef) rfl (by kernel_rfl) (by kernel_rfl) (by kernel_rfl) (fun _ _ _ h => h) (Or.inr ⟨by rfl, rfl⟩) hHeld ?_
                try simp only [Act.put, List.getElem_toArray, List.getElem_cons_zero, List.getElem_cons_succ, List.setIfInBounds_toArray, List.set_cons_zero, List.set_cons_succ]
                refine wpAnyH_take (i := 11) (v := undef) rfl (by kernel_rfl) (by kernel_rfl) (by kernel_rfl) (fun _ _ _ h => h) (Or.inr ⟨by rfl, rfl⟩) hHeld ?_
                try simp only [Act.put, List.getElem_toArray, List.getElem_cons_zero, List.getElem_cons_succ, List.setIfInBounds_toArray, List.set_cons_zero, List.set_cons_succ]
                refine wpAnyH_take (i := 12) (v := undef) rfl (by kernel_rfl) (by kernel_rfl) (by kernel_rfl) (fun _ _ _ h => h) (Or.inr ⟨by rfl, rfl⟩) hHeld ?_
                try simp only [Act.put, List.getElem_toArray, List.getElem_cons_zero, List.getElem_cons_succ, List.setIfInBounds_toArray, List.set_cons_zero, List.set_cons_succ]
                refine wpAnyH_take (i := 13) (v := undef) rfl (by kernel_rfl) (by kernel_rfl) (by kernel_rfl) (fun _ _ _ h => h) (Or.inr ⟨by rfl, rfl⟩) hHeld ?_
                try simp only [Act.put, List.getElem_toArray, List.getElem_cons_zero, List.getElem_cons_succ, List.setIfInBounds_toArray, List.set_cons_zero, List.set_cons_succ]
                refine wpAnyH_take (i := 14) (v := undef) rfl (by kernel_rfl) (by kernel_rfl) (by kernel_rfl) (fun _ _ _ h => h) (Or.inr ⟨by rfl, rfl⟩) hHeld ?_
                try simp only [Act.put, List.getElem_toArray, List.getElem_cons_zero, List.getElem_cons_succ, List.setIfInBounds_toArray, List.set_cons_zero, List.set_cons_succ]
                refine wpAnyH_take (i := 15) (v := undef) rfl (by kernel_rfl) (by kernel_rfl) (by kernel_rfl) (fun _ _ _ h => h) (Or.inr ⟨by rfl, rfl⟩) hHeld ?_
                try simp only [Act.put, List.getElem_toArray, List.getElem_cons_zero, List.getElem_cons_succ, List.setIfInBounds_toArray, List.set_cons_zero, List.set_cons_succ]
                refine wpAnyH_take (i := 16) (v := ?_) rfl (by kernel_rfl) (by kernel_rfl) (by kernel_rfl) (fun _ _ _ h => h) (Or.inl ⟨by rfl, ?_⟩) hHeld ?_
                rotate_left
                · intro w' hSw; (try dsimp only at hSw); go_simp; first | done | with_reducible rfl | rfl
                try simp only [Act.put, List.getElem_toArray, List.getElem_cons_zero, List.getElem_cons_succ, List.setIfInBounds_toArray, List.set_cons_zero, List.set_cons_succ]
                refine wpAnyH_take (i := 17) (v := ?_) rfl (by kernel_rfl) (by kernel_rfl) (by kernel_rfl) (fun _ _ _ h => h) (Or.inl ⟨by rfl, ?_⟩) hHeld ?_
                rotate_left
                · intro w' hSw; (try dsimp only at hSw); go_simp; first | done | with_reducible rfl | rfl
                try simp only [Act.put, List.getElem_toArray, List.getElem_cons_zero, List.getElem_cons_succ, List.setIfInBounds_toArray, List.set_cons_zero, List.set_cons_succ]
                refine wpAnyH_take (i := 18) (v := ?_) rfl (by kernel_rfl) (by kernel_rfl) (by kernel_rfl) (fun _ _ _ h => h) (Or.inl ⟨by rfl, ?_⟩) hHeld ?_
                rotate_left
                · intro w' hSw; (try dsimp only at hSw); go_simp; first | done | with_reducible rfl | rfl
                try simp only [Act.put, List.getElem_toArray, List.getElem_cons_zero, List.getElem_cons_succ, List.setIfInBounds_toArray, List.set_cons_zero, List.set_cons_succ]
                refine wpAnyH_take (i := 19) (v := ?_) rfl (by kernel_rfl) (by kernel_rfl) (by kernel_rfl) (fun _ _ _ h => h) (Or.inl ⟨by rfl, ?_⟩) hHeld ?_
                rotate_left
                · intro w' hSw; (try dsimp only at hSw); go_simp; first | done | with_reducible rfl | rfl
                try simp only [Act.put, List.getElem_toArray, List.getElem_cons_zero, List.getElem_cons_succ, List.setIfInBounds_toArray, List.set_cons_zero, List.set_cons_succ]
                refine wpAnyH_take (i := 20) (v := ?_) rfl (by kernel_rfl) (by kernel_rfl) (by kernel_rfl) (fun _ _ _ h => h) (Or.inl ⟨by rfl, ?_⟩) hHeld ?_
                rotate_left
                · intro w' hSw; (try dsimp only at hSw); go_simp; first | done | with_reducible rfl | rfl
                try simp only [Act.put, List.getElem_toArray, List.getElem_cons_zero, List.getElem_cons_succ, List.setIfInBounds_toArray, List.set_cons_zero, List.set_cons_succ]
                refine wpAnyH_take (i := 21) (v := ?_) rfl (by kernel_rfl) (by kernel_rfl) (by kernel_rfl) (fun _ _ _ h => h) (Or.inl ⟨by rfl, ?_⟩) hHeld ?_
                rotate_left
                · intro w' hSw; (try dsimp only at hSw); go_simp; first | done | with_reducible rfl | rfl
                try simp only [Act.put, List.getElem_toArray, List.getElem_cons_zero, List.getElem_cons_succ, List.setIfInBounds_toArray, List.set_cons_zero, List.set_cons_succ]
                refine wpAnyH_take (i := 22) (v := ?_) rfl (by kernel_rfl) (by kernel_rfl) (by kernel_rfl) (fun _ _ _ h => h) (Or.inl ⟨by rfl, ?_⟩) hHeld ?_
                rotate_left
                · intro w' hSw; (try dsimp only at hSw); go_simp; first | done | with_reducible rfl | rfl
                try simp only [Act.put, List.getElem_toArray, List.getElem_cons_zero, List.getElem_cons_succ, List.setIfInBounds_toArray, List.set_cons_zero, List.set_cons_succ]
                refine wpAnyH_take (i := 23) (v := ?_) rfl (by kernel_rfl) (by kernel_rfl) (by kernel_rfl) (fun _ _ _ h => h) (Or.inl ⟨by rfl, ?_⟩) hHeld ?_
                rotate_left
                · intro w' hSw; (try dsimp only at hSw); go_simp; first | done | with_reducible rfl | rfl
                try simp only [Act.put, List.getElem_toArray, List.getElem_cons_zero, List.getElem_cons_succ, List.setIfInBounds_toArray, List.set_cons_zero, List.set_cons_succ]
                refine wpAnyH_ready (rs := [24]) (by kernel_rfl) (by simp) ?_
                refine AllReadyH.cons rfl (fun K hK => ?_) AllReadyH.nil
                try simp only [Act.put, List.getElem_toArray, List.getElem_cons_zero, List.getElem_cons_succ, List.setIfInBounds_toArray, List.set_cons_zero, List.set_cons_succ]
                go_simp
                go_at_call 14
                refine KS.out.mono ?_
                rintro e w9 ⟨r, rfl, hr, hb9⟩
                obtain rfl : r = true := hr.2 rfl
                have hcs9 := (And.intro (cellB hb9 HC1.out.1) (And.intro (cellB hb9 HC1.out.2.1) (And.intro (cellB hb9 HC1.out.2.2.1) (And.intro (cellB hb9 HC1.out.2.2.2.1) (And.intro (cellB hb9 HC1.out.2.2.2.2.1) (And.intro (cellB hb9 HC1.out.2.2.2.2.2.1) (And.intro (cellB hb9 HC1.out.2.2.2.2.2.2.1) (And.intro (cellB hb9 HC1.out.2.2.2.2.2.2.2.1) (And.intro (cellB hb9 HC1.out.2.2.2.2.2.2.2.2.1) (cellB hb9 HC1.out.2.2.2.2.2.2.2.2.2))))))))))
                go_wp2_with fail
                clear hHeld
                refine hK.out _ _ (by first | exact hcs9 | (dsimp only; exact hcs9)) (fun hHeld => ?_)
                clear hK K
                try simp only [Act.put, List.getElem_toArray, List.getElem_cons_zero, List.getElem_cons_succ, List.setIfInBounds_toArray, List.set_cons_zero, List.set_cons_succ]
                refine wpAnyH_take (i := 25) (v := ?_) rfl (by kernel_rfl) (by kernel_rfl) (by kernel_rfl) (fun _ _ _ h => h) (Or.inl ⟨by rfl, ?_⟩) hHeld ?_
                rotate_left
                · intro w' hSw; (try dsimp only at hSw); go_simp; first | done | with_reducible rfl | rfl
                try simp only [Act.put, List.getElem_toArray, List.getElem_cons_zero, List.getElem_cons_succ, List.setIfInBounds_toArray, List.set_cons_zero, List.set_cons_succ]
                refine wpAnyH_take (i := 26) (v := ?_) rfl (by kernel_rfl) (by kernel_rfl) (by kernel_rfl) (fun _ _ _ h => h) (Or.inl ⟨by rfl, ?_⟩) hHeld ?_
                rotate_left
                · intro w' hSw; (try dsimp only at hSw); go_simp; first | done | with_reducible rfl | rfl
                try simp only [Act.put, List.getElem_toArray, List.getElem_cons_zero, List.getElem_cons_succ, List.setIfInBounds_toArray, List.set_cons_zero, List.set_cons_succ]
                refine wpAnyH_take (i := 27) (v := ?_) rfl (by kernel_rfl) (by kernel_rfl) (by kernel_rfl) (fun _ _ _ h => h) (Or.inl ⟨by rfl, ?_⟩) hHeld ?_
                rotate_left
                · intro w' hSw; (try dsimp only at hSw); go_simp; first | done | with_reducible rfl | rfl
                try simp only [Act.put, List.getElem_toArray, List.getElem_cons_zero, List.getElem_cons_succ, List.setIfInBounds_toArray, List.set_cons_zero, List.set_cons_succ]
                refine wpAnyH_done (by kernel_rfl) ?_ _
                have HQ9 : Hid (NR w w9 nb rb v (.slice ra q.length rc) all all (valQ (dropI q N)) q) := Lib.hid (by rw [dropI_out HN.out]; exact (HQ8.out.later (Below.refl _ _).drew).later hb9)
                have hz9 := block_kept HZ8.out (block_lt HZ8.out) ((Below.refl _ _).drew.trans hb9)
                clear hr hb9 KS hcs9 HC0 HC1 HQ8 HZ8
                have x1 : w9.cell? ⟨wr.heap.size, 1, none⟩ = some (.int .i64 N) := by unfold World.cell?; rw [hz9]; rfl
                have t0 : w9.cell? ⟨rb, 0, none⟩ = some (.slice ra q.length rc) := by unfold World.cell?; rw [HQ9.out.var]; rfl
                have t1 : w9.cell? ⟨rb, 1, none⟩ = some (.int .u64 (all : Int)) := by unfold World.cell?; rw [HQ9.out.var]; rfl
                have KR := Lib.hid (rdrop_prog w9 (.slice ra q.length rc) q all (ownN_base HQ9.out.row (fun _ _ => Nat.zero_le _)) HQ9.out.ents' (by have := HL.out.2.1; omega) N)

                go_wp2_with fail
                refine KR.out.mono ?_
                rintro e wE ⟨rv9, rfl, hr9, hb9⟩
                obtain ⟨ra9, rc9, rfl⟩ := hr9.shape
                have hv9 := (hb9.block _ (block_lt HQ9.out.var)).trans HQ9.out.var
                have p0 : wE.cell? ⟨rb, 0, none⟩ = some (.slice ra q.length rc) := by unfold World.cell?; rw [hv9]; rfl
                have p1 : wE.cell? ⟨rb, 1, none⟩ = some (.int .u64 (all : Int)) := by unfold World.cell?; rw [hv9]; rfl
                have f0 : wE.frozen? ⟨rb, 0, none⟩ = false := by simp [World.frozen?, hv9]
                have f1 : wE.frozen? ⟨rb, 1, none⟩ = false := by simp [World.frozen?, hv9]
                obtain ⟨Q9, hQ9⟩ : ∃ Q9, Q9 = dropI q N := ⟨_, rfl⟩
                have HE9 : Hid (Q9.length ≤ q.length ∧ (∀ x ∈ Q9, SmallP x.2.1) ∧ REnt w Q9) := Lib.hid ⟨by rw [hQ9]; exact dropI_len q N, fun x hx => HL.out.2.2 x (dropI_mem (by rw [← hQ9]; exact hx)), by rw [hQ9]; exact HQ9.out.ents.drop N⟩
                rw [← hQ9] at hr9 HQ9 ⊢
                obtain ⟨W10, hW10⟩ : ∃ W10, W10 = (wE.setCell ⟨rb, 0, none⟩ (.slice ra9 Q9.length rc9)).setCell ⟨rb, 1, none⟩ (.int .u64 (all : Int)) := ⟨_, rfl⟩
                have HQ10 : Hid (NR w W10 nb rb v (.slice ra9 Q9.length rc9) all all (valQ Q9) Q9) := Lib.hid (by rw [hW10]; exact HQ9.out.set hb9 hr9 HE9.out.2.2)
                have u0 : W10.cell? ⟨rb, 0, none⟩ = some (.slice ra9 Q9.length rc9) := by unfold World.cell?; rw [HQ10.out.var]; rfl
                have KL : Hid (∀ n, Calls Try.prog 19 #[.pointer (some ⟨nb, 0, none⟩)] (W10.drewN n) fun e w' => e = .returned (.int .i64 (Q9.length : Int)) ∧ W10.drewN n = w') := Lib.hid (fun n => by
                  have := len_prog (HQ10.out.later ((Same.of W10 n).below _)).nw
                  rwa [valQ_len] at this)
                have HL10 : Hid (all ≤ k + 1 ∧ Q9.length ≤ k + 1 ∧ ∀ x ∈ Q9, SmallP x.2.1) := Lib.hid ⟨Nat.le_succ_of_le HL.out.1, by have := HL.out.2.1; have := HE9.out.1; omega, HE9.out.2.1⟩
                clear KR hr9 hb9 hv9 hQ9 y0 y1 x1 s0 s1 t0 t1
                go_wp2_with fail
                simp only [← hW10]
                clear hW10 p0 p1 f0 f1
                go_quiet ((go_at_call 19; exact quietE (KL.out _)))
                go_wp2_with fail
                go_roundw
                case rel => exact ⟨k + 1, v, _, all, Q9, by omega, by go_num, Lib.hid (HQ10.out.later ((Same.of _ _).below _)), HL10⟩
                case measure => simp [intOf]; omega
              | true =>
                have hN : 0 ≤ N ∧ N < (q.length : Int) := by
                  have := HHAS.out
                  rw [Bool.and_eq_true, decide_eq_true_eq, decide_eq_true_eq] at this
                  exact this
                obtain ⟨i, rfl⟩ : ∃ i : Nat, N = (i : Int) := ⟨N.toNat, by omega⟩
                have hiI : (i : Int) < (q.length : Int) := hN.2
                have hi0 : (0 : Int) ≤ (i : Int) := hN.1
                obtain ⟨⟨num, mm, evm⟩, hx⟩ : ∃ x, q[i]? = some x := ⟨_, List.getElem?_eq_getElem (by omega)⟩
                have HX := Lib.hid hx
                have HSX : Hid (SmallP mm) := Lib.hid (HL.out.2.2 _ (List.mem_of_getElem? hx))
                have hEX : ESl w evm mm.ents := HQ6.out.ents _ (List.mem_of_getElem? hx)
                obtain ⟨eb, ed, rfl, _, _⟩ := id hEX
                have HEX := Lib.hid hEX
                clear hN hEX hx
                have KT := Lib.hid (take_yes HQ6.out.nw i num mm (valQ_get HX.out) (by rw [valQ_len]; have := HL.out.2.1; omega) (by have := HSX.out.1; omega))
                unfold mgL at KT
                clear hz6
                go_wp2_with fail
                refine KT.out.mono ?_
                rintro e w7 ⟨evx, rfl, ho7, v7, hn7, hc7⟩
                obtain ⟨rx, ry, rfl, _⟩ := ho7.shape
                have hq7 : NR w w7 nb rb v7 (.slice ra q.length rc) all all (valQ (dropI q (i : Int))) q := by rw [valQ_drop q i (by omega)]; exact HQ6.out.net hn7 hc7
                have hz7 := (hc7.msgs HQ6.out.nw _ _ _ HZ6.out (by decide) (by decide)).trans HZ6.out
                obtain ⟨W8, hW8⟩ : ∃ W8, W8 = w7.alloc (.cells #[.int .i64 mm.kind, .int .i64 mm.src, .int .i64 mm.dst, .int .u64 (mm.term : Int), .int .u64 (mm.index : Int), .int .u64 (mm.lterm : Int), .int .u64 (mm.commit : Int), .bool mm.ok, .slice rx mm.ents.length ry, .string mm.state] 32) := ⟨_, rfl⟩
                have hb8 : Below w7.heap.size w7 W8 := by rw [hW8]; exact (Below.refl _ _).alloc (Nat.le_refl _) _
                have hz8 := block_kept hz7 (block_lt hz7) hb8
                have HQ8 := Lib.hid (hq7.later hb8)
                have HZ8 := Lib.hid hz8
                have hm8 : W8.heap[w7.heap.size]? = some (.cells #[.int .i64 mm.kind, .int .i64 mm.src, .int .i64 mm.dst, .int .u64 (mm.term : Int), .int .u64 (mm.index : Int), .int .u64 (mm.lterm : Int), .int .u64 (mm.commit : Int), .bool mm.ok, .slice rx mm.ents.length ry, .string mm.state] 32 (0, 0)) := by rw [hW8]; exact heap_alloc_new _ _
                have hE8 : ESl W8 (.slice rx mm.ents.length ry) mm.ents := by rw [hW8]; exact (EOwn.sl ho7).later ((Below.refl _ _).alloc (Nat.le_refl _) _)
                have KS := Lib.hid (same_prog mm mm (.slice rx mm.ents.length ry) (.slice eb mm.ents.length ed) W8.drew (hE8.later (Below.refl _ _).drew) (HEX.out.later (HQ8.out.below.drew)) (by have := HSX.out.1; omega))
                unfold mgL at KS
                obtain ⟨q0, q1, q2, q3, q4, q5, q6, q7, q8, q9⟩ := cells10 hm8
                obtain ⟨gg, cc, e2, hg, hcs⟩ := HQ8.out.row.get HX.out
                injection e2 with e2 e3 e4
                subst e2
                clear e3 e4
                have x0 : W8.cell? ⟨gg, i * 11 + 1, none⟩ = some (.int .i64 mm.kind) := hcs 1 _ rfl
                have x1 : W8.cell? ⟨gg, i * 11 + 2, none⟩ = some (.int .i64 mm.src) := hcs 2 _ rfl
                have x2 : W8.cell? ⟨gg, i * 11 + 3, none⟩ = some (.int .i64 mm.dst) := hcs 3 _ rfl
                have x3 : W8.cell? ⟨gg, i * 11 + 4, none⟩ = some (.int .u64 (mm.term : Int)) := hcs 4 _ rfl
                have x4 : W8.cell? ⟨gg, i * 11 + 5, none⟩ = some (.int .u64 (mm.index : Int)) := hcs 5 _ rfl
                have x5 : W8.cell? ⟨gg, i * 11 + 6, none⟩ = some (.int .u64 (mm.lterm : Int)) := hcs 6 _ rfl
                have x6 : W8.cell? ⟨gg, i * 11 + 7, none⟩ = some (.int .u64 (mm.commit : Int)) := hcs 7 _ rfl
                have x7 : W8.cell? ⟨gg, i * 11 + 8, none⟩ = some (.bool mm.ok) := hcs 8 _ rfl
                have x8 : W8.cell? ⟨gg, i * 11 + 9, none⟩ = some (.slice eb mm.ents.length ed) := hcs 9 _ rfl
                have x9 : W8.cell? ⟨gg, i * 11 + 10, none⟩ = some (.string mm.state) := hcs 10 _ rfl
                have xN : W8.cell? ⟨wr.heap.size, 1, none⟩ = some (.int .i64 (i : Int)) := by unfold World.cell?; rw [hz8]; rfl
                have v0 : W8.cell? ⟨rb, 0, none⟩ = some (.slice (some ⟨gg, 0, none⟩) q.length rc) := by unfold World.cell?; rw [HQ8.out.var]; rfl
                have HC0 : Hid (W8.cell? ⟨rb, 0, none⟩ = some (.slice (some ⟨gg, 0, none⟩) q.length rc) ∧ W8.cell? ⟨wr.heap.size, 1, none⟩ = some (.int .i64 (i : Int)) ∧ W8.cell? ⟨gg, i * 11 + 1, none⟩ = some (.int .i64 mm.kind) ∧ W8.cell? ⟨gg, i * 11 + 2, none⟩ = some (.int .i64 mm.src) ∧ W8.cell? ⟨gg, i * 11 + 3, none⟩ = some (.int .i64 mm.dst) ∧ W8.cell? ⟨gg, i * 11 + 4, none⟩ = some (.int .u64 (mm.term : Int)) ∧ W8.cell? ⟨gg, i * 11 + 5, none⟩ = some (.int .u64 (mm.index : Int)) ∧ W8.cell? ⟨gg, i * 11 + 6, none⟩ = some (.int .u64 (mm.lterm : Int)) ∧ W8.cell? ⟨gg, i * 11 + 7, none⟩ = some (.int .u64 (mm.commit : Int)) ∧ W8.cell? ⟨gg, i * 11 + 8, none⟩ = some (.bool mm.ok) ∧ W8.cell? ⟨gg, i * 11 + 9, none⟩ = some (.slice eb mm.ents.length ed) ∧ W8.cell? ⟨gg, i * 11 + 10, none⟩ = some (.string mm.state) ∧ W8.cell? ⟨w7.heap.size, 0, none⟩ = some (.int .i64 mm.kind) ∧ W8.cell? ⟨w7.heap.size, 1, none⟩ = some (.int .i64 mm.src) ∧ W8.cell? ⟨w7.heap.size, 2, none⟩ = some (.int .i64 mm.dst) ∧ W8.cell? ⟨w7.heap.size, 3, none⟩ = some (.int .u64 (mm.term : Int)) ∧ W8.cell? ⟨w7.heap.size, 4, none⟩ = some (.int .u64 (mm.index : Int)) ∧ W8.cell? ⟨w7.heap.size, 5, none⟩ = some (.int .u64 (mm.lterm : Int)) ∧ W8.cell? ⟨w7.heap.size, 6, none⟩ = some (.int .u64 (mm.commit : Int)) ∧ W8.cell? ⟨w7.heap.size, 7, none⟩ = some (.bool mm.ok) ∧ W8.cell? ⟨w7.heap.size, 8, none⟩ = some (.slice rx mm.ents.length ry) ∧ W8.cell? ⟨w7.heap.size, 9, none⟩ = some (.string mm.state)) := Lib.hid ⟨v0, xN, x0, x1, x2, x3, x4, x5, x6, x7, x8, x9, q0, q1, q2, q3, q4, q5, q6, q7, q8, q9⟩
                have HC1 : Hid (W8.drew.cell? ⟨rb, 0, none⟩ = some (.slice (some ⟨gg, 0, none⟩) q.length rc) ∧ W8.drew.cell? ⟨wr.heap.size, 1, none⟩ = some (.int .i64 (i : Int)) ∧ W8.drew.cell? ⟨gg, i * 11 + 1, none⟩ = some (.int .i64 mm.kind) ∧ W8.drew.cell? ⟨gg, i * 11 + 2, none⟩ = some (.int .i64 mm.src) ∧ W8.drew.cell? ⟨gg, i * 11 + 3, none⟩ = some (.int .i64 mm.dst) ∧ W8.drew.cell? ⟨gg, i * 11 + 4, none⟩ = some (.int .u64 (mm.term : Int)) ∧ W8.drew.cell? ⟨gg, i * 11 + 5, none⟩ = some (.int .u64 (mm.index : Int)) ∧ W8.drew.cell? ⟨gg, i * 11 + 6, none⟩ = some (.int .u64 (mm.lterm : Int)) ∧ W8.drew.cell? ⟨gg, i * 11 + 7, none⟩ = some (.int .u64 (mm.commit : Int)) ∧ W8.drew.cell? ⟨gg, i * 11 + 8, none⟩ = some (.bool mm.ok) ∧ W8.drew.cell? ⟨gg, i * 11 + 9, none⟩ = some (.slice eb mm.ents.length ed) ∧ W8.drew.cell? ⟨gg, i * 11 + 10, none⟩ = some (.string mm.state) ∧ W8.drew.cell? ⟨w7.heap.size, 0, none⟩ = some (.int .i64 mm.kind) ∧ W8.drew.cell? ⟨w7.heap.size, 1, none⟩ = some (.int .i64 mm.src) ∧ W8.drew.cell? ⟨w7.heap.size, 2, none⟩ = some (.int .i64 mm.dst) ∧ W8.drew.cell? ⟨w7.heap.size, 3, none⟩ = some (.int .u64 (mm.term : Int)) ∧ W8.drew.cell? ⟨w7.heap.size, 4, none⟩ = some (.int .u64 (mm.index : Int)) ∧ W8.drew.cell? ⟨w7.heap.size, 5, none⟩ = some (.int .u64 (mm.lterm : Int)) ∧ W8.drew.cell? ⟨w7.heap.size, 6, none⟩ = some (.int .u64 (mm.commit : Int)) ∧ W8.drew.cell? ⟨w7.heap.size, 7, none⟩ = some (.bool mm.ok) ∧ W8.drew.cell? ⟨w7.heap.size, 8, none⟩ = some (.slice rx mm.ents.length ry) ∧ W8.drew.cell? ⟨w7.heap.size, 9, none⟩ = some (.string mm.state)) := Lib.hid ⟨v0, xN, x0, x1, x2, x3, x4, x5, x6, x7, x8, x9, q0, q1, q2, q3, q4, q5, q6, q7, q8, q9⟩
                clear ho7 hn7 hc7 hq7 hz7 hb8 hz8 hm8 hE8 KT HQ6 HZ6 hcs hg
                go_wp2_with fail
                simp only [← hW8]
                clear hW8 v0 xN x0 x1 x2 x3 x4 x5 x6 x7 x8 x9 q0 q1 q2 q3 q4 q5 q6 q7 q8 q9
                refine wp_region_held_drew (S := fun w' => w'.cell? ⟨rb, 0, none⟩ = some (.slice (some ⟨gg, 0, none⟩) q.length rc) ∧ w'.cell? ⟨wr.heap.size, 1, none⟩ = some (.int .i64 (i : Int)) ∧ w'.cell? ⟨gg, i * 11 + 1, none⟩ = some (.int .i64 mm.kind) ∧ w'.cell? ⟨gg, i * 11 + 2, none⟩ = some (.int .i64 mm.src) ∧ w'.cell? ⟨gg, i * 11 + 3, none⟩ = some (.int .i64 mm.dst) ∧ w'.cell? ⟨gg, i * 11 + 4, none⟩ = some (.int .u64 (mm.term : Int)) ∧ w'.cell? ⟨gg, i * 11 + 5, none⟩ = some (.int .u64 (mm.index : Int)) ∧ w'.cell? ⟨gg, i * 11 + 6, none⟩ = some (.int .u64 (mm.lterm : Int)) ∧ w'.cell? ⟨gg, i * 11 + 7, none⟩ = some (.int .u64 (mm.commit : Int)) ∧ w'.cell? ⟨gg, i * 11 + 8, none⟩ = some (.bool mm.ok) ∧ w'.cell? ⟨gg, i * 11 + 9, none⟩ = some (.slice eb mm.ents.length ed) ∧ w'.cell? ⟨gg, i * 11 + 10, none⟩ = some (.string mm.state) ∧ w'.cell? ⟨w7.heap.size, 0, none⟩ = some (.int .i64 mm.kind) ∧ w'.cell? ⟨w7.heap.size, 1, none⟩ = some (.int .i64 mm.src) ∧ w'.cell? ⟨w7.heap.size, 2, none⟩ = some (.int .i64 mm.dst) ∧ w'.cell? ⟨w7.heap.size, 3, none⟩ = some (.int .u64 (mm.term : Int)) ∧ w'.cell? ⟨w7.heap.size, 4, none⟩ = some (.int .u64 (mm.index : Int)) ∧ w'.cell? ⟨w7.heap.size, 5, none⟩ = some (.int .u64 (mm.lterm : Int)) ∧ w'.cell? ⟨w7.heap.size, 6, none⟩ = some (.int .u64 (mm.commit : Int)) ∧ w'.cell? ⟨w7.heap.size, 7, none⟩ = some (.bool mm.ok) ∧ w'.cell? ⟨w7.heap.size, 8, none⟩ = some (.slice rx mm.ents.length ry) ∧ w'.cell? ⟨w7.heap.size, 9, none⟩ = some (.string mm.state)) (by kernel_rfl) (by first | exact HC1.out | exact HC0.out) (fun hHeld => ?_)
                refine wpAnyH_take (i := 0) (v := ?_) rfl (by kernel_rfl) (by kernel_rfl) (by kernel_rfl) (fun _ _ _ h => h) (Or.inl ⟨by rfl, ?_⟩) hHeld ?_
                rotate_left
                · intro w' hSw; (try dsimp only at hSw); go_simp; first | done | with_reducible rfl | rfl
                try simp only [Act.put, List.getElem_toArray, List.getElem_cons_zero, List.setIfInBounds_toArray, List.set_cons_zero, List.set_cons_succ]
                refine wpAnyH_take (i := 1) (v := ?_) rfl (by kernel_rfl) (by kernel_rfl) (by kernel_rfl) (fun _ _ _ h => h) (Or.inl ⟨by rfl, ?_⟩) hHeld ?_
                rotate_left
                · intro w' hSw; (try dsimp only at hSw); go_simp; first | done | with_reducible rfl | rfl
                try simp only [Act.put, List.getElem_toArray, List.getElem_cons_zero, List.getElem_cons_succ, List.setIfInBounds_toArray, List.set_cons_zero, List.set_cons_succ]
                refine wpAnyH_take (i := 2) (v := ?_) rfl (by kernel_rfl) (by kernel_rfl) (by kernel_rfl) (fun _ _ _ h => h) (Or.inl ⟨by rfl, ?_⟩) hHeld ?_
                rotate_left
                · intro w' hSw; (try dsimp only at hSw); go_simp; first | done | with_reducible rfl | rfl
                try simp only [Act.put, List.getElem_toArray, List.getElem_cons_zero, List.getElem_cons_succ, List.setIfInBounds_toArray, List.set_cons_zero, List.set_cons_succ]
                refine wpAnyH_take (i := 3) (v := ?_) rfl (by kernel_rfl) (by kernel_rfl) (by kernel_rfl) (fun _ _ _ h => h) (Or.inl ⟨by rfl, ?_⟩) hHeld ?_
                rotate_left
                · intro w' hSw; (try dsimp only at hSw); go_simp; first | done | with_reducible rfl | rfl
                try simp only [Act.put, List.getElem_toArray, List.getElem_cons_zero, List.getElem_cons_succ, List.setIfInBounds_toArray, List.set_cons_zero, List.set_cons_succ]
                refine wpAnyH_take (i := 4) (v := ?_) rfl (by kernel_rfl) (by kernel_rfl) (by kernel_rfl) (fun _ _ _ h => h) (Or.inl ⟨by rfl, ?_⟩) hHeld ?_
                rotate_left
                · intro w' hSw; (try dsimp only at hSw); go_simp; first | done | with_reducible rfl | rfl
                try simp only [Act.put, List.getElem_toArray, List.getElem_cons_zero, List.getElem_cons_succ, List.setIfInBounds_toArray, List.set_cons_zero, List.set_cons_succ]
                refine wpAnyH_take (i := 5) (v := ?_) rfl (by kernel_rfl) (by kernel_rfl) (by kernel_rfl) (fun _ _ _ h => h) (Or.inl ⟨by rfl, ?_⟩) hHeld ?_
                rotate_left
                · intro w' hSw; (try dsimp only at hSw); go_simp; first | done | with_reducible rfl | rfl
                try simp only [Act.put, List.getElem_toArray, List.getElem_cons_zero, List.getElem_cons_succ, List.setIfInBounds_toArray, List.set_cons_zero, List.set_cons_succ]
                refine wpAnyH_take (i := 6) (v := ?_) rfl (by kernel_rfl) (by kernel_rfl) (by kernel_rfl) (fun _ _ _ h => h) (Or.inl ⟨by rfl, ?_⟩) hHeld ?_
                rotate_left
                · intro w' hSw; (try dsimp only at hSw); go_simp; first | done | with_reducible rfl | rfl
                try simp only [Act.put, List.getElem_toArray, List.getElem_cons_zero, List.getElem_cons_succ, List.setIfInBounds_toArray, List.set_cons_zero, List.set_cons_succ]
                refine wpAnyH_take (i := 7) (v := ?_) rfl (by kernel_rfl) (by kernel_rfl) (by kernel_rfl) (fun _ _ _ h => h) (Or.inl ⟨by rfl, ?_⟩) hHeld ?_
                rotate_left
                · intro w' hSw; (try dsimp only at hSw); go_simp; first | done | with_reducible rfl | rfl
                try simp only [Act.put, List.getElem_toArray, List.getElem_cons_zero, List.getElem_cons_succ, List.setIfInBounds_toArray, List.set_cons_zero, List.set_cons_succ]
                refine wpAnyH_take (i := 8) (v := ?_) rfl (by kernel_rfl) (by kernel_rfl) (by kernel_rfl) (fun _ _ _ h => h) (Or.inl ⟨by rfl, ?_⟩) hHeld ?_
                rotate_left
                · intro w' hSw; (try dsimp only at hSw); go_simp; first | done | with_reducible rfl | rfl
                try simp only [Act.put, List.getElem_toArray, List.getElem_cons_zero, List.getElem_cons_succ, List.setIfInBounds_toArray, List.set_cons_zero, List.set_cons_succ]
                refine wpAnyH_take (i := 9) (v := ?_) rfl (by kernel_rfl) (by kernel_rfl) (by kernel_rfl) (fun _ _ _ h => h) (Or.inl ⟨by rfl, ?_⟩) hHeld ?_
                rotate_left
                · intro w' hSw; (try dsimp only at hSw); go_simp; first | done | with_reducible rfl | rfl
                try simp only [Act.put, List.getElem_toArray, List.getElem_cons_zero, List.getElem_cons_succ, List.setIfInBounds_toArray, List.set_cons_zero, List.set_cons_succ]
                refine wpAnyH_take (i := 10) (v := ?_) rfl (by kernel_rfl) (by kernel_rfl) (by kernel_rfl) (fun _ _ _ h => h) (Or.inl ⟨by rfl, ?_⟩) hHeld ?_
                rotate_left
                · intro w' hSw; (try dsimp only at hSw); go_simp; first | done | with_reducible rfl | rfl
                try simp only [Act.put, List.getElem_toArray, List.getElem_cons_zero, List.getElem_cons_succ, List.setIfInBounds_toArray, List.set_cons_zero, List.set_cons_succ]
                refine wpAnyH_take (i := 11) (v := ?_) rfl (by kernel_rfl) (by kernel_rfl) (by kernel_rfl) (fun _ _ _ h => h) (Or.inl ⟨by rfl, ?_⟩) hHeld ?_
                rotate_left
                · intro w' hSw; (try dsimp only at hSw); go_simp; first | done | with_reducible rfl | rfl
                try simp only [Act.put, List.getElem_toArray, List.getElem_cons_zero, List.getElem_cons_succ, List.setIfInBounds_toArray, List.set_cons_zero, List.set_cons_succ]
                refine wpAnyH_take (i := 12) (v := ?_) rfl (by kernel_rfl) (by kernel_rfl) (by kernel_rfl) (fun _ _ _ h => h) (Or.inl ⟨by rfl, ?_⟩) hHeld ?_
                rotate_left
                · intro w' hSw; (try dsimp only at hSw); go_simp; first | done | with_reducible rfl | rfl
                try simp only [Act.put, List.getElem_toArray, List.getElem_cons_zero, List.getElem_cons_succ, List.setIfInBounds_toArray, List.set_cons_zero, List.set_cons_succ]
                refine wpAnyH_take (i := 13) (v := ?_) rfl (by kernel_rfl) (by kernel_rfl) (by kernel_rfl) (fun _ _ _ h => h) (Or.inl ⟨by rfl, ?_⟩) hHeld ?_
                rotate_left
                · intro w' hSw; (try dsimp only at hSw); go_simp; first | done | with_reducible rfl | rfl
                try simp only [Act.put, List.getElem_toArray, List.getElem_cons_zero, List.getElem_cons_succ, List.setIfInBounds_toArray, List.set_cons_zero, List.set_cons_succ]
                refine wpAnyH_ready (rs := [14]) (by kernel_rfl) (by simp) ?_
                refine AllReadyH.cons rfl (fun K hK => ?_) AllReadyH.nil
                try simp only [Act.put, List.getElem_toArray, List.getElem_cons_zero, List.getElem_cons_succ, List.setIfInBounds_toArray, List.set_cons_zero, List.set_cons_succ]
                go_simp
                go_at_call 14
                refine KS.out.mono ?_
                rintro e w9 ⟨r, rfl, hr, hb9⟩
                obtain rfl : r = true := hr.2 rfl
                have hcs9 := (And.intro (cellB hb9 HC1.out.1) (And.intro (cellB hb9 HC1.out.2.1) (And.intro (cellB hb9 HC1.out.2.2.1) (And.intro (cellB hb9 HC1.out.2.2.2.1) (And.intro (cellB hb9 HC1.out.2.2.2.2.1) (And.intro (cellB hb9 HC1.out.2.2.2.2.2.1) (And.intro (cellB hb9 HC1.out.2.2.2.2.2.2.1) (And.intro (cellB hb9 HC1.out.2.2.2.2.2.2.2.1) (And.intro (cellB hb9 HC1.out.2.2.2.2.2.2.2.2.1) (And.intro (cellB hb9 HC1.out.2.2.2.2.2.2.2.2.2.1) (And.intro (cellB hb9 HC1.out.2.2.2.2.2.2.2.2.2.2.1) (And.intro (cellB hb9 HC1.out.2.2.2.2.2.2.2.2.2.2.2.1) (And.intro (cellB hb9 HC1.out.2.2.2.2.2.2.2.2.2.2.2.2.1) (And.intro (cellB hb9 HC1.out.2.2.2.2.2.2.2.2.2.2.2.2.2.1) (And.intro (cellB hb9 HC1.out.2.2.2.2.2.2.2.2.2.2.2.2.2.2.1) (And.intro (cellB hb9 HC1.out.2.2.2.2.2.2.2.2.2.2.2.2.2.2.2.1) (And.intro (cellB hb9 HC1.out.2.2.2.2.2.2.2.2.2.2.2.2.2.2.2.2.1) (And.intro (cellB hb9 HC1.out.2.2.2.2.2.2.2.2.2.2.2.2.2.2.2.2.2.1) (And.intro (cellB hb9 HC1.out.2.2.2.2.2.2.2.2.2.2.2.2.2.2.2.2.2.2.1) (And.intro (cellB hb9 HC1.out.2.2.2.2.2.2.2.2.2.2.2.2.2.2.2.2.2.2.2.1) (And.intro (cellB hb9 HC1.out.2.2.2.2.2.2.2.2.2.2.2.2.2.2.2.2.2.2.2.2.1) (cellB hb9 HC1.out.2.2.2.2.2.2.2.2.2.2.2.2.2.2.2.2.2.2.2.2.2))))))))))))))))))))))
                go_wp2_with fail
                clear hHeld
                refine hK.out _ _ (by first | exact hcs9 | (dsimp only; exact hcs9)) (fun hHeld => ?_)
                clear hK K
                try simp only [Act.put, List.getElem_toArray, List.getElem_cons_zero, List.getElem_cons_succ, List.setIfInBounds_toArray, List.set_cons_zero, List.set_cons_succ]
                refine wpAnyH_take (i := 15) (v := ?_) rfl (by kernel_rfl) (by kernel_rfl) (by kernel_rfl) (fun _ _ _ h => h) (Or.inl ⟨by rfl, ?_⟩) hHeld ?_
                rotate_left
                · intro w' hSw; (try dsimp only at hSw); go_simp; first | done | with_reducible rfl | rfl
                try simp only [Act.put, List.getElem_toArray, List.getElem_cons_zero, List.getElem_cons_succ, List.setIfInBounds_toArray, List.set_cons_zero, List.set_cons_succ]
                refine wpAnyH_take (i := 16) (v := ?_) rfl (by kernel_rfl) (by kernel_rfl) (by kernel_rfl) (fun _ _ _ h => h) (Or.inl ⟨by rfl, ?_⟩) hHeld ?_
                rotate_left
                · intro w' hSw; (try dsimp only at hSw); go_simp; first | done | with_reducible rfl | rfl
                try simp only [Act.put, List.getElem_toArray, List.getElem_cons_zero, List.getElem_cons_succ, List.setIfInBounds_toArray, List.set_cons_zero, List.set_cons_succ]
                refine wpAnyH_take (i := 17) (v := ?_) rfl (by kernel_rfl) (by kernel_rfl) (by kernel_rfl) (fun _ _ _ h => h) (Or.inl ⟨by rfl, ?_⟩) hHeld ?_
                rotate_left
                · intro w' hSw; (try dsimp only at hSw); go_simp; first | done | with_reducible rfl | rfl
                try simp only [Act.put, List.getElem_toArray, List.getElem_cons_zero, List.getElem_cons_succ, List.setIfInBounds_toArray, List.set_cons_zero, List.set_cons_succ]
                refine wpAnyH_take (i := 18) (v := ?_) rfl (by kernel_rfl) (by kernel_rfl) (by kernel_rfl) (fun _ _ _ h => h) (Or.inl ⟨by rfl, ?_⟩) hHeld ?_
                rotate_left
                · intro w' hSw; (try dsimp only at hSw); go_simp; first | done | with_reducible rfl | rfl
                try simp only [Act.put, List.getElem_toArray, List.getElem_cons_zero, List.getElem_cons_succ, List.setIfInBounds_toArray, List.set_cons_zero, List.set_cons_succ]
                refine wpAnyH_take (i := 19) (v := ?_) rfl (by kernel_rfl) (by kernel_rfl) (by kernel_rfl) (fun _ _ _ h => h) (Or.inl ⟨by rfl, ?_⟩) hHeld ?_
                rotate_left
                · intro w' hSw; (try dsimp only at hSw); go_simp; first | done | with_reducible rfl | rfl
                try simp only [Act.put, List.getElem_toArray, List.getElem_cons_zero, List.getElem_cons_succ, List.setIfInBounds_toArray, List.set_cons_zero, List.set_cons_succ]
                refine wpAnyH_take (i := 20) (v := ?_) rfl (by kernel_rfl) (by kernel_rfl) (by kernel_rfl) (fun _ _ _ h => h) (Or.inl ⟨by rfl, ?_⟩) hHeld ?_
                rotate_left
                · intro w' hSw; (try dsimp only at hSw); go_simp; first | done | with_reducible rfl | rfl
                try simp only [Act.put, List.getElem_toArray, List.getElem_cons_zero, List.getElem_cons_succ, List.setIfInBounds_toArray, List.set_cons_zero, List.set_cons_succ]
                refine wpAnyH_take (i := 21) (v := ?_) rfl (by kernel_rfl) (by kernel_rfl) (by kernel_rfl) (fun _ _ _ h => h) (Or.inl ⟨by rfl, ?_⟩) hHeld ?_
                rotate_left
                · intro w' hSw; (try dsimp only at hSw); go_simp; first | done | with_reducible rfl | rfl
                try simp only [Act.put, List.getElem_toArray, List.getElem_cons_zero, List.getElem_cons_succ, List.setIfInBounds_toArray, List.set_cons_zero, List.set_cons_succ]
                refine wpAnyH_take (i := 22) (v := undef) rfl (by kernel_rfl) (by kernel_rfl) (by kernel_rfl) (fun _ _ _ h => h) (Or.inr ⟨by rfl, rfl⟩) hHeld ?_
                try simp only [Act.put, List.getElem_toArray, List.getElem_cons_zero, List.getElem_cons_succ, List.setIfInBounds_toArray, List.set_cons_zero, List.set_cons_succ]
                refine wpAnyH_take (i := 23) (v := undef) rfl (by kernel_rfl) (by kernel_rfl) (by kernel_rfl) (fun _ _ _ h => h) (Or.inr ⟨by rfl, rfl⟩) hHeld ?_
                try simp only [Act.put, List.getElem_toArray, List.getElem_cons_zero, List.getElem_cons_succ, List.setIfInBounds_toArray, List.set_cons_zero, List.set_cons_succ]
                refine wpAnyH_take (i := 24) (v := undef) rfl (by kernel_rfl) (by kernel_rfl) (by kernel_rfl) (fun _ _ _ h => h) (Or.inr ⟨by rfl, rfl⟩) hHeld ?_
                try simp only [Act.put, List.getElem_toArray, List.getElem_cons_zero, List.getElem_cons_succ, List.setIfInBounds_toArray, List.set_cons_zero, List.set_cons_succ]
                refine wpAnyH_take (i := 25) (v := undef) rfl (by kernel_rfl) (by kernel_rfl) (by kernel_rfl) (fun _ _ _ h => h) (Or.inr ⟨by rfl, rfl⟩) hHeld ?_
                try simp only [Act.put, List.getElem_toArray, List.getElem_cons_zero, List.getElem_cons_succ, List.setIfInBounds_toArray, List.set_cons_zero, List.set_cons_succ]
                refine wpAnyH_take (i := 26) (v := ?_) rfl (by kernel_rfl) (by kernel_rfl) (by kernel_rfl) (fun _ _ _ h => h) (Or.inl ⟨by rfl, ?_⟩) hHeld ?_
                rotate_left
                · intro w' hSw; (try dsimp only at hSw); go_simp; first | done | with_reducible rfl | rfl
                try simp only [Act.put, List.getElem_toArray, List.getElem_cons_zero, List.getElem_cons_succ, List.setIfInBounds_toArray, List.set_cons_zero, List.set_cons_succ]
                refine wpAnyH_take (i := 27) (v := ?_) rfl (by kernel_rfl) (by kernel_rfl) (by kernel_rfl) (fun _ _ _ h => h) (Or.inl ⟨by rfl, ?_⟩) hHeld ?_
                rotate_left
                · intro w' hSw; (try dsimp only at hSw); go_simp; first | done | with_reducible rfl | rfl
                try simp only [Act.put, List.getElem_toArray, List.getElem_cons_zero, List.getElem_cons_succ, List.setIfInBounds_toArray, List.set_cons_zero, List.set_cons_succ]
                refine wpAnyH_done (by kernel_rfl) ?_ _
                have HQ9 : Hid (NR w w9 nb rb v7 (.slice (some ⟨gg, 0, none⟩) q.length rc) all all (valQ (dropI q (i : Int))) q) := Lib.hid ((HQ8.out.later (Below.refl _ _).drew).later hb9)
                have hz9 := block_kept HZ8.out (block_lt HZ8.out) ((Below.refl _ _).drew.trans hb9)
                clear hr hb9 KS hcs9 HC0 HC1 HQ8 HZ8
                have x1 : w9.cell? ⟨wr.heap.size, 1, none⟩ = some (.int .i64 (i : Int)) := by unfold World.cell?; rw [hz9]; rfl
                have t0 : w9.cell? ⟨rb, 0, none⟩ = some (.slice (some ⟨gg, 0, none⟩) q.length rc) := by unfold World.cell?; rw [HQ9.out.var]; rfl
                have t1 : w9.cell? ⟨rb, 1, none⟩ = some (.int .u64 (all : Int)) := by unfold World.cell?; rw [HQ9.out.var]; rfl
                have KR := Lib.hid (rdrop_prog w9 (.slice (some ⟨gg, 0, none⟩) q.length rc) q all (ownN_base HQ9.out.row (fun _ _ => Nat.zero_le _)) HQ9.out.ents' (by have := HL.out.2.1; omega) (i : Int))

                go_wp2_with fail
                refine KR.out.mono ?_
                rintro e wE ⟨rv9, rfl, hr9, hb9⟩
                obtain ⟨ra9, rc9, rfl⟩ := hr9.shape
                have hv9 := (hb9.block _ (block_lt HQ9.out.var)).trans HQ9.out.var
                have p0 : wE.cell? ⟨rb, 0, none⟩ = some (.slice (some ⟨gg, 0, none⟩) q.length rc) := by unfold World.cell?; rw [hv9]; rfl
                have p1 : wE.cell? ⟨rb, 1, none⟩ = some (.int .u64 (all : Int)) := by unfold World.cell?; rw [hv9]; rfl
                have f0 : wE.frozen? ⟨rb, 0, none⟩ = false := by simp [World.frozen?, hv9]
                have f1 : wE.frozen? ⟨rb, 1, none⟩ = false := by simp [World.frozen?, hv9]
                obtain ⟨Q9, hQ9⟩ : ∃ Q9, Q9 = dropI q (i : Int) := ⟨_, rfl⟩
                have HE9 : Hid (Q9.length ≤ q.length ∧ (∀ x ∈ Q9, SmallP x.2.1) ∧ REnt w Q9) := Lib.hid ⟨by rw [hQ9]; exact dropI_len q (i : Int), fun x hx => HL.out.2.2 x (dropI_mem (by rw [← hQ9]; exact hx)), by rw [hQ9]; exact HQ9.out.ents.drop (i : Int)⟩
                rw [← hQ9] at hr9 HQ9 ⊢
                obtain ⟨W10, hW10⟩ : ∃ W10, W10 = (wE.setCell ⟨rb, 0, none⟩ (.slice ra9 Q9.length rc9)).setCell ⟨rb, 1, none⟩ (.int .u64 (all : Int)) := ⟨_, rfl⟩
                have HQ10 : Hid (NR w W10 nb rb v7 (.slice ra9 Q9.length rc9) all all (valQ Q9) Q9) := Lib.hid (by rw [hW10]; exact HQ9.out.set hb9 hr9 HE9.out.2.2)
                have u0 : W10.cell? ⟨rb, 0, none⟩ = some (.slice ra9 Q9.length rc9) := by unfold World.cell?; rw [HQ10.out.var]; rfl
                have KL : Hid (∀ n, Calls Try.prog 19 #[.pointer (some ⟨nb, 0, none⟩)] (W10.drewN n) fun e w' => e = .returned (.int .i64 (Q9.length : Int)) ∧ W10.drewN n = w') := Lib.hid (fun n => by
                  have := len_prog (HQ10.out.later ((Same.of W10 n).below _)).nw
                  rwa [valQ_len] at this)
                have HL10 : Hid (all ≤ k + 1 ∧ Q9.length ≤ k + 1 ∧ ∀ x ∈ Q9, SmallP x.2.1) := Lib.hid ⟨Nat.le_succ_of_le HL.out.1, by have := HL.out.2.1; have := HE9.out.1; omega, HE9.out.2.1⟩
                clear KR hr9 hb9 hv9 hQ9 y0 y1 x1 s0 s1 t0 t1
                go_wp2_with fail
                simp only [← hW10]
                clear hW10 p0 p1 f0 f1
                go_quiet ((go_at_call 19; exact quietE (KL.out _)))
                go_wp2_with fail
                go_roundw
                case rel => exact ⟨k + 1, v7, _, all, Q9, by omega, by go_num, Lib.hid (HQ10.out.later ((Same.of _ _).below _)), HL10⟩
                case measure => simp [intOf]; omega
            · by_cases e2 : what = 2
              · cases has with
                | false =>
                  have hN : ¬ (0 ≤ N ∧ N < (q.length : Int)) := fun e => by
                    have := HHAS.out
                    rw [decide_eq_true e.1, decide_eq_true e.2] at this
                    cases this
                  have KT := Lib.hid (twice_no HQ6.out.nw N (by rw [valQ_len]; exact hN))
                  obtain ⟨W9, hW9⟩ : ∃ x, x = w6 := ⟨_, rfl⟩
                  subst hW9
                  have KL : Hid (∀ n, Calls Try.prog 19 #[.pointer (some ⟨nb, 0, none⟩)] (W9.drewN n) fun e w' => e = .returned (.int .i64 (q.length : Int)) ∧ W9.drewN n = w') := Lib.hid (fun n => by
                    have := len_prog (HQ6.out.later ((Same.of W9 n).below _)).nw
                    rwa [valQ_len] at this)
                  have HLW : Hid (all ≤ k + 1 ∧ q.length ≤ k + 1 ∧ ∀ x ∈ q, SmallP x.2.1) := Lib.hid ⟨Nat.le_succ_of_le HL.out.1, Nat.le_succ_of_le HL.out.2.1, HL.out.2.2⟩
                  clear hz6 hN
                  go_wp2_with fail
                  refine KT.out.mono ?_
                  rintro e w8 ⟨rfl, rfl⟩
                  clear KT
                  go_wp2_with fail
                  go_quiet ((go_at_call 19; exact quietE (KL.out _)))
                  go_wp2_with fail
                  go_roundw
                  case rel => exact ⟨k + 1, v, _, all, q, by omega, by go_num, Lib.hid (HQ6.out.later ((Same.of _ _).below _)), HLW⟩
                  case measure => simp [intOf]; omega
                | true =>
                  have hN : 0 ≤ N ∧ N < (q.length : Int) := by
                    have := HHAS.out
                    rw [Bool.and_eq_true, decide_eq_true_eq, decide_eq_true_eq] at this
                    exact this
                  obtain ⟨i, rfl⟩ : ∃ i : Nat, N = (i : Int) := ⟨N.toNat, by omega⟩
                  have hiI : (i : Int) < (q.length : Int) := hN.2
                  have hi0 : (0 : Int) ≤ (i : Int) := hN.1
                  obtain ⟨⟨num, mm, evm⟩, hx⟩ : ∃ x, q[i]? = some x := ⟨_, List.getElem?_eq_getElem (by omega)⟩
                  have HX := Lib.hid hx
                  have HSX : Hid (SmallP mm) := Lib.hid (HL.out.2.2 _ (List.mem_of_getElem? hx))
                  have hEX : ESl w evm mm.ents := HQ6.out.ents _ (List.mem_of_getElem? hx)
                  obtain ⟨eb, ed, rfl, _, _⟩ := id hEX
                  have HEX := Lib.hid hEX
                  clear hN hEX hx
                  have KT := Lib.hid (twice_yes HQ6.out.nw i num mm (valQ_get HX.out) (by have := HL.out.1; omega) (by rw [valQ_len]; have := HL.out.2.1; omega))
                  clear hz6
                  go_wp2_with fail
                  refine KT.out.mono ?_
                  rintro e w8a ⟨rfl, v8, hn8, hc8⟩
                  have hz8 := (hc8.msgs HQ6.out.nw _ _ _ HZ6.out (by decide) (by decide)).trans HZ6.out
                  have hq8 : NR w w8a nb rb v8 (.slice ra q.length rc) (all + 1) all (valQ q ++ [(all + 1, mm)]) q := HQ6.out.net hn8 hc8
                  obtain ⟨gg, cc, e2, hg, hcs⟩ := hq8.row.get HX.out
                  injection e2 with e2 e3 e4
                  subst e2
                  clear e3 e4
                  have x0 : w8a.cell? ⟨gg, i * 11 + 1, none⟩ = some (.int .i64 mm.kind) := hcs 1 _ rfl
                  have x1 : w8a.cell? ⟨gg, i * 11 + 2, none⟩ = some (.int .i64 mm.src) := hcs 2 _ rfl
                  have x2 : w8a.cell? ⟨gg, i * 11 + 3, none⟩ = some (.int .i64 mm.dst) := hcs 3 _ rfl
                  have x3 : w8a.cell? ⟨gg, i * 11 + 4, none⟩ = some (.int .u64 (mm.term : Int)) := hcs 4 _ rfl
                  have x4 : w8a.cell? ⟨gg, i * 11 + 5, none⟩ = some (.int .u64 (mm.index : Int)) := hcs 5 _ rfl
                  have x5 : w8a.cell? ⟨gg, i * 11 + 6, none⟩ = some (.int .u64 (mm.lterm : Int)) := hcs 6 _ rfl
                  have x6 : w8a.cell? ⟨gg, i * 11 + 7, none⟩ = some (.int .u64 (mm.commit : Int)) := hcs 7 _ rfl
                  have x7 : w8a.cell? ⟨gg, i * 11 + 8, none⟩ = some (.bool mm.ok) := hcs 8 _ rfl
                  have x8 : w8a.cell? ⟨gg, i * 11 + 9, none⟩ = some (.slice eb mm.ents.length ed) := hcs 9 _ rfl
                  have x9 : w8a.cell? ⟨gg, i * 11 + 10, none⟩ = some (.string mm.state) := hcs 10 _ rfl
                  have xN : w8a.cell? ⟨wr.heap.size, 1, none⟩ = some (.int .i64 (i : Int)) := by unfold World.cell?; rw [hz8]; rfl
                  have t0 : w8a.cell? ⟨rb, 0, none⟩ = some (.slice (some ⟨gg, 0, none⟩) q.length rc) := by unfold World.cell?; rw [hq8.var]; rfl
                  have t1 : w8a.cell? ⟨rb, 1, none⟩ = some (.int .u64 (all : Int)) := by unfold World.cell?; rw [hq8.var]; rfl
                  obtain ⟨w8, hw8⟩ : ∃ w8, w8 = w8a.drew := ⟨_, rfl⟩
                  have HQ8 : Hid (NR w w8 nb rb v8 (.slice (some ⟨gg, 0, none⟩) q.length rc) (all + 1) all (valQ q ++ [(all + 1, mm)]) q) := Lib.hid (by rw [hw8]; exact hq8.later (Below.refl _ _).drew)
                  have KR := Lib.hid (rput_prog w8 (.slice (some ⟨gg, 0, none⟩) q.length rc) q all mm (.slice eb mm.ents.length ed) (ownN_base HQ8.out.row (fun _ _ => Nat.zero_le _)) HQ8.out.ents' (HEX.out.later HQ8.out.below) (by have := HL.out.2.1; omega) (by have := HL.out.1; omega))
                  unfold mgL at KR
                  clear KT hn8 hc8 hz8 HQ6 HZ6 hcs hg hq8
                  go_wp2_with fail
                  go_still_tail 8, (by kernel_rfl)
                  go_wp2_with fail
                  rw [← hw8]
                  clear hw8 x0 x1 x2 x3 x4 x5 x6 x7 x8 x9 xN t0 t1
                  refine KR.out.mono ?_
                  rintro e w9 ⟨rv9, rfl, hr9, hb9⟩
                  have hr9' := hr9
                  obtain ⟨ra9, rc9, rfl⟩ := hr9.shape
                  have hv9 := (hb9.block _ (block_lt HQ8.out.var)).trans HQ8.out.var
                  have p0 : w9.cell? ⟨rb, 0, none⟩ = some (.slice (some ⟨gg, 0, none⟩) q.length rc) := by unfold World.cell?; rw [hv9]; rfl
                  have p1 : w9.cell? ⟨rb, 1, none⟩ = some (.int .u64 (all : Int)) := by unfold World.cell?; rw [hv9]; rfl
                  have f0 : w9.frozen? ⟨rb, 0, none⟩ = false := by simp [World.frozen?, hv9]
                  have f1 : w9.frozen? ⟨rb, 1, none⟩ = false := by simp [World.frozen?, hv9]
                  obtain ⟨Q9, hQ9⟩ : ∃ Q9, Q9 = q ++ [(all + 1, mm, Value.slice eb mm.ents.length ed)] := ⟨_, rfl⟩
                  have HE9 : Hid (valQ q ++ [(all + 1, mm)] = valQ Q9 ∧ Q9.length = q.length + 1 ∧ (∀ x ∈ Q9, SmallP x.2.1) ∧ REnt w Q9) := Lib.hid ⟨by rw [hQ9, valQ_snoc], by rw [hQ9]; simp, fun x hx => by
                    rw [hQ9] at hx
                    rcases List.mem_append.1 hx with h1 | h1
                    · exact HL.out.2.2 x h1
                    · obtain rfl : x = (all + 1, mm, Value.slice eb mm.ents.length ed) := by simpa using h1
                      exact HSX.out, by rw [hQ9]; exact REnt.snoc HQ8.out.ents HEX.out⟩
                  rw [← hQ9] at hr9 ⊢
                  obtain ⟨W10, hW10⟩ : ∃ W10, W10 = (w9.setCell ⟨rb, 0, none⟩ (.slice ra9 Q9.length rc9)).setCell ⟨rb, 1, none⟩ (.int .u64 ((all : Int) + 1)) := ⟨_, rfl⟩
                  have HQ10 : Hid (NR w W10 nb rb v8 (.slice ra9 Q9.length rc9) (all + 1) (all + 1) (valQ Q9) Q9) := Lib.hid (by rw [hW10, ← HE9.out.1]; exact HQ8.out.set hb9 hr9 HE9.out.2.2.2)
                  have u0 : W10.cell? ⟨rb, 0, none⟩ = some (.slice ra9 Q9.length rc9) := by unfold World.cell?; rw [HQ10.out.var]; rfl
                  have KL : Hid (∀ n, Calls Try.prog 19 #[.pointer (some ⟨nb, 0, none⟩)] (W10.drewN n) fun e w' => e = .returned (.int .i64 (Q9.length : Int)) ∧ W10.drewN n = w') := Lib.hid (fun n => by
                    have := len_prog (HQ10.out.later ((Same.of W10 n).below _)).nw
                    rwa [valQ_len] at this)
                  have HL10 : Hid (all + 1 ≤ k + 1 ∧ Q9.length ≤ k + 1 ∧ ∀ x ∈ Q9, SmallP x.2.1) := Lib.hid ⟨Nat.succ_le_succ HL.out.1, by have := HL.out.2.1; have := HE9.out.2.1; omega, HE9.out.2.2.1⟩
                  clear KR hr9 hr9' hb9 hv9 hQ9 y0 y1 s0 s1
                  go_wp2_with fail
                  simp only [← hW10]
                  clear hW10 p0 p1 f0 f1
                  go_quiet ((go_at_call 19; exact quietE (KL.out _)))
                  go_wp2_with fail
                  go_roundw
                  case rel => exact ⟨k + 1, v8, _, all + 1, Q9, by omega, by go_num, Lib.hid (HQ10.out.later ((Same.of _ _).below _)), HL10⟩
                  case measure => simp [intOf]; omega
              · by_cases e3 : what = 3
                · have KD := Lib.hid (drop_any HQ6.out.nw (by have := HL.out.2.1; omega) N)
                  rw [HHAS.out] at KD
                  clear hz6
                  go_wp2_with fail
                  refine KD.out.mono ?_
                  rintro e w8 ⟨rfl, v8, hn8, hc8⟩
                  have HQ8 : Hid (NR w w8 nb rb v8 (.slice ra q.length rc) all all (valQ (dropI q N)) q) := Lib.hid (HQ6.out.net hn8 hc8)
                  have hz8 := (hc8.msgs HQ6.out.nw _ _ _ HZ6.out (by decide) (by decide)).trans HZ6.out
                  have x1 : w8.cell? ⟨wr.heap.size, 1, none⟩ = some (.int .i64 N) := by unfold World.cell?; rw [hz8]; rfl
                  have t0 : w8.cell? ⟨rb, 0, none⟩ = some (.slice ra q.length rc) := by unfold World.cell?; rw [HQ8.out.var]; rfl
                  have t1 : w8.cell? ⟨rb, 1, none⟩ = some (.int .u64 (all : Int)) := by unfold World.cell?; rw [HQ8.out.var]; rfl
                  have KR := Lib.hid (rdrop_prog w8 (.slice ra q.length rc) q all (ownN_base HQ8.out.row (fun _ _ => Nat.zero_le _)) HQ8.out.ents' (by have := HL.out.2.1; omega) N)
                  clear KD hn8 hc8 hz8 HQ6 HZ6
                  go_wp2_with fail
                  refine KR.out.mono ?_
                  rintro e w9 ⟨rv9, rfl, hr9, hb9⟩
                  obtain ⟨ra9, rc9, rfl⟩ := hr9.shape
                  have hv9 := (hb9.block _ (block_lt HQ8.out.var)).trans HQ8.out.var
                  have p0 : w9.cell? ⟨rb, 0, none⟩ = some (.slice ra q.length rc) := by unfold World.cell?; rw [hv9]; rfl
                  have p1 : w9.cell? ⟨rb, 1, none⟩ = some (.int .u64 (all : Int)) := by unfold World.cell?; rw [hv9]; rfl
                  have f0 : w9.frozen? ⟨rb, 0, none⟩ = false := by simp [World.frozen?, hv9]
                  have f1 : w9.frozen? ⟨rb, 1, none⟩ = false := by simp [World.frozen?, hv9]
                  obtain ⟨Q9, hQ9⟩ : ∃ Q9, Q9 = dropI q N := ⟨_, rfl⟩
                  have HE9 : Hid (Q9.length ≤ q.length ∧ (∀ x ∈ Q9, SmallP x.2.1) ∧ REnt w Q9) := Lib.hid ⟨by rw [hQ9]; exact dropI_len q N, fun x hx => HL.out.2.2 x (dropI_mem (by rw [← hQ9]; exact hx)), by rw [hQ9]; exact HQ8.out.ents.drop N⟩
                  rw [← hQ9] at hr9 HQ8 ⊢
                  obtain ⟨W10, hW10⟩ : ∃ W10, W10 = (w9.setCell ⟨rb, 0, none⟩ (.slice ra9 Q9.length rc9)).setCell ⟨rb, 1, none⟩ (.int .u64 (all : Int)) := ⟨_, rfl⟩
                  have HQ10 : Hid (NR w W10 nb rb v8 (.slice ra9 Q9.length rc9) all all (valQ Q9) Q9) := Lib.hid (by rw [hW10]; exact HQ8.out.set hb9 hr9 HE9.out.2.2)
                  have u0 : W10.cell? ⟨rb, 0, none⟩ = some (.slice ra9 Q9.length rc9) := by unfold World.cell?; rw [HQ10.out.var]; rfl
                  have KL : Hid (∀ n, Calls Try.prog 19 #[.pointer (some ⟨nb, 0, none⟩)] (W10.drewN n) fun e w' => e = .returned (.int .i64 (Q9.length : Int)) ∧ W10.drewN n = w') := Lib.hid (fun n => by
                    have := len_prog (HQ10.out.later ((Same.of W10 n).below _)).nw
                    rwa [valQ_len] at this)
                  have HL10 : Hid (all ≤ k + 1 ∧ Q9.length ≤ k + 1 ∧ ∀ x ∈ Q9, SmallP x.2.1) := Lib.hid ⟨Nat.le_succ_of_le HL.out.1, by have := HL.out.2.1; have := HE9.out.1; omega, HE9.out.2.1⟩
                  clear KR hr9 hb9 hv9 hQ9 y0 y1 x1 s0 s1 t0 t1
                  go_wp2_with fail
                  simp only [← hW10]
                  clear hW10 p0 p1 f0 f1
                  go_quiet ((go_at_call 19; exact quietE (KL.out _)))
                  go_wp2_with fail
                  go_roundw
                  case rel => exact ⟨k + 1, v8, _, all, Q9, by omega, by go_num, Lib.hid (HQ10.out.later ((Same.of _ _).below _)), HL10⟩
                  case measure => simp [intOf]; omega
                · by_cases e4 : what = 4
                  · cases has with
                    | false =>
                      have hN : ¬ (0 ≤ N ∧ N < (q.length : Int)) := fun e => by
                        have := HHAS.out
                        rw [decide_eq_true e.1, decide_eq_true e.2] at this
                        cases this
                      have KA := Lib.hid (at_no HQ6.out.nw N (by rw [valQ_len]; exact hN))
                      have eN : (mgL mgNil (.slice none 0 0)).toArray = #[.int .i64 0, .int .i64 0, .int .i64 0, .int .u64 0, .int .u64 0, .int .u64 0, .int .u64 0, .bool false, .slice none 0 0, .string ⟨#[]⟩] := rfl
                      rw [eN] at KA
                      clear eN hz6 hN
                      go_wp2_with fail
                      refine KA.out.mono ?_
                      rintro e w8 ⟨rfl, hb8⟩
                      obtain ⟨W9, hW9⟩ : ∃ W9, W9 = w8.alloc (.cells #[.int .i64 0, .int .i64 0, .int .i64 0, .int .u64 0, .int .u64 0, .int .u64 0, .int .u64 0, .bool false, .slice none 0 0, .string ⟨#[]⟩] 32) := ⟨_, rfl⟩
                      have HQ9 : Hid (NR w W9 nb rb v (.slice ra q.length rc) all all (valQ q) q) := Lib.hid (by rw [hW9]; exact (HQ6.out.later hb8).later ((Below.refl _ _).alloc (Nat.le_refl _) _))
                      have v0 : W9.cell? ⟨rb, 0, none⟩ = some (.slice ra q.length rc) := by unfold World.cell?; rw [HQ9.out.var]; rfl
                      have KL : Hid (∀ n, Calls Try.prog 19 #[.pointer (some ⟨nb, 0, none⟩)] (W9.drewN n) fun e w' => e = .returned (.int .i64 (q.length : Int)) ∧ W9.drewN n = w') := Lib.hid (fun n => by
                        have := len_prog (HQ9.out.later ((Same.of W9 n).below _)).nw
                        rwa [valQ_len] at this)
                      have HLW : Hid (all ≤ k + 1 ∧ q.length ≤ k + 1 ∧ ∀ x ∈ q, SmallP x.2.1) := Lib.hid ⟨Nat.le_succ_of_le HL.out.1, Nat.le_succ_of_le HL.out.2.1, HL.out.2.2⟩
                      clear KA hb8
                      go_wp2_with fail
                      simp only [← hW9]
                      clear hW9
                      go_quiet (fail)
                      have HQB : Hid (NR w (W9.drewN nq) nb rb v (.slice ra q.length rc) all all (valQ q) q) := Lib.hid (HQ9.out.later ((Same.of W9 nq).below _))
                      clear v0 KL HQ9
                      obtain ⟨WB, hWB⟩ : ∃ WB, WB = W9.drewN nq := ⟨_, rfl⟩
                      rw [← hWB] at HQB ⊢
                      clear hWB
                      have v1 : WB.cell? ⟨rb, 0, none⟩ = some (.slice ra q.length rc) := by unfold World.cell?; rw [HQB.out.var]; rfl
                      have KL : Hid (∀ n, Calls Try.prog 19 #[.pointer (some ⟨nb, 0, none⟩)] (WB.drewN n) fun e w' => e = .returned (.int .i64 (q.length : Int)) ∧ WB.drewN n = w') := Lib.hid (fun n => by
                        have := len_prog (HQB.out.later ((Same.of WB n).below _)).nw
                        rwa [valQ_len] at this)
                      go_wp2_with fail
                      go_quiet ((go_at_call 19; exact quietE (KL.out _)))
                      go_wp2_with fail
                      go_roundw
                      case rel => exact ⟨k + 1, v, _, all, q, by omega, by go_num, Lib.hid (HQB.out.later ((Same.of _ _).below _)), HLW⟩
                      case measure => simp [intOf]; omega
                    | true =>
                      have hN : 0 ≤ N ∧ N < (q.length : Int) := by
                        have := HHAS.out
                        rw [Bool.and_eq_true, decide_eq_true_eq, decide_eq_true_eq] at this
                        exact this
                      obtain ⟨i, rfl⟩ : ∃ i : Nat, N = (i : Int) := ⟨N.toNat, by omega⟩
                      have hiI : (i : Int) < (q.length : Int) := hN.2
                      have hi0 : (0 : Int) ≤ (i : Int) := hN.1
                      obtain ⟨⟨num, mm, evm⟩, hx⟩ : ∃ x, q[i]? = some x := ⟨_, List.getElem?_eq_getElem (by omega)⟩
                      have HX := Lib.hid hx
                      have HSX : Hid (SmallP mm) := Lib.hid (HL.out.2.2 _ (List.mem_of_getElem? hx))
                      have hEX : ESl w evm mm.ents := HQ6.out.ents _ (List.mem_of_getElem? hx)
                      obtain ⟨eb, ed, rfl, _, _⟩ := id hEX
                      have HEX := Lib.hid hEX
                      clear hN hEX hx
                      have KA := Lib.hid (at_yes HQ6.out.nw i num mm (valQ_get HX.out) (by have := HSX.out.1; omega))
                      unfold mgL at KA
                      clear hz6
                      go_wp2_with fail
                      refine KA.out.mono ?_
                      rintro e w7 ⟨evx, rfl, ho7, hb7⟩
                      obtain ⟨rx, ry, rfl, _⟩ := ho7.shape
                      obtain ⟨W8, hW8⟩ : ∃ W8, W8 = w7.alloc (.cells #[.int .i64 mm.kind, .int .i64 mm.src, .int .i64 mm.dst, .int .u64 (mm.term : Int), .int .u64 (mm.index : Int), .int .u64 (mm.lterm : Int), .int .u64 (mm.commit : Int), .bool mm.ok, .slice rx mm.ents.length ry, .string mm.state] 32) := ⟨_, rfl⟩
                      have hb8 : Below w6.heap.size w6 W8 := by rw [hW8]; exact hb7.alloc hb7.size _
                      have hz8 := block_kept HZ6.out (block_lt HZ6.out) hb8
                      have HQ8 := Lib.hid (HQ6.out.later hb8)
                      have hm8 : W8.heap[w7.heap.size]? = some (.cells #[.int .i64 mm.kind, .int .i64 mm.src, .int .i64 mm.dst, .int .u64 (mm.term : Int), .int .u64 (mm.index : Int), .int .u64 (mm.lterm : Int), .int .u64 (mm.commit : Int), .bool mm.ok, .slice rx mm.ents.length ry, .string mm.state] 32 (0, 0)) := by rw [hW8]; exact heap_alloc_new _ _
                      have hE8 : ESl W8 (.slice rx mm.ents.length ry) mm.ents := by rw [hW8]; exact (EOwn.sl ho7).later ((Below.refl _ _).alloc (Nat.le_refl _) _)
                      have KS := Lib.hid (same_prog mm mm (.slice rx mm.ents.length ry) (.slice eb mm.ents.length ed) W8.drew (hE8.later (Below.refl _ _).drew) (HEX.out.later (HQ8.out.below.drew)) (by have := HSX.out.1; omega))
                      unfold mgL at KS
                      obtain ⟨q0, q1, q2, q3, q4, q5, q6, q7, q8, q9⟩ := cells10 hm8
                      obtain ⟨gg, cc, e2, hg, hcs⟩ := HQ8.out.row.get HX.out
                      injection e2 with e2 e3 e4
                      subst e2
                      clear e3 e4
                      have xO : W8.cell? ⟨gg, i * 11, none⟩ = some (.int .u64 (num : Int)) := hcs 0 _ rfl
                      have x0 : W8.cell? ⟨gg, i * 11 + 1, none⟩ = some (.int .i64 mm.kind) := hcs 1 _ rfl
                      have x1 : W8.cell? ⟨gg, i * 11 + 2, none⟩ = some (.int .i64 mm.src) := hcs 2 _ rfl
                      have x2 : W8.cell? ⟨gg, i * 11 + 3, none⟩ = some (.int .i64 mm.dst) := hcs 3 _ rfl
                      have x3 : W8.cell? ⟨gg, i * 11 + 4, none⟩ = some (.int .u64 (mm.term : Int)) := hcs 4 _ rfl
                      have x4 : W8.cell? ⟨gg, i * 11 + 5, none⟩ = some (.int .u64 (mm.index : Int)) := hcs 5 _ rfl
                      have x5 : W8.cell? ⟨gg, i * 11 + 6, none⟩ = some (.int .u64 (mm.lterm : Int)) := hcs 6 _ rfl
                      have x6 : W8.cell? ⟨gg, i * 11 + 7, none⟩ = some (.int .u64 (mm.commit : Int)) := hcs 7 _ rfl
                      have x7 : W8.cell? ⟨gg, i * 11 + 8, none⟩ = some (.bool mm.ok) := hcs 8 _ rfl
                      have x8 : W8.cell? ⟨gg, i * 11 + 9, none⟩ = some (.slice eb mm.ents.length ed) := hcs 9 _ rfl
                      have x9 : W8.cell? ⟨gg, i * 11 + 10, none⟩ = some (.string mm.state) := hcs 10 _ rfl
                      have xN : W8.cell? ⟨wr.heap.size, 1, none⟩ = some (.int .i64 (i : Int)) := by unfold World.cell?; rw [hz8]; rfl
                      have v0 : W8.cell? ⟨rb, 0, none⟩ = some (.slice (some ⟨gg, 0, none⟩) q.length rc) := by unfold World.cell?; rw [HQ8.out.var]; rfl
                      have HC0 : Hid (W8.cell? ⟨rb, 0, none⟩ = some (.slice (some ⟨gg, 0, none⟩) q.length rc) ∧ W8.cell? ⟨wr.heap.size, 1, none⟩ = some (.int .i64 (i : Int)) ∧ W8.cell? ⟨gg, i * 11, none⟩ = some (.int .u64 (num : Int)) ∧ W8.cell? ⟨gg, i * 11 + 1, none⟩ = some (.int .i64 mm.kind) ∧ W8.cell? ⟨gg, i * 11 + 2, none⟩ = some (.int .i64 mm.src) ∧ W8.cell? ⟨gg, i * 11 + 3, none⟩ = some (.int .i64 mm.dst) ∧ W8.cell? ⟨gg, i * 11 + 4, none⟩ = some (.int .u64 (mm.term : Int)) ∧ W8.cell? ⟨gg, i * 11 + 5, none⟩ = some (.int .u64 (mm.index : Int)) ∧ W8.cell? ⟨gg, i * 11 + 6, none⟩ = some (.int .u64 (mm.lterm : Int)) ∧ W8.cell? ⟨gg, i * 11 + 7, none⟩ = some (.int .u64 (mm.commit : Int)) ∧ W8.cell? ⟨gg, i * 11 + 8, none⟩ = some (.bool mm.ok) ∧ W8.cell? ⟨gg, i * 11 + 9, none⟩ = some (.slice eb mm.ents.length ed) ∧ W8.cell? ⟨gg, i * 11 + 10, none⟩ = some (.string mm.state) ∧ W8.cell? ⟨w7.heap.size, 0, none⟩ = some (.int .i64 mm.kind) ∧ W8.cell? ⟨w7.heap.size, 1, none⟩ = some (.int .i64 mm.src) ∧ W8.cell? ⟨w7.heap.size, 2, none⟩ = some (.int .i64 mm.dst) ∧ W8.cell? ⟨w7.heap.size, 3, none⟩ = some (.int .u64 (mm.term : Int)) ∧ W8.cell? ⟨w7.heap.size, 4, none⟩ = some (.int .u64 (mm.index : Int)) ∧ W8.cell? ⟨w7.heap.size, 5, none⟩ = some (.int .u64 (mm.lterm : Int)) ∧ W8.cell? ⟨w7.heap.size, 6, none⟩ = some (.int .u64 (mm.commit : Int)) ∧ W8.cell? ⟨w7.heap.size, 7, none⟩ = some (.bool mm.ok) ∧ W8.cell? ⟨w7.heap.size, 8, none⟩ = some (.slice rx mm.ents.length ry) ∧ W8.cell? ⟨w7.heap.size, 9, none⟩ = some (.string mm.state)) := Lib.hid ⟨v0, xN, xO, x0, x1, x2, x3, x4, x5, x6, x7, x8, x9, q0, q1, q2, q3, q4, q5, q6, q7, q8, q9⟩
                      have HC1 : Hid (W8.drew.cell? ⟨rb, 0, none⟩ = some (.slice (some ⟨gg, 0, none⟩) q.length rc) ∧ W8.drew.cell? ⟨wr.heap.size, 1, none⟩ = some (.int .i64 (i : Int)) ∧ W8.drew.cell? ⟨gg, i * 11, none⟩ = some (.int .u64 (num : Int)) ∧ W8.drew.cell? ⟨gg, i * 11 + 1, none⟩ = some (.int .i64 mm.kind) ∧ W8.drew.cell? ⟨gg, i * 11 + 2, none⟩ = some (.int .i64 mm.src) ∧ W8.drew.cell? ⟨gg, i * 11 + 3, none⟩ = some (.int .i64 mm.dst) ∧ W8.drew.cell? ⟨gg, i * 11 + 4, none⟩ = some (.int .u64 (mm.term : Int)) ∧ W8.drew.cell? ⟨gg, i * 11 + 5, none⟩ = some (.int .u64 (mm.index : Int)) ∧ W8.drew.cell? ⟨gg, i * 11 + 6, none⟩ = some (.int .u64 (mm.lterm : Int)) ∧ W8.drew.cell? ⟨gg, i * 11 + 7, none⟩ = some (.int .u64 (mm.commit : Int)) ∧ W8.drew.cell? ⟨gg, i * 11 + 8, none⟩ = some (.bool mm.ok) ∧ W8.drew.cell? ⟨gg, i * 11 + 9, none⟩ = some (.slice eb mm.ents.length ed) ∧ W8.drew.cell? ⟨gg, i * 11 + 10, none⟩ = some (.string mm.state) ∧ W8.drew.cell? ⟨w7.heap.size, 0, none⟩ = some (.int .i64 mm.kind) ∧ W8.drew.cell? ⟨w7.heap.size, 1, none⟩ = some (.int .i64 mm.src) ∧ W8.drew.cell? ⟨w7.heap.size, 2, none⟩ = some (.int .i64 mm.dst) ∧ W8.drew.cell? ⟨w7.heap.size, 3, none⟩ = some (.int .u64 (mm.term : Int)) ∧ W8.drew.cell? ⟨w7.heap.size, 4, none⟩ = some (.int .u64 (mm.index : Int)) ∧ W8.drew.cell? ⟨w7.heap.size, 5, none⟩ = some (.int .u64 (mm.lterm : Int)) ∧ W8.drew.cell? ⟨w7.heap.size, 6, none⟩ = some (.int .u64 (mm.commit : Int)) ∧ W8.drew.cell? ⟨w7.heap.size, 7, none⟩ = some (.bool mm.ok) ∧ W8.drew.cell? ⟨w7.heap.size, 8, none⟩ = some (.slice rx mm.ents.length ry) ∧ W8.drew.cell? ⟨w7.heap.size, 9, none⟩ = some (.string mm.state)) := Lib.hid ⟨v0, xN, xO, x0, x1, x2, x3, x4, x5, x6, x7, x8, x9, q0, q1, q2, q3, q4, q5, q6, q7, q8, q9⟩
                      clear ho7 hb7 hb8 hz8 hm8 hE8 KA HQ6 HZ6 hcs hg
                      go_wp2_with fail
                      simp only [← hW8]
                      clear hW8 v0 xN xO x0 x1 x2 x3 x4 x5 x6 x7 x8 x9 q0 q1 q2 q3 q4 q5 q6 q7 q8 q9
                      go_region_held3 (fun w' => w'.cell? ⟨rb, 0, none⟩ = some (.slice (some ⟨gg, 0, none⟩) q.length rc) ∧ w'.cell? ⟨wr.heap.size, 1, none⟩ = some (.int .i64 (i : Int)) ∧ w'.cell? ⟨gg, i * 11, none⟩ = some (.int .u64 (num : Int)) ∧ w'.cell? ⟨gg, i * 11 + 1, none⟩ = some (.int .i64 mm.kind) ∧ w'.cell? ⟨gg, i * 11 + 2, none⟩ = some (.int .i64 mm.src) ∧ w'.cell? ⟨gg, i * 11 + 3, none⟩ = some (.int .i64 mm.dst) ∧ w'.cell? ⟨gg, i * 11 + 4, none⟩ = some (.int .u64 (mm.term : Int)) ∧ w'.cell? ⟨gg, i * 11 + 5, none⟩ = some (.int .u64 (mm.index : Int)) ∧ w'.cell? ⟨gg, i * 11 + 6, none⟩ = some (.int .u64 (mm.lterm : Int)) ∧ w'.cell? ⟨gg, i * 11 + 7, none⟩ = some (.int .u64 (mm.commit : Int)) ∧ w'.cell? ⟨gg, i * 11 + 8, none⟩ = some (.bool mm.ok) ∧ w'.cell? ⟨gg, i * 11 + 9, none⟩ = some (.slice eb mm.ents.length ed) ∧ w'.cell? ⟨gg, i * 11 + 10, none⟩ = some (.string mm.state) ∧ w'.cell? ⟨w7.heap.size, 0, none⟩ = some (.int .i64 mm.kind) ∧ w'.cell? ⟨w7.heap.size, 1, none⟩ = some (.int .i64 mm.src) ∧ w'.cell? ⟨w7.heap.size, 2, none⟩ = some (.int .i64 mm.dst) ∧ w'.cell? ⟨w7.heap.size, 3, none⟩ = some (.int .u64 (mm.term : Int)) ∧ w'.cell? ⟨w7.heap.size, 4, none⟩ = some (.int .u64 (mm.index : Int)) ∧ w'.cell? ⟨w7.heap.size, 5, none⟩ = some (.int .u64 (mm.lterm : Int)) ∧ w'.cell? ⟨w7.heap.size, 6, none⟩ = some (.int .u64 (mm.commit : Int)) ∧ w'.cell? ⟨w7.heap.size, 7, none⟩ = some (.bool mm.ok) ∧ w'.cell? ⟨w7.heap.size, 8, none⟩ = some (.slice rx mm.ents.length ry) ∧ w'.cell? ⟨w7.heap.size, 9, none⟩ = some (.string mm.state))
                        (first | with_reducible exact HC0.out | with_reducible exact HC1.out | with_reducible exact hcs9 | fail)
                        (first | (go_at_call 14; refine KS.out.mono ?_; rintro e w9 ⟨r, rfl, hr, hb9⟩; obtain rfl : r = true := hr.2 rfl; have hcs9 := (And.intro (cellB hb9 HC1.out.1) (And.intro (cellB hb9 HC1.out.2.1) (And.intro (cellB hb9 HC1.out.2.2.1) (And.intro (cellB hb9 HC1.out.2.2.2.1) (And.intro (cellB hb9 HC1.out.2.2.2.2.1) (And.intro (cellB hb9 HC1.out.2.2.2.2.2.1) (And.intro (cellB hb9 HC1.out.2.2.2.2.2.2.1) (And.intro (cellB hb9 HC1.out.2.2.2.2.2.2.2.1) (And.intro (cellB hb9 HC1.out.2.2.2.2.2.2.2.2.1) (And.intro (cellB hb9 HC1.out.2.2.2.2.2.2.2.2.2.1) (And.intro (cellB hb9 HC1.out.2.2.2.2.2.2.2.2.2.2.1) (And.intro (cellB hb9 HC1.out.2.2.2.2.2.2.2.2.2.2.2.1) (And.intro (cellB hb9 HC1.out.2.2.2.2.2.2.2.2.2.2.2.2.1) (And.intro (cellB hb9 HC1.out.2.2.2.2.2.2.2.2.2.2.2.2.2.1) (And.intro (cellB hb9 HC1.out.2.2.2.2.2.2.2.2.2.2.2.2.2.2.1) (And.intro (cellB hb9 HC1.out.2.2.2.2.2.2.2.2.2.2.2.2.2.2.2.1) (And.intro (cellB hb9 HC1.out.2.2.2.2.2.2.2.2.2.2.2.2.2.2.2.2.1) (And.intro (cellB hb9 HC1.out.2.2.2.2.2.2.2.2.2.2.2.2.2.2.2.2.2.1) (And.intro (cellB hb9 HC1.out.2.2.2.2.2.2.2.2.2.2.2.2.2.2.2.2.2.2.1) (And.intro (cellB hb9 HC1.out.2.2.2.2.2.2.2.2.2.2.2.2.2.2.2.2.2.2.2.1) (And.intro (cellB hb9 HC1.out.2.2.2.2.2.2.2.2.2.2.2.2.2.2.2.2.2.2.2.2.1) (And.intro (cellB hb9 HC1.out.2.2.2.2.2.2.2.2.2.2.2.2.2.2.2.2.2.2.2.2.2.1) (cellB hb9 HC1.out.2.2.2.2.2.2.2.2.2.2.2.2.2.2.2.2.2.2.2.2.2.2)))))))))))))))))))))))) | fail)
                      have HQ9 : Hid (NR w w9 nb rb v (.slice (some ⟨gg, 0, none⟩) q.length rc) all all (valQ q) q) := Lib.hid ((HQ8.out.later (Below.refl _ _).drew).later hb9)
                      clear hr hb9 KS hcs9 HC0 HC1 HQ8
                      have v0 : w9.cell? ⟨rb, 0, none⟩ = some (.slice (some ⟨gg, 0, none⟩) q.length rc) := by unfold World.cell?; rw [HQ9.out.var]; rfl
                      have KL : Hid (∀ n, Calls Try.prog 19 #[.pointer (some ⟨nb, 0, none⟩)] (w9.drewN n) fun e w' => e = .returned (.int .i64 (q.length : Int)) ∧ w9.drewN n = w') := Lib.hid (fun n => by
                        have := len_prog (HQ9.out.later ((Same.of w9 n).below _)).nw
                        rwa [valQ_len] at this)
                      have HLW : Hid (all ≤ k + 1 ∧ q.length ≤ k + 1 ∧ ∀ x ∈ q, SmallP x.2.1) := Lib.hid ⟨Nat.le_succ_of_le HL.out.1, Nat.le_succ_of_le HL.out.2.1, HL.out.2.2⟩
                      go_wp2_with fail
                      go_quiet ((go_at_call 19; exact quietE (KL.out _)))
                      go_wp2_with fail
                      go_roundw
                      case rel => exact ⟨k + 1, v, _, all, q, by omega, by go_num, Lib.hid (HQ9.out.later ((Same.of _ _).below _)), HLW⟩
                      case measure => simp [intOf]; omega
                  · have KL : Hid (∀ n, Calls Try.prog 19 #[.pointer (some ⟨nb, 0, none⟩)] (w6.drewN n) fun e w' => e = .returned (.int .i64 (q.length : Int)) ∧ w6.drewN n = w') := Lib.hid (fun n => by
                      have := len_prog (HQ6.out.later ((Same.of w6 n).below _)).nw
                      rwa [valQ_len] at this)
                    have HL6 : Hid (all ≤ k + 1 ∧ q.length ≤ k + 1 ∧ ∀ x ∈ q, SmallP x.2.1) := Lib.hid ⟨Nat.le_succ_of_le HL.out.1, Nat.le_succ_of_le HL.out.2.1, HL.out.2.2⟩
                    clear hz6
                    go_wp2_with fail
                    go_quiet ((go_at_call 19; exact quietE (KL.out _)))
                    go_wp2_with fail
                    go_roundw
                    case rel => exact ⟨k + 1, v, _, all, q, by omega, by go_num, Lib.hid (HQ6.out.later ((Same.of _ _).below _)), HL6⟩
                    case measure => simp [intOf]; omega
      · have hke : k = A.length := by omega
        subst hke
        obtain ⟨ra, rc, rfl⟩ := HQ.out.row.shape
        have s0 : wr.cell? ⟨rb, 0, none⟩ = some (.slice ra q.length rc) := by unfold World.cell?; rw [HQ.out.var]; rfl
        have hkI : ¬ (A.length : Int) < (A.length : Int) := by omega
        have hq0 : (0 : Int) ≤ (q.length : Int) := by omega
        have hqm : (q.length : Int) ≤ 100 := by have := HL.out.2.1; omega
        obtain ⟨wo, hwo⟩ : ∃ x, x = wr := ⟨_, rfl⟩
        subst hwo
        go_wp2_with fail
        go_loopw [172] (fun i w5 => ∃ j : Nat, j ≤ q.length ∧ i = .int .i64 (j : Int) ∧ Hid (Below wo.heap.size wo w5)) (fun i _ => q.length - (intOf i).toNat)
        case atStart => exact ⟨0, by omega, rfl, Lib.hid (Below.refl _ _)⟩
        case round =>
          obtain ⟨j, hj, rfl, HB5⟩ := hrel
          by_cases hlj : j < q.length
          · have hjI : (j : Int) < (q.length : Int) := by omega
            have hj0 : (0 : Int) ≤ (j : Int) := by omega
            obtain ⟨⟨num, m, ev⟩, hx⟩ : ∃ x, q[j]? = some x := ⟨_, List.getElem?_eq_getElem hlj⟩
            have hES := HQ.out.ents _ (List.mem_of_getElem? hx)
            have hES : ESl w ev m.ents := hES
            obtain ⟨ea, ec, rfl, _, _⟩ := id hES
            have HSM := Lib.hid (HL.out.2.2 _ (List.mem_of_getElem? hx))
            have HSM' : Hid (SmallP m) := Lib.hid HSM.out
            obtain ⟨g, c', e2, hg, hcs⟩ := HQ.out.row.get hx
            injection e2 with e2 e3 e4
            subst e2
            clear e3 e4
            have HQ5 := Lib.hid (HQ.out.later HB5.out)
            have d : ∀ t u, (oneC (num, m, .slice ea m.ents.length ec))[t]? = some u → wr.cell? ⟨g, j * 11 + t, none⟩ = some u := fun t u hu => cellB HB5.out (hcs t u hu)
            have d0 := d 0 _ rfl
            have d1 := d 1 _ rfl
            have d2 := d 2 _ rfl
            have d3 := d 3 _ rfl
            have d4 := d 4 _ rfl
            have d5 := d 5 _ rfl
            have d6 := d 6 _ rfl
            have d7 := d 7 _ rfl
            have d8 := d 8 _ rfl
            have d9 := d 9 _ rfl
            have d10 := d 10 _ rfl
            rw [Nat.add_zero] at d0
            obtain ⟨W6, hW6⟩ : ∃ W6, W6 = wr.alloc (.cells #[.int .u64 (num : Int), .int .i64 m.kind, .int .i64 m.src, .int .i64 m.dst, .int .u64 (m.term : Int), .int .u64 (m.index : Int), .int .u64 (m.lterm : Int), .int .u64 (m.commit : Int), .bool m.ok, .slice ea m.ents.length ec, .string m.state] 43) := ⟨_, rfl⟩
            have HZ6 : Hid (W6.heap[wr.heap.size]? = some (.cells #[.int .u64 (num : Int), .int .i64 m.kind, .int .i64 m.src, .int .i64 m.dst, .int .u64 (m.term : Int), .int .u64 (m.index : Int), .int .u64 (m.lterm : Int), .int .u64 (m.commit : Int), .bool m.ok, .slice ea m.ents.length ec, .string m.state] 43 (0, 0))) := Lib.hid (by rw [hW6]; exact heap_alloc_new _ _)
            have HQ6 := Lib.hid (show NR w W6 nb rb v (.slice (some ⟨g, 0, none⟩) q.length rc) all all (valQ q) q by rw [hW6]; exact HQ5.out.later ((Below.refl _ _).alloc (Nat.le_refl _) _))
            have HB6 : Hid (Below wo.heap.size wo W6) := Lib.hid (by rw [hW6]; exact HB5.out.alloc HB5.out.size _)
            have KA := Lib.hid (at_yes HQ6.out.nw j num m (valQ_get hx) (by have := HSM'.out.1; omega))
            unfold mgL at KA
            have HES := Lib.hid hES
            clear d hg hcs hES hx HSM HQ5
            go_wp2_with fail
            simp only [← hW6]
            clear hW6 d0 d1 d2 d3 d4 d5 d6 d7 d8 d9 d10
            refine KA.out.mono ?_
            rintro e w7 ⟨ev', rfl, ho7, hb7⟩
            obtain ⟨ra', rc', rfl, _⟩ := ho7.shape
            obtain ⟨W8, hW8⟩ : ∃ W8, W8 = w7.alloc (.cells #[.int .i64 m.kind, .int .i64 m.src, .int .i64 m.dst, .int .u64 (m.term : Int), .int .u64 (m.index : Int), .int .u64 (m.lterm : Int), .int .u64 (m.commit : Int), .bool m.ok, .slice ra' m.ents.length rc', .string m.state] 32) := ⟨_, rfl⟩
            have hb8 : Below W6.heap.size W6 W8 := by rw [hW8]; exact hb7.alloc hb7.size _
            have hz8 := block_kept HZ6.out (block_lt HZ6.out) hb8
            have hm8 : W8.heap[w7.heap.size]? = some (.cells #[.int .i64 m.kind, .int .i64 m.src, .int .i64 m.dst, .int .u64 (m.term : Int), .int .u64 (m.index : Int), .int .u64 (m.lterm : Int), .int .u64 (m.commit : Int), .bool m.ok, .slice ra' m.ents.length rc', .string m.state] 32 (0, 0)) := by rw [hW8]; exact heap_alloc_new _ _
            have HB8 : Hid (Below wo.heap.size wo W8) := Lib.hid (HB6.out.trans (hb8.mono HB6.out.size))
            have hE8 : ESl W8 (.slice ra' m.ents.length rc') m.ents := by rw [hW8]; exact (EOwn.sl ho7).later ((Below.refl _ _).alloc (Nat.le_refl _) _)
            have KS := Lib.hid (same_prog m m (.slice ra' m.ents.length rc') (.slice ea m.ents.length ec) W8 hE8 (HES.out.later (HQ6.out.below.trans (hb8.mono HQ6.out.below.size))) (by have := HSM'.out.1; omega))
            unfold mgL at KS
            obtain ⟨q0, q1, q2, q3, q4, q5, q6, q7, q8, q9⟩ := cells10 hm8
            have o0 : W8.cell? ⟨wr.heap.size, 0, none⟩ = some (.int .u64 (num : Int)) := by unfold World.cell?; rw [hz8]; rfl
            have o1 : W8.cell? ⟨wr.heap.size, 1, none⟩ = some (.int .i64 m.kind) := by unfold World.cell?; rw [hz8]; rfl
            have o2 : W8.cell? ⟨wr.heap.size, 2, none⟩ = some (.int .i64 m.src) := by unfold World.cell?; rw [hz8]; rfl
            have o3 : W8.cell? ⟨wr.heap.size, 3, none⟩ = some (.int .i64 m.dst) := by unfold World.cell?; rw [hz8]; rfl
            have o4 : W8.cell? ⟨wr.heap.size, 4, none⟩ = some (.int .u64 (m.term : Int)) := by unfold World.cell?; rw [hz8]; rfl
            have o5 : W8.cell? ⟨wr.heap.size, 5, none⟩ = some (.int .u64 (m.index : Int)) := by unfold World.cell?; rw [hz8]; rfl
            have o6 : W8.cell? ⟨wr.heap.size, 6, none⟩ = some (.int .u64 (m.lterm : Int)) := by unfold World.cell?; rw [hz8]; rfl
            have o7 : W8.cell? ⟨wr.heap.size, 7, none⟩ = some (.int .u64 (m.commit : Int)) := by unfold World.cell?; rw [hz8]; rfl
            have o8 : W8.cell? ⟨wr.heap.size, 8, none⟩ = some (.bool m.ok) := by unfold World.cell?; rw [hz8]; rfl
            have o9 : W8.cell? ⟨wr.heap.size, 9, none⟩ = some (.slice ea m.ents.length ec) := by unfold World.cell?; rw [hz8]; rfl
            have o10 : W8.cell? ⟨wr.heap.size, 10, none⟩ = some (.string m.state) := by unfold World.cell?; rw [hz8]; rfl
            rw [hW8] at o0 o1 o2 o3 o4 o5 o6 o7 o8 o9 o10 q0 q1 q2 q3 q4 q5 q6 q7 q8 q9
            clear ho7 hb7 hb8 hz8 hm8 hE8 KA HB6 HZ6 HQ6
            go_wp2_with fail
            simp only [← hW8]
            clear hW8 o0 o1 o2 o3 o4 o5 o6 o7 o8 o9 o10 q0 q1 q2 q3 q4 q5 q6 q7 q8 q9
            refine KS.out.mono ?_
            rintro e w9 ⟨r, rfl, hr, hb9⟩
            obtain rfl : r = true := hr.2 rfl
            have HB9 : Hid (Below wo.heap.size wo w9) := Lib.hid (HB8.out.trans (hb9.mono HB8.out.size))
            clear hr hb9 KS
            go_wp2_with fail
            go_roundw
            case rel => exact ⟨j + 1, by omega, by go_num, HB9⟩
            case measure => simp [intOf]; omega
          · have hje : j = q.length := by omega
            subst hje
            have hjI : ¬ (q.length : Int) < (q.length : Int) := by omega
            go_wp2_with fail
            go_ret
            exact ⟨rfl, HQ.out.below.trans (HB5.out.mono HQ.out.below.size)⟩
end Go.Proofs.Ytgdlnjhbencjkaa
