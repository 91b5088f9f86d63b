/- net: NetBytes. -/
import Derived.Test.YtgdlnjhbencjkaaNSm
import Derived.Test.YtgdlnjhbencjkaaNRefB
namespace Go.Proofs.Ytgdlnjhbencjkaa
open Go.RowKit
structure WfMsg (m : Mg) : Prop where
  kind : -9223372036854775808 ≤ m.kind ∧ m.kind < 9223372036854775808
  src : -9223372036854775808 ≤ m.src ∧ m.src < 9223372036854775808
  dst : -9223372036854775808 ≤ m.dst ∧ m.dst < 9223372036854775808
  term : m.term < 18446744073709551616
  index : m.index < 18446744073709551616
  lterm : m.lterm < 18446744073709551616
  commit : m.commit < 18446744073709551616
  ents : ∀ e ∈ m.ents, e.1 < 18446744073709551616
theorem msgB_ne (m : Mg) : ¬ (⟨(msgB m).toArray⟩ : ByteArray).toList = [] := by
  rw [ByteArray.toList_eq]
  simp [msgB, nodeL]
set_option maxHeartbeats 8000000 in
set_option maxRecDepth 100000 in
theorem bytes_law (m : Mg) (ev : Value) (s : ByteArray) (w : World) (h : ESl w ev m.ents) (hwf : WfMsg m) :
    Calls Try.prog 4 #[.agg (mgL m ev).toArray, .string s] w fun e w' => e = .returned (.bool true) ∧ Below w.heap.size w w' := by
  obtain ⟨ea, ec, rfl, _, _⟩ := id h
  obtain ⟨W0, hW0⟩ : ∃ W0, W0 = w.alloc (.cells #[.int .i64 m.kind, .int .i64 m.src, .int .i64 m.dst, .int .u64 (m.term : Int), .int .u64 (m.index : Int), .int .u64 (m.lterm : Int), .int .u64 (m.commit : Int), .bool m.ok, .slice ea m.ents.length ec, .string m.state] 32) := ⟨_, rfl⟩
  have hb0 : Below w.heap.size w W0 := by rw [hW0]; exact (Below.refl _ _).alloc (Nat.le_refl _) _
  have hz0 : W0.heap[w.heap.size]? = some (.cells #[.int .i64 m.kind, .int .i64 m.src, .int .i64 m.dst, .int .u64 (m.term : Int), .int .u64 (m.index : Int), .int .u64 (m.lterm : Int), .int .u64 (m.commit : Int), .bool m.ok, .slice ea m.ents.length ec, .string m.state] 32 (0, 0)) := by rw [hW0]; exact heap_alloc_new _ _
  have eNil : (mgL mgNil (.slice none 0 0)).toArray = #[.int .i64 0, .int .i64 0, .int .i64 0, .int .u64 0, .int .u64 0, .int .u64 0, .int .u64 0, .bool false, .slice none 0 0, .string ⟨#[]⟩] := rfl
  have K0 := Lib.hid (awake_prog W0)
  have HES := Lib.hid (fun W (hW : Below w.heap.size w W) => h.later hW)
  have HB0 := Lib.hid hb0
  have HZ0 := Lib.hid hz0
  have KSM := Lib.hid (fun W (hW : Below w.heap.size w W) => small_prog m (.slice ea m.ents.length ec) W (h.later hW))
  have HWF := Lib.hid hwf
  unfold mgL at KSM ⊢
  clear h hwf hb0 hz0
  go_enter Try.func4, Try.ntmps4
  go_wp2_with fail
  simp only [← hW0]
  clear hW0
  refine K0.out.mono ?_
  rintro e w1 ⟨rfl, hb1⟩
  have hz1 := (hb1.block _ (block_lt HZ0.out)).trans HZ0.out
  have HB1 := Lib.hid (HB0.out.trans (hb1.mono HB0.out.size))
  have HZ1 := Lib.hid hz1
  obtain ⟨c0, c1, c2, c3, c4, c5, c6, c7, c8, c9⟩ := cells10 hz1
  clear hb1 hz1 K0
  go_wp2_with fail
  refine (KSM.out _ HB1.out).mono ?_
  rintro e w2 ⟨r2, rfl, hr2, hb2⟩
  have hz2 := (hb2.block _ (block_lt HZ1.out)).trans HZ1.out
  have HB2 := Lib.hid (HB1.out.trans (hb2.mono HB1.out.size))
  have HZ2 := Lib.hid hz2
  clear c0 c1 c2 c3 c4 c5 c6 c7 c8 c9
  obtain ⟨c0, c1, c2, c3, c4, c5, c6, c7, c8, c9⟩ := cells10 hz2
  clear hb2 hz2 KSM
  cases r2 with
  | false =>
    clear hr2
    go_wp2_with fail
    go_ret
    exact ⟨rfl, HB2.out⟩
  | true =>
    obtain ⟨sm1, sm2, sm3⟩ := hr2.1 rfl
    by_cases hs : 2000 < s.size
    · have hsI : (2000 : Int) < (s.size : Int) := by omega
      clear hr2 hs sm1 sm2 sm3
      go_wp2_with fail
      go_ret
      exact ⟨rfl, HB2.out⟩
    · have hsI : ¬ (2000 : Int) < (s.size : Int) := by omega
      have HSS : Hid (s.size ≤ 2000) := Lib.hid (by omega)
      have hboth : ∃ S : ByteArray, (∀ W, Below w.heap.size w W → Calls Try.prog 20 #[.agg #[.int .i64 m.kind, .int .i64 m.src, .int .i64 m.dst, .int .u64 (m.term : Int), .int .u64 (m.index : Int), .int .u64 (m.lterm : Int), .int .u64 (m.commit : Int), .bool m.ok, .slice ea m.ents.length ec, .string m.state]] W fun e w' => e = .returned (.string S) ∧ Below W.heap.size W w') ∧
          (∀ W, Below w.heap.size w W → Calls Try.prog 21 #[.agg #[.int .i64 m.kind, .int .i64 m.src, .int .i64 m.dst, .int .u64 (m.term : Int), .int .u64 (m.index : Int), .int .u64 (m.lterm : Int), .int .u64 (m.commit : Int), .bool m.ok, .slice ea m.ents.length ec, .string m.state]] W fun e w' => e = .returned (.string S) ∧ Below W.heap.size W w') ∧
          (S.toList = [] ∨ (SmMsg m ∧ S = ⟨(msgB m).toArray⟩)) := by
        by_cases hbad : m.kind < 0 ∨ m.src < -1 ∨ m.dst < -1
        · refine ⟨⟨#[]⟩, fun W hW => bytes_no m (.slice ea m.ents.length ec) W hbad, fun W hW => rbytes_no m (.slice ea m.ents.length ec) W hbad, .inl (by rw [ByteArray.toList_eq])⟩
        · have hg : SmMsg m := ⟨⟨by omega, HWF.out.kind.2⟩, ⟨by omega, HWF.out.src.2⟩, ⟨by omega, HWF.out.dst.2⟩, HWF.out.term, HWF.out.index, HWF.out.lterm, HWF.out.commit, sm1, fun e he => ⟨HWF.out.ents e he, sm3 e he⟩, sm2⟩
          exact ⟨⟨(msgB m).toArray⟩, fun W hW => bytes_yes m (.slice ea m.ents.length ec) W (HES.out W hW) (by omega) hg.kind hg.src hg.dst (msg_ok hg) (msg_right m) (msg_fits hg), fun W hW => rbytes_yes m (.slice ea m.ents.length ec) W (HES.out W hW) hg, .inr ⟨hg, rfl⟩⟩
      obtain ⟨S, hk1, hk2, hS⟩ := hboth
      have KB1 := Lib.hid hk1
      have KB2 := Lib.hid hk2
      have HSD := Lib.hid hS
      have HM12 := Lib.hid sm1
      clear hr2 hs sm1 sm2 sm3 hk1 hk2 hS
      go_wp2_with fail
      refine (KB1.out _ HB2.out).mono ?_
      rintro e w3 ⟨rfl, hb3⟩
      have hz3 := (hb3.block _ (block_lt HZ2.out)).trans HZ2.out
      have HB3 := Lib.hid (HB2.out.trans (hb3.mono HB2.out.size))
      have HZ3 := Lib.hid hz3
      clear c0 c1 c2 c3 c4 c5 c6 c7 c8 c9
      obtain ⟨c0, c1, c2, c3, c4, c5, c6, c7, c8, c9⟩ := cells10 hz3
      clear hb3 hz3 KB1
      go_wp2_with fail
      refine (KB2.out _ HB3.out).mono ?_
      rintro e w4 ⟨rfl, hb4⟩
      have hz4 := (hb4.block _ (block_lt HZ3.out)).trans HZ3.out
      have HB4 := Lib.hid (HB3.out.trans (hb4.mono HB3.out.size))
      have HZ4 := Lib.hid hz4
      clear c0 c1 c2 c3 c4 c5 c6 c7 c8 c9
      obtain ⟨c0, c1, c2, c3, c4, c5, c6, c7, c8, c9⟩ := cells10 hz4
      clear hb4 hz4 KB2
      by_cases he : S.toList = []
      · have hei : S.toList.isEmpty = true := by rw [he]; rfl
        clear HSD
        have KF := Lib.hid (read_msg s w4 (by have := HSS.out; omega))
        have HBF := HB4
        go_wp2_with fail
        refine KF.out.mono ?_
        rintro e wf ⟨mf, evf, bf, rfl, hno, hyes, hof, hbf⟩
        have HBG := Lib.hid (HBF.out.trans (hbf.mono HBF.out.size))
        clear KF hbf
        cases bf with
        | false =>
          obtain ⟨_, rfl, rfl⟩ := hno rfl
          rw [eNil]
          obtain ⟨WF, hWF⟩ : ∃ WF, WF = wf.alloc (.cells #[.int .i64 0, .int .i64 0, .int .i64 0, .int .u64 0, .int .u64 0, .int .u64 0, .int .u64 0, .bool false, .slice none 0 0, .string ⟨#[]⟩] 32) := ⟨_, rfl⟩
          have hbg : Below wf.heap.size wf WF := by rw [hWF]; exact (Below.refl _ _).alloc (Nat.le_refl _) _
          have hzg : WF.heap[wf.heap.size]? = some (.cells #[.int .i64 0, .int .i64 0, .int .i64 0, .int .u64 0, .int .u64 0, .int .u64 0, .int .u64 0, .bool false, .slice none 0 0, .string ⟨#[]⟩] 32 (0, 0)) := by rw [hWF]; exact heap_alloc_new _ _
          obtain ⟨z0, z1, z2, z3, z4, z5, z6, z7, z8, z9⟩ := cells10 hzg
          have KS := Lib.hid (same_prog mgNil mgNil (.slice none 0 0) (.slice none 0 0) WF (ESl.nil _) (ESl.nil _) (by decide))
          rw [eNil] at KS
          have HBH := Lib.hid (HBG.out.trans (hbg.mono HBG.out.size))
          clear hno hyes hof hbg hzg
          go_wp2_with fail
          simp only [← hWF]
          clear hWF
          refine KS.out.mono ?_
          rintro e wg ⟨rs, rfl, hrs, hbs⟩
          obtain rfl : rs = true := hrs.2 rfl
          have HBI := Lib.hid (HBH.out.trans (hbs.mono HBH.out.size))
          clear hbs hrs KS z0 z1 z2 z3 z4 z5 z6 z7 z8 z9
          go_wp2_with fail
          go_ret
          exact ⟨rfl, HBI.out⟩
        | true =>
          obtain ⟨q1, q2, q3, q4, q5, q6⟩ := rd_bytes (hyes rfl) (by have := HSS.out; simpa using this)
          obtain ⟨fa, fc, rfl, _⟩ := hof.shape
          obtain ⟨WF, hWF⟩ : ∃ WF, WF = wf.alloc (.cells #[.int .i64 mf.kind, .int .i64 mf.src, .int .i64 mf.dst, .int .u64 (mf.term : Int), .int .u64 (mf.index : Int), .int .u64 (mf.lterm : Int), .int .u64 (mf.commit : Int), .bool mf.ok, .slice fa mf.ents.length fc, .string mf.state] 32) := ⟨_, rfl⟩
          have hbg : Below wf.heap.size wf WF := by rw [hWF]; exact (Below.refl _ _).alloc (Nat.le_refl _) _
          have hzg : WF.heap[wf.heap.size]? = some (.cells #[.int .i64 mf.kind, .int .i64 mf.src, .int .i64 mf.dst, .int .u64 (mf.term : Int), .int .u64 (mf.index : Int), .int .u64 (mf.lterm : Int), .int .u64 (mf.commit : Int), .bool mf.ok, .slice fa mf.ents.length fc, .string mf.state] 32 (0, 0)) := by rw [hWF]; exact heap_alloc_new _ _
          obtain ⟨z0, z1, z2, z3, z4, z5, z6, z7, z8, z9⟩ := cells10 hzg
          have KB := Lib.hid (bytes_yes mf (.slice fa mf.ents.length fc) WF ((EOwn.sl hof).later hbg) q6 q3 q4 q5 q2 (msg_right mf) (by rw [q1]; have := HSS.out; unfold Fits; simp; omega))
          have eqs : (⟨(msgB mf).toArray⟩ : ByteArray) = s := by rw [q1]
          rw [eqs] at KB
          unfold mgL at KB ⊢
          have HBH := Lib.hid (HBG.out.trans (hbg.mono HBG.out.size))
          clear hno hyes hof hbg hzg q1 q2 q3 q4 q5 q6 eqs
          go_wp2_with fail
          simp only [← hWF]
          clear hWF
          refine KB.out.mono ?_
          rintro e wg ⟨rfl, hbs⟩
          have HBI := Lib.hid (HBH.out.trans (hbs.mono HBH.out.size))
          clear hbs KB z0 z1 z2 z3 z4 z5 z6 z7 z8 z9
          go_wp2_with fail
          go_ret
          exact ⟨rfl, HBI.out⟩
      · have hei : S.toList.isEmpty = false := by simpa using he
        have HG : Hid (SmMsg m ∧ S = ⟨(msgB m).toArray⟩) := Lib.hid (HSD.out.resolve_left he)
        by_cases t1 : m.kind ≤ 2147483648
        · by_cases t2 : m.src < 2147483648
          · by_cases t3 : m.dst < 2147483648
            · have KR := Lib.hid (read_msg S w4 (by rw [HG.out.2, sz_bytes]; have := msg_small HG.out.1; omega))
              have HRD : Hid (rdO S.data.toList = some m) := Lib.hid (by rw [HG.out.2]; show rdO (msgB m) = some m; unfold rdO; rw [msg_read m (msg_ok HG.out.1)]; exact msgO_msgF t1 t2 t3)
              clear HSD
              go_wp2_with fail
              refine KR.out.mono ?_
              rintro e w5 ⟨m5, ev5, b5, rfl, hno, hyes, ho5, hb5⟩
              cases b5 with
              | false => have := (hno rfl).1; rw [HRD.out] at this; cases this
              | true =>
                have hmm := hyes rfl
                rw [HRD.out] at hmm
                obtain rfl : m = m5 := Option.some.inj hmm
                obtain ⟨fa, fc, rfl, _⟩ := ho5.shape
                have hz5 := (hb5.block _ (block_lt HZ4.out)).trans HZ4.out
                have HB5 := Lib.hid (HB4.out.trans (hb5.mono HB4.out.size))
                obtain ⟨WG, hWG⟩ : ∃ WG, WG = w5.alloc (.cells #[.int .i64 m.kind, .int .i64 m.src, .int .i64 m.dst, .int .u64 (m.term : Int), .int .u64 (m.index : Int), .int .u64 (m.lterm : Int), .int .u64 (m.commit : Int), .bool m.ok, .slice fa m.ents.length fc, .string m.state] 32) := ⟨_, rfl⟩
                have hbg : Below w5.heap.size w5 WG := by rw [hWG]; exact (Below.refl _ _).alloc (Nat.le_refl _) _
                have hzg : WG.heap[w5.heap.size]? = some (.cells #[.int .i64 m.kind, .int .i64 m.src, .int .i64 m.dst, .int .u64 (m.term : Int), .int .u64 (m.index : Int), .int .u64 (m.lterm : Int), .int .u64 (m.commit : Int), .bool m.ok, .slice fa m.ents.length fc, .string m.state] 32 (0, 0)) := by rw [hWG]; exact heap_alloc_new _ _
                obtain ⟨z0, z1, z2, z3, z4, z5, z6, z7, z8, z9⟩ := cells10 hzg
                have hlit := ((Below.refl w5.heap.size w5).alloc (Nat.le_refl _) (.cells #[.int .i64 m.kind, .int .i64 m.src, .int .i64 m.dst, .int .u64 (m.term : Int), .int .u64 (m.index : Int), .int .u64 (m.lterm : Int), .int .u64 (m.commit : Int), .bool m.ok, .slice fa m.ents.length fc, .string m.state] 32)).block _ (block_lt hz5)
                obtain ⟨y0, y1, y2, y3, y4, y5, y6, y7, y8, y9⟩ := cells10 (hlit.trans hz5)
                have HB6 := Lib.hid (HB5.out.trans (hbg.mono HB5.out.size))
                have KS := Lib.hid (same_prog m m (.slice fa m.ents.length fc) (.slice ea m.ents.length ec) WG ((EOwn.sl ho5).later hbg) (HES.out _ HB6.out) (by have := HM12.out; omega))
                unfold mgL at KS ⊢
                clear hno hyes hmm ho5 hb5 hz5 hbg hzg hlit c0 c1 c2 c3 c4 c5 c6 c7 c8 c9 KR
                go_wp2_with fail
                simp only [← hWG]
                clear hWG
                refine KS.out.mono ?_
                rintro e w7 ⟨r7, rfl, hr7, hb7⟩
                obtain rfl : r7 = true := hr7.2 rfl
                have HB7 := Lib.hid (HB6.out.trans (hb7.mono HB6.out.size))
                clear hb7 hr7 KS z0 z1 z2 z3 z4 z5 z6 z7 z8 z9 y0 y1 y2 y3 y4 y5 y6 y7 y8 y9
                have KF := Lib.hid (read_msg s w7 (by have := HSS.out; omega))
                have HBF := HB7
                go_wp2_with fail
                refine KF.out.mono ?_
                rintro e wf ⟨mf, evf, bf, rfl, hno, hyes, hof, hbf⟩
                have HBG := Lib.hid (HBF.out.trans (hbf.mono HBF.out.size))
                clear KF hbf
                cases bf with
                | false =>
                  obtain ⟨_, rfl, rfl⟩ := hno rfl
                  rw [eNil]
                  obtain ⟨WF, hWF⟩ : ∃ WF, WF = wf.alloc (.cells #[.int .i64 0, .int .i64 0, .int .i64 0, .int .u64 0, .int .u64 0, .int .u64 0, .int .u64 0, .bool false, .slice none 0 0, .string ⟨#[]⟩] 32) := ⟨_, rfl⟩
                  have hbg : Below wf.heap.size wf WF := by rw [hWF]; exact (Below.refl _ _).alloc (Nat.le_refl _) _
                  have hzg : WF.heap[wf.heap.size]? = some (.cells #[.int .i64 0, .int .i64 0, .int .i64 0, .int .u64 0, .int .u64 0, .int .u64 0, .int .u64 0, .bool false, .slice none 0 0, .string ⟨#[]⟩] 32 (0, 0)) := by rw [hWF]; exact heap_alloc_new _ _
                  obtain ⟨z0, z1, z2, z3, z4, z5, z6, z7, z8, z9⟩ := cells10 hzg
                  have KS := Lib.hid (same_prog mgNil mgNil (.slice none 0 0) (.slice none 0 0) WF (ESl.nil _) (ESl.nil _) (by decide))
                  rw [eNil] at KS
                  have HBH := Lib.hid (HBG.out.trans (hbg.mono HBG.out.size))
                  clear hno hyes hof hbg hzg
                  go_wp2_with fail
                  simp only [← hWF]
                  clear hWF
                  refine KS.out.mono ?_
                  rintro e wg ⟨rs, rfl, hrs, hbs⟩
                  obtain rfl : rs = true := hrs.2 rfl
                  have HBI := Lib.hid (HBH.out.trans (hbs.mono HBH.out.size))
                  clear hbs hrs KS z0 z1 z2 z3 z4 z5 z6 z7 z8 z9
                  go_wp2_with fail
                  go_ret
                  exact ⟨rfl, HBI.out⟩
                | true =>
                  obtain ⟨q1, q2, q3, q4, q5, q6⟩ := rd_bytes (hyes rfl) (by have := HSS.out; simpa using this)
                  obtain ⟨fa, fc, rfl, _⟩ := hof.shape
                  obtain ⟨WF, hWF⟩ : ∃ WF, WF = wf.alloc (.cells #[.int .i64 mf.kind, .int .i64 mf.src, .int .i64 mf.dst, .int .u64 (mf.term : Int), .int .u64 (mf.index : Int), .int .u64 (mf.lterm : Int), .int .u64 (mf.commit : Int), .bool mf.ok, .slice fa mf.ents.length fc, .string mf.state] 32) := ⟨_, rfl⟩
                  have hbg : Below wf.heap.size wf WF := by rw [hWF]; exact (Below.refl _ _).alloc (Nat.le_refl _) _
                  have hzg : WF.heap[wf.heap.size]? = some (.cells #[.int .i64 mf.kind, .int .i64 mf.src, .int .i64 mf.dst, .int .u64 (mf.term : Int), .int .u64 (mf.index : Int), .int .u64 (mf.lterm : Int), .int .u64 (mf.commit : Int), .bool mf.ok, .slice fa mf.ents.length fc, .string mf.state] 32 (0, 0)) := by rw [hWF]; exact heap_alloc_new _ _
                  obtain ⟨z0, z1, z2, z3, z4, z5, z6, z7, z8, z9⟩ := cells10 hzg
                  have KB := Lib.hid (bytes_yes mf (.slice fa mf.ents.length fc) WF ((EOwn.sl hof).later hbg) q6 q3 q4 q5 q2 (msg_right mf) (by rw [q1]; have := HSS.out; unfold Fits; simp; omega))
                  have eqs : (⟨(msgB mf).toArray⟩ : ByteArray) = s := by rw [q1]
                  rw [eqs] at KB
                  unfold mgL at KB ⊢
                  have HBH := Lib.hid (HBG.out.trans (hbg.mono HBG.out.size))
                  clear hno hyes hof hbg hzg q1 q2 q3 q4 q5 q6 eqs
                  go_wp2_with fail
                  simp only [← hWF]
                  clear hWF
                  refine KB.out.mono ?_
                  rintro e wg ⟨rfl, hbs⟩
                  have HBI := Lib.hid (HBH.out.trans (hbs.mono HBH.out.size))
                  clear hbs KB z0 z1 z2 z3 z4 z5 z6 z7 z8 z9
                  go_wp2_with fail
                  go_ret
                  exact ⟨rfl, HBI.out⟩
            · clear HSD
              have KF := Lib.hid (read_msg s w4 (by have := HSS.out; omega))
              have HBF := HB4
              go_wp2_with fail
              refine KF.out.mono ?_
              rintro e wf ⟨mf, evf, bf, rfl, hno, hyes, hof, hbf⟩
              have HBG := Lib.hid (HBF.out.trans (hbf.mono HBF.out.size))
              clear KF hbf
              cases bf with
              | false =>
                obtain ⟨_, rfl, rfl⟩ := hno rfl
                rw [eNil]
                obtain ⟨WF, hWF⟩ : ∃ WF, WF = wf.alloc (.cells #[.int .i64 0, .int .i64 0, .int .i64 0, .int .u64 0, .int .u64 0, .int .u64 0, .int .u64 0, .bool false, .slice none 0 0, .string ⟨#[]⟩] 32) := ⟨_, rfl⟩
                have hbg : Below wf.heap.size wf WF := by rw [hWF]; exact (Below.refl _ _).alloc (Nat.le_refl _) _
                have hzg : WF.heap[wf.heap.size]? = some (.cells #[.int .i64 0, .int .i64 0, .int .i64 0, .int .u64 0, .int .u64 0, .int .u64 0, .int .u64 0, .bool false, .slice none 0 0, .string ⟨#[]⟩] 32 (0, 0)) := by rw [hWF]; exact heap_alloc_new _ _
                obtain ⟨z0, z1, z2, z3, z4, z5, z6, z7, z8, z9⟩ := cells10 hzg
                have KS := Lib.hid (same_prog mgNil mgNil (.slice none 0 0) (.slice none 0 0) WF (ESl.nil _) (ESl.nil _) (by decide))
                rw [eNil] at KS
                have HBH := Lib.hid (HBG.out.trans (hbg.mono HBG.out.size))
                clear hno hyes hof hbg hzg
                go_wp2_with fail
                simp only [← hWF]
                clear hWF
                refine KS.out.mono ?_
                rintro e wg ⟨rs, rfl, hrs, hbs⟩
                obtain rfl : rs = true := hrs.2 rfl
                have HBI := Lib.hid (HBH.out.trans (hbs.mono HBH.out.size))
                clear hbs hrs KS z0 z1 z2 z3 z4 z5 z6 z7 z8 z9
                go_wp2_with fail
                go_ret
                exact ⟨rfl, HBI.out⟩
              | true =>
                obtain ⟨q1, q2, q3, q4, q5, q6⟩ := rd_bytes (hyes rfl) (by have := HSS.out; simpa using this)
                obtain ⟨fa, fc, rfl, _⟩ := hof.shape
                obtain ⟨WF, hWF⟩ : ∃ WF, WF = wf.alloc (.cells #[.int .i64 mf.kind, .int .i64 mf.src, .int .i64 mf.dst, .int .u64 (mf.term : Int), .int .u64 (mf.index : Int), .int .u64 (mf.lterm : Int), .int .u64 (mf.commit : Int), .bool mf.ok, .slice fa mf.ents.length fc, .string mf.state] 32) := ⟨_, rfl⟩
                have hbg : Below wf.heap.size wf WF := by rw [hWF]; exact (Below.refl _ _).alloc (Nat.le_refl _) _
                have hzg : WF.heap[wf.heap.size]? = some (.cells #[.int .i64 mf.kind, .int .i64 mf.src, .int .i64 mf.dst, .int .u64 (mf.term : Int), .int .u64 (mf.index : Int), .int .u64 (mf.lterm : Int), .int .u64 (mf.commit : Int), .bool mf.ok, .slice fa mf.ents.length fc, .string mf.state] 32 (0, 0)) := by rw [hWF]; exact heap_alloc_new _ _
                obtain ⟨z0, z1, z2, z3, z4, z5, z6, z7, z8, z9⟩ := cells10 hzg
                have KB := Lib.hid (bytes_yes mf (.slice fa mf.ents.length fc) WF ((EOwn.sl hof).later hbg) q6 q3 q4 q5 q2 (msg_right mf) (by rw [q1]; have := HSS.out; unfold Fits; simp; omega))
                have eqs : (⟨(msgB mf).toArray⟩ : ByteArray) = s := by rw [q1]
                rw [eqs] at KB
                unfold mgL at KB ⊢
                have HBH := Lib.hid (HBG.out.trans (hbg.mono HBG.out.size))
                clear hno hyes hof hbg hzg q1 q2 q3 q4 q5 q6 eqs
                go_wp2_with fail
                simp only [← hWF]
                clear hWF
                refine KB.out.mono ?_
                rintro e wg ⟨rfl, hbs⟩
                have HBI := Lib.hid (HBH.out.trans (hbs.mono HBH.out.size))
                clear hbs KB z0 z1 z2 z3 z4 z5 z6 z7 z8 z9
                go_wp2_with fail
                go_ret
                exact ⟨rfl, HBI.out⟩
          · clear HSD
            have KF := Lib.hid (read_msg s w4 (by have := HSS.out; omega))
            have HBF := HB4
            go_wp2_with fail
            refine KF.out.mono ?_
            rintro e wf ⟨mf, evf, bf, rfl, hno, hyes, hof, hbf⟩
            have HBG := Lib.hid (HBF.out.trans (hbf.mono HBF.out.size))
            clear KF hbf
            cases bf with
            | false =>
              obtain ⟨_, rfl, rfl⟩ := hno rfl
              rw [eNil]
              obtain ⟨WF, hWF⟩ : ∃ WF, WF = wf.alloc (.cells #[.int .i64 0, .int .i64 0, .int .i64 0, .int .u64 0, .int .u64 0, .int .u64 0, .int .u64 0, .bool false, .slice none 0 0, .string ⟨#[]⟩] 32) := ⟨_, rfl⟩
              have hbg : Below wf.heap.size wf WF := by rw [hWF]; exact (Below.refl _ _).alloc (Nat.le_refl _) _
              have hzg : WF.heap[wf.heap.size]? = some (.cells #[.int .i64 0, .int .i64 0, .int .i64 0, .int .u64 0, .int .u64 0, .int .u64 0, .int .u64 0, .bool false, .slice none 0 0, .string ⟨#[]⟩] 32 (0, 0)) := by rw [hWF]; exact heap_alloc_new _ _
              obtain ⟨z0, z1, z2, z3, z4, z5, z6, z7, z8, z9⟩ := cells10 hzg
              have KS := Lib.hid (same_prog mgNil mgNil (.slice none 0 0) (.slice none 0 0) WF (ESl.nil _) (ESl.nil _) (by decide))
              rw [eNil] at KS
              have HBH := Lib.hid (HBG.out.trans (hbg.mono HBG.out.size))
              clear hno hyes hof hbg hzg
              go_wp2_with fail
              simp only [← hWF]
              clear hWF
              refine KS.out.mono ?_
              rintro e wg ⟨rs, rfl, hrs, hbs⟩
              obtain rfl : rs = true := hrs.2 rfl
              have HBI := Lib.hid (HBH.out.trans (hbs.mono HBH.out.size))
              clear hbs hrs KS z0 z1 z2 z3 z4 z5 z6 z7 z8 z9
              go_wp2_with fail
              go_ret
              exact ⟨rfl, HBI.out⟩
            | true =>
              obtain ⟨q1, q2, q3, q4, q5, q6⟩ := rd_bytes (hyes rfl) (by have := HSS.out; simpa using this)
              obtain ⟨fa, fc, rfl, _⟩ := hof.shape
              obtain ⟨WF, hWF⟩ : ∃ WF, WF = wf.alloc (.cells #[.int .i64 mf.kind, .int .i64 mf.src, .int .i64 mf.dst, .int .u64 (mf.term : Int), .int .u64 (mf.index : Int), .int .u64 (mf.lterm : Int), .int .u64 (mf.commit : Int), .bool mf.ok, .slice fa mf.ents.length fc, .string mf.state] 32) := ⟨_, rfl⟩
              have hbg : Below wf.heap.size wf WF := by rw [hWF]; exact (Below.refl _ _).alloc (Nat.le_refl _) _
              have hzg : WF.heap[wf.heap.size]? = some (.cells #[.int .i64 mf.kind, .int .i64 mf.src, .int .i64 mf.dst, .int .u64 (mf.term : Int), .int .u64 (mf.index : Int), .int .u64 (mf.lterm : Int), .int .u64 (mf.commit : Int), .bool mf.ok, .slice fa mf.ents.length fc, .string mf.state] 32 (0, 0)) := by rw [hWF]; exact heap_alloc_new _ _
              obtain ⟨z0, z1, z2, z3, z4, z5, z6, z7, z8, z9⟩ := cells10 hzg
              have KB := Lib.hid (bytes_yes mf (.slice fa mf.ents.length fc) WF ((EOwn.sl hof).later hbg) q6 q3 q4 q5 q2 (msg_right mf) (by rw [q1]; have := HSS.out; unfold Fits; simp; omega))
              have eqs : (⟨(msgB mf).toArray⟩ : ByteArray) = s := by rw [q1]
              rw [eqs] at KB
              unfold mgL at KB ⊢
              have HBH := Lib.hid (HBG.out.trans (hbg.mono HBG.out.size))
              clear hno hyes hof hbg hzg q1 q2 q3 q4 q5 q6 eqs
              go_wp2_with fail
              simp only [← hWF]
              clear hWF
              refine KB.out.mono ?_
              rintro e wg ⟨rfl, hbs⟩
              have HBI := Lib.hid (HBH.out.trans (hbs.mono HBH.out.size))
              clear hbs KB z0 z1 z2 z3 z4 z5 z6 z7 z8 z9
              go_wp2_with fail
              go_ret
              exact ⟨rfl, HBI.out⟩
        · clear HSD
          have KF := Lib.hid (read_msg s w4 (by have := HSS.out; omega))
          have HBF := HB4
          go_wp2_with fail
          refine KF.out.mono ?_
          rintro e wf ⟨mf, evf, bf, rfl, hno, hyes, hof, hbf⟩
          have HBG := Lib.hid (HBF.out.trans (hbf.mono HBF.out.size))
          clear KF hbf
          cases bf with
          | false =>
            obtain ⟨_, rfl, rfl⟩ := hno rfl
            rw [eNil]
            obtain ⟨WF, hWF⟩ : ∃ WF, WF = wf.alloc (.cells #[.int .i64 0, .int .i64 0, .int .i64 0, .int .u64 0, .int .u64 0, .int .u64 0, .int .u64 0, .bool false, .slice none 0 0, .string ⟨#[]⟩] 32) := ⟨_, rfl⟩
            have hbg : Below wf.heap.size wf WF := by rw [hWF]; exact (Below.refl _ _).alloc (Nat.le_refl _) _
            have hzg : WF.heap[wf.heap.size]? = some (.cells #[.int .i64 0, .int .i64 0, .int .i64 0, .int .u64 0, .int .u64 0, .int .u64 0, .int .u64 0, .bool false, .slice none 0 0, .string ⟨#[]⟩] 32 (0, 0)) := by rw [hWF]; exact heap_alloc_new _ _
            obtain ⟨z0, z1, z2, z3, z4, z5, z6, z7, z8, z9⟩ := cells10 hzg
            have KS := Lib.hid (same_prog mgNil mgNil (.slice none 0 0) (.slice none 0 0) WF (ESl.nil _) (ESl.nil _) (by decide))
            rw [eNil] at KS
            have HBH := Lib.hid (HBG.out.trans (hbg.mono HBG.out.size))
            clear hno hyes hof hbg hzg
            go_wp2_with fail
            simp only [← hWF]
            clear hWF
            refine KS.out.mono ?_
            rintro e wg ⟨rs, rfl, hrs, hbs⟩
            obtain rfl : rs = true := hrs.2 rfl
            have HBI := Lib.hid (HBH.out.trans (hbs.mono HBH.out.size))
            clear hbs hrs KS z0 z1 z2 z3 z4 z5 z6 z7 z8 z9
            go_wp2_with fail
            go_ret
            exact ⟨rfl, HBI.out⟩
          | true =>
            obtain ⟨q1, q2, q3, q4, q5, q6⟩ := rd_bytes (hyes rfl) (by have := HSS.out; simpa using this)
            obtain ⟨fa, fc, rfl, _⟩ := hof.shape
            obtain ⟨WF, hWF⟩ : ∃ WF, WF = wf.alloc (.cells #[.int .i64 mf.kind, .int .i64 mf.src, .int .i64 mf.dst, .int .u64 (mf.term : Int), .int .u64 (mf.index : Int), .int .u64 (mf.lterm : Int), .int .u64 (mf.commit : Int), .bool mf.ok, .slice fa mf.ents.length fc, .string mf.state] 32) := ⟨_, rfl⟩
            have hbg : Below wf.heap.size wf WF := by rw [hWF]; exact (Below.refl _ _).alloc (Nat.le_refl _) _
            have hzg : WF.heap[wf.heap.size]? = some (.cells #[.int .i64 mf.kind, .int .i64 mf.src, .int .i64 mf.dst, .int .u64 (mf.term : Int), .int .u64 (mf.index : Int), .int .u64 (mf.lterm : Int), .int .u64 (mf.commit : Int), .bool mf.ok, .slice fa mf.ents.length fc, .string mf.state] 32 (0, 0)) := by rw [hWF]; exact heap_alloc_new _ _
            obtain ⟨z0, z1, z2, z3, z4, z5, z6, z7, z8, z9⟩ := cells10 hzg
            have KB := Lib.hid (bytes_yes mf (.slice fa mf.ents.length fc) WF ((EOwn.sl hof).later hbg) q6 q3 q4 q5 q2 (msg_right mf) (by rw [q1]; have := HSS.out; unfold Fits; simp; omega))
            have eqs : (⟨(msgB mf).toArray⟩ : ByteArray) = s := by rw [q1]
            rw [eqs] at KB
            unfold mgL at KB ⊢
            have HBH := Lib.hid (HBG.out.trans (hbg.mono HBG.out.size))
            clear hno hyes hof hbg hzg q1 q2 q3 q4 q5 q6 eqs
            go_wp2_with fail
            simp only [← hWF]
            clear hWF
            refine KB.out.mono ?_
            rintro e wg ⟨rfl, hbs⟩
            have HBI := Lib.hid (HBH.out.trans (hbs.mono HBH.out.size))
            clear hbs KB z0 z1 z2 z3 z4 z5 z6 z7 z8 z9
            go_wp2_with fail
            go_ret
            exact ⟨rfl, HBI.out⟩
end Go.Proofs.Ytgdlnjhbencjkaa
