/- CodecUnlike's law. -/
import Derived.Test.YtaojcbdljgcfgaaCTop
import Derived.Test.YtaojcbdljgcfgaaCSm
namespace Go.Proofs.Ytaojcbdljgcfgaa
open Go.RowKit

/-- The bytes of one node begin none of another's. -/
theorem nopre {f h : F} (hf : f.wt ≤ 81000) (nf : f.nok) (rf : (tnd f).right 20 = true) (hh : h.wt ≤ 81000) (nh : h.nok) (rh : (tnd h).right 20 = true) (hne : f ≠ h) (q : List UInt8) : tbs f ++ q ≠ tbs h := by
  intro e
  have h1 := tbs_parse hf nf rf q
  have h2 := tbs_parse hh nh rh []
  rw [List.append_nil, ← e, h1] at h2
  injection h2 with h2
  injection h2 with h3 _
  unfold tnd at h3
  injection h3 with _ _ _ h4
  exact hne h4
theorem ext_pre {S T : ByteArray} {f h : F} (hS : S.data.toList = tbs f) (hT : T.data.toList = tbs h) (hf : f.wt ≤ 81000) (nf : f.nok) (rf : (tnd f).right 20 = true) (hh : h.wt ≤ 81000) (nh : h.nok) (rh : (tnd h).right 20 = true) (hne : f ≠ h) :
    ¬ S.toList = (T.extract 0 S.size).toList := by
  intro e
  rw [ByteArray.toList_eq, ByteArray.toList_eq] at e
  refine nopre hf nf rf hh nh rh hne (T.data.toList.drop S.size) ?_
  rw [← hS, e, ← hT]
  simp
theorem tree_pre {f : F} (h : f.wt ≤ 81000) (hn : f.nok) {r : Bool} {S : ByteArray} (hS : S = if r then ⟨(tbs f).toArray⟩ else ⟨#[]⟩) : S.size ≤ 81016 ∧ (r = true → S.data.toList = tbs f) := by
  subst hS
  have := (tree_ok h hn).2.1
  cases r with
  | true => exact ⟨by simpa [ByteArray.size] using this, fun _ => by simp⟩
  | false => exact ⟨by show 0 ≤ 81016; omega, fun h => by cases h⟩

set_option maxRecDepth 30000 in
set_option maxHeartbeats 4000000 in
theorem unlike_law (la : Option Addr) (ln lc : Nat) (lb : Option Addr) (mn mc : Nat) (w : World) (hf : Flats w w.heap.size la ln) (hg : Flats w w.heap.size lb mn) :
    Calls Try.prog 5 #[.slice la ln lc, .slice lb mn mc] w fun e w' => e = .returned (.bool true) ∧ Below w.heap.size w w' := by
  have HA := Lib.hid (awake_prog w)
  have HF := Lib.hid hf
  have HG := Lib.hid hg
  clear hf hg
  go_enter Try.func5, Try.ntmps5
  go_wp2_with fail
  refine HA.out.mono ?_
  rintro e w1 ⟨rfl, hb1⟩
  have HT := Lib.hid (tree_prog la ln lc w1 (flats_below HF.out (Nat.le_refl _) hb1))
  go_wp2_with fail
  refine HT.out.mono ?_
  rintro e w2 ⟨hb2, hres⟩
  have HB2 := Lib.hid (hb1.trans (hb2.mono hb1.size))
  clear HT HA hb1 hb2
  rcases hres with ⟨ka, kn, kc, f, rfl, hk, hwt, hnok⟩ | rfl
  · have HK := Lib.hid hk
    have HW := Lib.hid hwt
    have HN := Lib.hid hnok
    clear hk hwt hnok
    unfold nodeV
    obtain ⟨W2, hW2⟩ : ∃ W, W = w2.alloc (.cells #[.int .i64 2, .int .u64 0, .string ⟨#[]⟩, .slice ka kn kc] 27) := ⟨_, rfl⟩
    have hbW2 : Hid (Below w.heap.size w W2) := Lib.hid (by rw [hW2]; exact HB2.out.alloc HB2.out.size _)
    have hblk2 : Hid (W2.heap[w2.heap.size]? = some (.cells #[.int .i64 2, .int .u64 0, .string ⟨#[]⟩, .slice ka kn kc] 27 (0, 0))) := Lib.hid (by rw [hW2]; exact heap_alloc_new w2 _)
    have hkW2 : Hid (KidsAt W2 (fun b => w1.heap.size ≤ b ∧ b < W2.heap.size) f (.slice ka kn kc)) := Lib.hid (by
      rw [hW2]; exact HK.out.mono (fun b hb => ⟨hb.1, by simp; omega⟩) (fun b hb => Below.heap_alloc _ _ _ hb.2))
    have hT2 := Lib.hid (tree_prog lb mn mc W2 (flats_below HG.out (Nat.le_refl _) (hbW2.out)))
    have HW2 := Lib.hid hW2
    go_wp2_with fail
    rw [← hW2]
    clear hW2
    refine hT2.out.mono ?_
    rintro e w3 ⟨hb3, hres2⟩
    have HB3 := Lib.hid (hbW2.out.trans (hb3.mono hbW2.out.size))
    have hblk3 := Lib.hid (blockP hb3 hblk2.out)
    have hk3 : Hid (KidsAt w3 (fun b => b < w3.heap.size) f (.slice ka kn kc)) := Lib.hid (hkW2.out.mono (fun b hb => Nat.lt_of_lt_of_le hb.2 hb3.size) (fun b hb => hb3.block b hb.2))
    clear hT2 hb3
    rcases hres2 with ⟨ja, jn, jc, h, rfl, hj, hwt2, hnok2⟩ | rfl
    · have HJ := Lib.hid hj
      have HWh := Lib.hid hwt2
      have HNh := Lib.hid hnok2
      clear hj hwt2 hnok2
      unfold nodeV
      obtain ⟨W3, hW3⟩ : ∃ W, W = w3.alloc (.cells #[.int .i64 2, .int .u64 0, .string ⟨#[]⟩, .slice ja jn jc] 27) := ⟨_, rfl⟩
      have hbW3 : Hid (Below w.heap.size w W3) := Lib.hid (by rw [hW3]; exact HB3.out.alloc HB3.out.size _)
      have ha3 : Below w3.heap.size w3 W3 := by rw [hW3]; exact (Below.refl _ w3).alloc (Nat.le_refl _) _
      have hn3 : Hid (W3.heap[w3.heap.size]? = some (.cells #[.int .i64 2, .int .u64 0, .string ⟨#[]⟩, .slice ja jn jc] 27 (0, 0))) := Lib.hid (by rw [hW3]; exact heap_alloc_new w3 _)
      have hx3 := Lib.hid (blockP ha3 hblk3.out)
      have kf3 : Hid (KidsAt W3 (fun b => b < W3.heap.size) f (.slice ka kn kc)) := Lib.hid (hk3.out.mono (fun b hb => Nat.lt_of_lt_of_le hb ha3.size) (fun b hb => ha3.block b hb))
      have kh3 : Hid (KidsAt W3 (fun b => b < W3.heap.size) h (.slice ja jn jc)) := Lib.hid (HJ.out.mono (fun b hb => Nat.lt_of_lt_of_le hb.2 ha3.size) (fun b hb => ha3.block b hb.2))
      obtain ⟨r, hr⟩ : ∃ r, r = (tnd f).right 20 := ⟨_, rfl⟩
      obtain ⟨S, hS⟩ : ∃ S : ByteArray, S = if r then ⟨(tbs f).toArray⟩ else ⟨#[]⟩ := ⟨_, rfl⟩
      have hwr := Lib.hid (write_prog 2 0 ⟨#[]⟩ f (.slice ka kn kc) W3 (tree_ok HW.out HN.out).1 kf3.out (tree_fits HW.out HN.out) r S hr.symm hS)
      obtain ⟨r', hr'⟩ : ∃ r, r = (tnd h).right 20 := ⟨_, rfl⟩
      obtain ⟨T, hT⟩ : ∃ S : ByteArray, S = if r' then ⟨(tbs h).toArray⟩ else ⟨#[]⟩ := ⟨_, rfl⟩
      have hwr2 := Lib.hid (fun (w4 : World) (hb : Below W3.heap.size W3 w4) => write_prog 2 0 ⟨#[]⟩ h (.slice ja jn jc) w4 (tree_ok HWh.out HNh.out).1 (kh3.out.mono (fun b hb2 => Nat.lt_of_lt_of_le hb2 hb.size) (fun b hb2 => hb.block b hb2)) (tree_fits HWh.out HNh.out) r' T hr'.symm hT)
      unfold nodeV at hwr hwr2
      have PS := Lib.hid (tree_pre HW.out HN.out hS)
      have PT := Lib.hid (tree_pre HWh.out HNh.out hT)
      have HR := Lib.hid hr
      have HR' := Lib.hid hr'
      obtain ⟨x0, x1, x2, x3, _, _, _, _⟩ := block4' hx3.out
      rw [hW3] at x0 x1 x2 x3
      clear hS hr hT hr' ha3
      go_wp2_with fail
      rw [← hW3]
      clear hW3
      refine hwr.out.mono ?_
      rintro e w4 ⟨rfl, hb4⟩
      obtain ⟨y0, y1, y2, y3, _, _, _, _⟩ := block4' (blockP hb4 hn3.out)
      have hw2b := Lib.hid (hwr2.out w4 hb4)
      have HB4 := Lib.hid hb4
      clear hwr hwr2 hb4
      go_wp2_with fail
      refine hw2b.out.mono ?_
      rintro e w5 ⟨rfl, hb5⟩
      have HB35 : Hid (Below W3.heap.size W3 w5) := Lib.hid (HB4.out.trans (hb5.mono HB4.out.size))
      have HB5 : Hid (Below w.heap.size w w5) := Lib.hid (hbW3.out.trans (HB35.out.mono hbW3.out.size))
      clear hw2b hb5 x0 x1 x2 x3 y0 y1 y2 y3
      obtain ⟨x0, x1, x2, x3, _, _, _, _⟩ := block4' (blockP HB35.out hx3.out)
      obtain ⟨y0, y1, y2, y3, _, _, _, _⟩ := block4' (blockP HB35.out hn3.out)
      obtain ⟨hSs, hSl⟩ := PS.out
      obtain ⟨hTs, hTl⟩ := PT.out
      have hSI : (S.size : Int) ≤ 81016 := by omega
      have hTI : (T.size : Int) ≤ 81016 := by omega
      have HSl := Lib.hid hSl
      have HTl := Lib.hid hTl
      clear hSl hTl
      cases r with
      | false =>
        go_wp2_with fail
        go_ret
        exact ⟨rfl, HB5.out⟩
      | true =>
        cases r' with
        | false =>
          go_wp2_with fail
          go_ret
          exact ⟨rfl, HB5.out⟩
        | true =>
          have HSe : Hid (S.data.toList = tbs f) := Lib.hid (HSl.out rfl)
          have HTe : Hid (T.data.toList = tbs h) := Lib.hid (HTl.out rfl)
          clear HSl HTl
          have kf5 : KidsAt w5 (· < w5.heap.size) f (.slice ka kn kc) := kf3.out.mono (fun b hb => Nat.lt_of_lt_of_le hb HB35.out.size) (fun b hb => HB35.out.block b hb)
          have kh5 : KidsAt w5 (· < w5.heap.size) h (.slice ja jn jc) := kh3.out.mono (fun b hb => Nat.lt_of_lt_of_le hb HB35.out.size) (fun b hb => HB35.out.block b hb)
          have hsm := Lib.hid (csame_prog (tnd f) (tnd h) (.slice ka kn kc) (.slice ja jn jc) w5 (tree_ok HW.out HN.out).1 kf5 kh5)
          obtain ⟨q, hq⟩ : ∃ q, (tnd f).eqB (tnd h) = q := ⟨_, rfl⟩
          rw [hq] at hsm
          unfold nodeV tnd at hsm
          have HQ := Lib.hid hq
          clear kf5 kh5 hq
          go_wp2_with fail
          refine hsm.out.mono ?_
          rintro e w6 ⟨rfl, hb6⟩
          have HB6 : Hid (Below w.heap.size w w6) := Lib.hid (HB5.out.trans (hb6.mono HB5.out.size))
          clear hsm hb6 x0 x1 x2 x3 y0 y1 y2 y3
          cases q with
          | true =>
            have heq : S.toList = T.toList := by
              have h1 := (ndEqB_iff _ _).1 HQ.out
              unfold tnd at h1
              injection h1 with _ _ _ h2
              rw [ByteArray.toList_eq, ByteArray.toList_eq, HSe.out, HTe.out, h2]
            go_wp2_with fail
            go_ret
            exact ⟨rfl, HB6.out⟩
          | false =>
            have hne : f ≠ h := fun e => by
              have h1 : (tnd f).eqB (tnd h) = true := (ndEqB_iff _ _).2 (by rw [e])
              rw [HQ.out] at h1; cases h1
            by_cases hle : S.size ≤ T.size
            · have hleI : (S.size : Int) ≤ (T.size : Int) := by omega
              have hpre := ext_pre HSe.out HTe.out HW.out HN.out HR.out.symm HWh.out HNh.out HR'.out.symm hne
              have HNE := Lib.hid hne
              clear hne
              go_wp2_with fail
              go_quiet (fail)
              go_wp2_with fail
              go_ret
              refine ⟨?_, HB6.out.trans ((Same.of _ _).below _)⟩
              rw [show (!S.toList == (T.extract 0 S.size).toList) = true from by simpa using hpre]
              rfl
            · have hleI : (T.size : Int) ≤ (S.size : Int) := by omega
              have hlt2 : ¬ (S.size : Int) ≤ (T.size : Int) := by omega
              have hpre := ext_pre HTe.out HSe.out HWh.out HNh.out HR'.out.symm HW.out HN.out HR.out.symm (Ne.symm hne)
              have hpre2 : ¬ (S.extract 0 T.size).toList = T.toList := fun e => hpre e.symm
              have HNE := Lib.hid hne
              clear hne
              go_wp2_with fail
              go_quiet (fail)
              go_wp2_with fail
              go_ret
              refine ⟨?_, HB6.out.trans ((Same.of _ _).below _)⟩
              rw [show (!(S.extract 0 T.size).toList == T.toList) = true from by simpa using hpre2]
              rfl
    · unfold nodeV
      clear hblk3 hk3
      go_wp2_with fail
      go_ret
      exact ⟨rfl, HB3.out.alloc HB3.out.size _⟩
  · unfold nodeV
    obtain ⟨W2, hW2⟩ : ∃ W, W = w2.alloc (.cells #[.int .i64 0, .int .u64 0, .string ⟨#[]⟩, .slice none 0 0] 27) := ⟨_, rfl⟩
    have hbW2 : Hid (Below w.heap.size w W2) := Lib.hid (by rw [hW2]; exact HB2.out.alloc HB2.out.size _)
    have hT2 := Lib.hid (tree_prog lb mn mc W2 (flats_below HG.out (Nat.le_refl _) (hbW2.out)))
    go_wp2_with fail
    rw [← hW2]
    clear hW2
    refine hT2.out.mono ?_
    rintro e w3 ⟨hb3, hres2⟩
    have HB3 := Lib.hid (hbW2.out.trans (hb3.mono hbW2.out.size))
    clear hT2 hb3
    rcases hres2 with ⟨ja, jn, jc, h, rfl, _, _, _⟩ | rfl
    all_goals
      unfold nodeV
      go_wp2_with fail
      go_ret
      exact ⟨rfl, HB3.out.alloc HB3.out.size _⟩
end Go.Proofs.Ytaojcbdljgcfgaa
