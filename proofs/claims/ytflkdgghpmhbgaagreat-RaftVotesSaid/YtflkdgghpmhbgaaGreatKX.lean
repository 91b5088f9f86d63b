/- raft: RaftVotes: the walk. -/
import Derived.Test.YtflkdgghpmhbgaaGreatKR
import Derived.Test.YtflkdgghpmhbgaaGreatKW
import Derived.Deep.CutBlock
import Derived.Deep.CutRange
namespace Go.Proofs.YtflkdgghpmhbgaaGreat
open Go.RowKit Go.Maps

theorem SmA.ok {x : Ac} (h : SmA x) : EntsOk x.2.2.1.ents ∧ (entsL x.2.2.1.ents).length ≤ 2000 := by
  refine ⟨fun y hy => ?_, ?_⟩
  · obtain ⟨h1, h2⟩ := h.ents y hy
    exact ⟨by unfold m64; omega, by unfold m64; omega⟩
  · have key : ∀ E : List Ent, (∀ y ∈ E, y.2.size ≤ 100) → (entsL E).length ≤ 116 * E.length := by
      intro E
      induction E with
      | nil => intro _; exact Nat.le_refl _
      | cons e E ih =>
        intro he
        have h1 := ih fun y hy => he y (List.mem_cons_of_mem _ hy)
        have h2 := he e List.mem_cons_self
        rw [entsL_cons]
        simp only [List.length_append, List.length_cons, textL, numL_len, data_len]
        omega
    have := key x.2.2.1.ents (fun y hy => (h.ents y hy).1)
    have := h.few
    omega
theorem feedAll_len (x : RN) : x.feedAll.length ≤ x.ps.length := by unfold RN.feedAll; rw [List.length_map]; exact othersTo_len _ _
theorem win_len (x : RN) : x.win.2.length ≤ x.ps.length := by
  unfold RN.win
  split
  · exact Nat.zero_le _
  · have h1 := feedAll_len (x.led.add ⟨#[]⟩).count
    have h2 : (x.led.add ⟨#[]⟩).count.ps.length = x.ps.length := by
      rw [(count_same _).2.2.1]
      show (List.replicate _ _).length = _
      rw [List.length_replicate]
    rw [h2] at h1
    exact h1
theorem stand_len (x : RN) : x.stand.2.length ≤ x.ps.length := by
  have hc : ∀ s, (x.cand s).ps.length = x.ps.length := fun s => by show (List.set _ _ _).length = _; rw [List.length_set, List.length_replicate]
  unfold RN.stand
  split
  · split
    · have := win_len (x.cand (x.s.setTerm (x.s.c.term + 1) (x.id : Int)).1)
      rw [hc] at this
      exact this
    · show (List.map _ _).length ≤ _
      rw [List.length_map]
      have := othersTo_len (x.cand (x.s.setTerm (x.s.c.term + 1) (x.id : Int)).1).id (x.cand (x.s.setTerm (x.s.c.term + 1) (x.id : Int)).1).ps.length
      rw [hc] at this ⊢
      exact this
  · exact Nat.zero_le _
theorem tick_len (x : RN) : x.tick.2.length ≤ x.ps.length := by
  unfold RN.tick
  split
  · exact Nat.zero_le _
  · split
    · split
      · exact feedAll_len x.beat
      · exact Nat.zero_le _
    · split
      · exact stand_len x.wait
      · exact Nat.zero_le _
theorem one_le {x : RN} (hid : x.id < x.ps.length) (m : Mg) : [m].length ≤ x.ps.length := by simp only [List.length_singleton]; omega
theorem chosen_len {x : RN} (m : Mg) (d : Nat) : (x.chosen m d).2.length ≤ x.ps.length := by
  have hlen : (x.got d).ps.length = x.ps.length := by show (List.set _ _ _).length = _; rw [List.length_set]
  unfold RN.chosen
  split
  · split
    · have := win_len (x.got d)
      rw [hlen] at this
      exact this
    · exact Nat.zero_le _
  · exact Nat.zero_le _
theorem take2_len {x : RN} (hid : x.id < x.ps.length) (m : Mg) (b : Nat) (E : List Ent) : (x.take2 m b E).2.length ≤ x.ps.length := by
  unfold RN.take2
  split
  · exact one_le hid _
  · exact Nat.zero_le _
theorem led2_len {x : RN} (hid : x.id < x.ps.length) (m : Mg) : (x.led2 m).2.length ≤ x.ps.length := by
  unfold RN.led2
  split
  · exact one_le hid _
  · split
    · exact Nat.zero_le _
    · split
      · unfold RN.install
        split
        · split
          · exact one_le hid _
          · exact Nat.zero_le _
        · exact one_le hid _
      · unfold RN.take
        split
        · split
          · exact one_le hid _
          · exact take2_len (x := x.follow m.src) hid m _ _
        · split
          · exact take2_len (x := x.follow m.src) hid m _ _
          · exact one_le hid _
theorem told_len {x : RN} (hid : x.id < x.ps.length) (m : Mg) (d : Nat) : (x.told m d).2.length ≤ x.ps.length := by
  unfold RN.told
  split
  · split
    · split
      · exact Nat.zero_le _
      · exact one_le hid _
    · exact one_le hid _
  · exact Nat.zero_le _
theorem kindly_len {x : RN} (hid : x.id < x.ps.length) (m : Mg) : (x.kindly m).2.length ≤ x.ps.length := by
  unfold RN.kindly
  split
  · unfold RN.asked
    split
    · split
      · exact one_le hid _
      · exact Nat.zero_le _
    · exact one_le hid _
  · split
    · exact chosen_len m _
    · split
      · exact led2_len hid m
      · split
        · exact told_len hid m _
        · exact Nat.zero_le _
theorem receive_len {x : RN} (m : Mg) (hid : x.id < x.ps.length) : (x.receive m).2.length ≤ x.ps.length := by
  have hj : (x.join m.term).1.ps = x.ps ∧ (x.join m.term).1.id = x.id := by unfold RN.join; split <;> exact ⟨rfl, rfl⟩
  unfold RN.receive
  split
  · exact Nat.zero_le _
  · split
    · split
      · have := kindly_len (x := (x.join m.term).1) (by rw [hj.1, hj.2]; exact hid) m
        rw [hj.1] at this
        exact this
      · exact Nat.zero_le _
    · exact kindly_len hid m
theorem propose_len {x : RN} (cmd : ByteArray) : (x.propose cmd).2.2.2.length ≤ x.ps.length := by
  unfold RN.propose
  split
  · split
    · have := feedAll_len (x.add cmd).count
      rw [(count_same _).2.2.1] at this
      exact this
    · exact Nat.zero_le _
  · exact Nat.zero_le _
section
variable {w w' w0 : World} {p p' : Pl} {x y : RN} {g mb n : Nat} {f F : Vm}
theorem VW.up1 {j : Nat} (h : VW w0 w p x g mb (n + j) f) : VW w0 w p x g mb (n + (j + 1)) f := ⟨h.xw, h.up, h.below, h.im.mono (by omega), h.mbl, h.mbo, h.gn, h.go⟩
theorem Vm.set_le {t : Nat} {u : Int} (h : f.le F) (hF : F t = some u) : (f.set t u).le F := fun j z e => by
  unfold Vm.set at e
  split at e
  · rename_i hj
    rw [hj, hF, ← e]
  · exact h j z e
theorem row_vote {B : Nat} {v : Value} {l : List Mg} (hr : MRow w B v l) (h : VW w0 w p x g mb n f) (hg : w.grownBy w' (some mb)) : MRow w' B v l := hr.mv fun k hk => by
  refine hg.block k (hr.own k hk).2 fun e => ?_
  injection e with e
  obtain ⟨es, clock, hm⟩ := h.im.obj
  obtain ⟨cur, hb⟩ := hr.typ k hk
  rw [e, hm] at hb
  cases hb
theorem gn_cell (h : VW w0 w p x g mb n f) : w.cell? ⟨g, 0, none⟩ = some (.pointer (some ⟨p.db, 0, none⟩)) := by
  obtain ⟨cs, hg⟩ := h.gn
  unfold World.cell?
  rw [hg]
  rfl
theorem vd_cell {db : Nat} {dv : Value} {d : DS} (h : VD w0 w db dv d g mb n f) : w.cell? ⟨g, 0, none⟩ = some (.pointer (some ⟨db, 0, none⟩)) := by
  obtain ⟨cs, hg⟩ := h.gn
  unfold World.cell?
  rw [hg]
  rfl
theorem fuel_cells {z : Nat} {u : Value} {cs : Array Value} (h : VW w0 w p x g mb n f) (hz : w.heap[z]? = some (.cells cs 42 (0, 0))) (hu : cs[1]? = some u) (hx : XW w' p' y) (hc : XCh p w w' p') :
    w'.cell? ⟨g, 0, none⟩ = some (.pointer (some ⟨p.db, 0, none⟩)) ∧ w'.cell? ⟨z, 1, none⟩ = some u := by
  have h1 := gn_cell (h.step hx hc)
  rw [hc.db] at h1
  refine ⟨h1, ?_⟩
  unfold World.cell?
  rw [h.kept hc hz (by decide) (by decide) (by decide) (by decide) (by decide) (by decide)]
  exact hu
theorem crash_cells {z : Nat} {u : Value} {cs : Array Value} {dv' : Value} {d : DS} (h : VW w0 w p x g mb n f) (hz : w.heap[z]? = some (.cells cs 42 (0, 0))) (hu : cs[1]? = some u) (hd : VD w0 w' p.db dv' d g mb n f) (hc : Ch p.db p.dv w w' dv') :
    w'.cell? ⟨g, 0, none⟩ = some (.pointer (some ⟨p.db, 0, none⟩)) ∧ w'.cell? ⟨z, 1, none⟩ = some u := by
  refine ⟨vd_cell hd, ?_⟩
  unfold World.cell?
  rw [Ch.keptT h.xw.lw.disk hc hz (by decide) (by decide)]
  exact hu
end
set_option maxHeartbeats 16000000 in
set_option maxRecDepth 100000 in
theorem votes_law (A : List Ac) (v : Value) (idI nI : Int) (w : World) (h : ASl w v A) :
    Calls Tryz.prog 4 #[.int .i64 idI, .int .i64 nI, v] w fun e w' => e = .returned (.bool true) ∧ Below w.heap.size w w' := by
  have K0 := Lib.hid (awake_prog w)
  by_cases c1 : nI < 1
  · obtain ⟨la, lc, rfl, hml, hwf, hcells⟩ := h
    clear hwf hcells
    go_enter Tryz.func4, Tryz.ntmps4
    go_wp2_with fail
    refine K0.out.mono ?_
    rintro e w1 ⟨rfl, hb1⟩
    go_wp2_with fail
    go_ret
    exact ⟨rfl, hb1⟩
  by_cases c2 : 9 < nI
  · obtain ⟨la, lc, rfl, hml, hwf, hcells⟩ := h
    clear hwf hcells
    go_enter Tryz.func4, Tryz.ntmps4
    go_wp2_with fail
    refine K0.out.mono ?_
    rintro e w1 ⟨rfl, hb1⟩
    go_wp2_with fail
    go_ret
    exact ⟨rfl, hb1⟩
  by_cases c3 : idI < 0
  · obtain ⟨la, lc, rfl, hml, hwf, hcells⟩ := h
    clear hwf hcells
    go_enter Tryz.func4, Tryz.ntmps4
    go_wp2_with fail
    refine K0.out.mono ?_
    rintro e w1 ⟨rfl, hb1⟩
    go_wp2_with fail
    go_ret
    exact ⟨rfl, hb1⟩
  by_cases c4 : nI ≤ idI
  · obtain ⟨la, lc, rfl, hml, hwf, hcells⟩ := h
    clear hwf hcells
    go_enter Tryz.func4, Tryz.ntmps4
    go_wp2_with fail
    refine K0.out.mono ?_
    rintro e w1 ⟨rfl, hb1⟩
    go_wp2_with fail
    go_ret
    exact ⟨rfl, hb1⟩
  obtain ⟨id, rfl⟩ : ∃ id : Nat, idI = (id : Int) := ⟨idI.toNat, by omega⟩
  obtain ⟨n, rfl⟩ : ∃ n : Nat, nI = (n : Int) := ⟨nI.toNat, by omega⟩
  have hidn : id < n := by omega
  have hn9 : n ≤ 9 := by omega
  have KS := Lib.hid (fun W (hb : Below w.heap.size w W) => small_prog A v W (by
    obtain ⟨la, lc, e, h1, h2, h3⟩ := h
    refine ⟨la, lc, e, h1, fun x hx => ⟨(h2 x hx).1.later hb, (h2 x hx).2⟩, fun hne => ?_⟩
    obtain ⟨g, o, e1, e2, e3⟩ := h3 hne
    exact ⟨g, o, e1, Nat.lt_of_lt_of_le e2 hb.size, fun i x hx j u hu => cellB hb (e3 i x hx j u hu)⟩) 40 (by omega))
  obtain ⟨la, lc, rfl, hml, hwf, hcells⟩ := h
  have HWF := Lib.hid hwf
  have HC := Lib.hid hcells
  have HIN := Lib.hid (And.intro hidn hn9)
  clear hwf hcells
  go_enter Tryz.func4, Tryz.ntmps4
  go_wp2_with fail
  refine K0.out.mono ?_
  rintro e w1 ⟨rfl, hb1⟩
  have HB1 := Lib.hid hb1
  have KS1 := Lib.hid (KS.out w1 hb1)
  clear hb1 K0 KS
  go_wp2_with fail
  refine KS1.out.mono ?_
  rintro e w2 ⟨r, rfl, hr, hb2⟩
  have HB2 := Lib.hid (HB1.out.trans (hb2.mono HB1.out.size))
  cases r with
  | false =>
    clear hr hb2 KS1
    go_wp2_with fail
    go_ret
    exact ⟨rfl, HB2.out⟩
  | true =>
    have HSA : Hid (A.length ≤ 40 ∧ ∀ x ∈ A, SmA x) := Lib.hid (hr rfl)
    have KL := Lib.hid (lstart_prog id n hidn hn9 w2)
    clear hr hb2 KS1 c1 c2 c3 c4
    go_wp2_with fail
    refine KL.out.mono ?_
    rintro e w3 ⟨g, p3, rfl, hx3, hb3, ho3, hg3, hz3, hu3⟩
    have hmm := @run_makeMap Tryz.prog
    obtain ⟨W4, hW4⟩ : ∃ W4, W4 = w3.alloc (.map #[] 0) := ⟨_, rfl⟩
    obtain ⟨mb, hmb⟩ : ∃ mb, mb = w3.heap.size := ⟨_, rfl⟩
    have hB3 : Below w.heap.size w w3 := HB2.out.trans (hb3.mono HB2.out.size)
    have hs2 := HB2.out.size
    have hV4 : VW w W4 p3 (RN.start id n log0) g mb 0 (fun _ => none) := by
      rw [hW4, hmb]
      exact ⟨hx3.later ((Below.refl _ _).alloc (Nat.le_refl _) _), ⟨Nat.le_trans hs2 (hu3 _ (.inl rfl)), Nat.le_trans hs2 (hu3 _ (.inr (.inl rfl))), Nat.le_trans hs2 (hu3 _ (.inr (.inr (.inl rfl)))), Nat.le_trans hs2 (hu3 _ (.inr (.inr (.inr (.inl rfl))))), fun k hk => Nat.le_trans hs2 (hu3 _ (.inr (.inr (.inr (.inr (.inl hk)))))), fun k hk => Nat.le_trans hs2 (hu3 _ (.inr (.inr (.inr (.inr (.inr hk))))))⟩,
        hB3.alloc hB3.size _, VtM.made w3, hB3.size, hx3.low.off (Nat.le_refl _), ⟨_, (heap_alloc_old _ _ (block_lt hz3)).trans hz3⟩, ho3⟩
    have g1 : (w3.alloc (.map #[] 0)).cell? ⟨g, 1, none⟩ = some (.pointer (some ⟨p3.xb, 0, none⟩)) := by
      unfold World.cell?
      rw [heap_alloc_old _ _ (block_lt hz3), hz3]
      rfl
    have HV4 := Lib.hid hV4
    have HF4 : Hid (VF id n 1000 8589934592 0 (RN.start id n log0) 0 (-1)) := Lib.hid (VF.again (c := fresh) (d := disk0) ⟨fresh_ok, by decide, by decide, by decide, .inr ⟨rfl, .inl rfl⟩⟩ readC_nil rfl (by decide) rfl rfl HIN.out.1 HIN.out.2)
    clear hx3 hb3 ho3 hg3 hz3 hu3 hB3 hs2 hV4 KL
    go_wp2_with fail
    simp only [← hW4, ← hmb]
    clear hW4 hmb g1 hmm
    have hA40 : A.length ≤ 40 := HSA.out.1
    go_loopw [10, 11, 61] (fun s10 s11 i wr => ∃ (k : Nat) (p : Pl) (x : RN) (nv : Nat) (f : Vm) (t : Nat) (vt : Int), k ≤ A.length ∧ i = .int .i64 (k : Int) ∧ s10 = .int .u64 (t : Int) ∧ s11 = .pointer (some ⟨p.xb, 0, none⟩) ∧ Hid (VW w wr p x g mb nv f) ∧ Hid (VF id n (1000 + 5000 * k) (8589934592 + 1000 * k) (100 * k) x t vt ∧ Con f t vt ∧ nv ≤ 1000 * k)) (fun _ _ i _ => A.length - (intOf i).toNat)
    case atStart => exact ⟨0, p3, _, 0, _, 0, -1, by omega, rfl, rfl, rfl, HV4, Lib.hid ⟨HF4.out, Con.none _ _, by omega⟩⟩
    case round =>
      clear HV4 HF4
      obtain ⟨k, p, x, nv, f, t, vt, hk, rfl, rfl, rfl, HV, HF⟩ := hrel
      by_cases hlt : k < A.length
      · have hkI : (k : Int) < (A.length : Int) := by omega
        have hk0 : (0 : Int) ≤ (k : Int) := by omega
        obtain ⟨⟨what, N, m, ev, nr, ix, tx⟩, hx⟩ : ∃ x, A[k]? = some x := ⟨_, List.getElem?_eq_getElem hlt⟩
        obtain ⟨g0, o0, rfl, hg0, hcs⟩ := HC.out (fun e => by rw [e] at hlt; simp at hlt)
        obtain ⟨hES, hWA⟩ := HWF.out _ (List.mem_of_getElem? hx)
        have HSX : Hid (SmA (what, N, m, ev, nr, ix, tx) ∧ WfA (what, N, m, ev, nr, ix, tx)) := Lib.hid ⟨HSA.out.2 _ (List.mem_of_getElem? hx), hWA⟩
        have hES : ESl w ev m.ents := hES
        have hES0 := hES
        obtain ⟨ea, ec, rfl, _, _⟩ := hES0
        have d : ∀ j u, (acC (what, N, m, .slice ea m.ents.length ec, nr, ix, tx))[j]? = some u → wr.cell? ⟨g0, o0 + k * 15 + j, none⟩ = some u := fun j u hu => cellB HV.out.below (hcs k _ hx j u hu)
        have d0 := d 0 _ rfl
        have d1 := d 1 _ rfl
        have d2 := d 2 _ rfl
        have d3 := d 3 _ rfl
        have d4 := d 4 _ rfl
        have d5 := d 5 _ rfl
        have d6 := d 6 _ rfl
        have d7 := d 7 _ rfl
        have d8 := d 8 _ rfl
        have d9 := d 9 _ rfl
        have d10 := d 10 _ rfl
        have d11 := d 11 _ rfl
        have d12 := d 12 _ rfl
        have d13 := d 13 _ rfl
        have d14 := d 14 _ rfl
        rw [Nat.add_zero] at d0
        have HES := Lib.hid hES
        obtain ⟨W5, hW5⟩ : ∃ W5, W5 = wr.alloc (.cells #[.int .i64 what, .int .i64 N, .int .i64 m.kind, .int .i64 m.src, .int .i64 m.dst, .int .u64 (m.term : Int), .int .u64 (m.index : Int), .int .u64 (m.lterm : Int), .int .u64 (m.commit : Int), .bool m.ok, .slice ea m.ents.length ec, .string m.state, .bool nr, .int .u64 (ix : Int), .string tx] 42) := ⟨_, rfl⟩
        obtain ⟨z, hz⟩ : ∃ z, z = wr.heap.size := ⟨_, rfl⟩
        have HV5 : Hid (VW w W5 p x g mb nv f) := Lib.hid (by rw [hW5]; exact HV.out.later ((Below.refl _ _).alloc (Nat.le_refl _) _))
        have HZ5 : Hid (W5.heap[z]? = some (.cells #[.int .i64 what, .int .i64 N, .int .i64 m.kind, .int .i64 m.src, .int .i64 m.dst, .int .u64 (m.term : Int), .int .u64 (m.index : Int), .int .u64 (m.lterm : Int), .int .u64 (m.commit : Int), .bool m.ok, .slice ea m.ents.length ec, .string m.state, .bool nr, .int .u64 (ix : Int), .string tx] 42 (0, 0))) := Lib.hid (by rw [hW5, hz]; exact heap_alloc_new _ _)
        clear d hcs hES hx hWA hg0 HV
        go_upto_block 2 with (fail)
        simp only [← hW5, ← hz]
        clear hz hW5 d0 d1 d2 d3 d4 d5 d6 d7 d8 d9 d10 d11 d12 d13 d14
        obtain ⟨F0, hF0⟩ := TL.start HF.out.1 HF.out.2.1
        have HT0 := Lib.hid hF0
        have HCF := Lib.hid (And.intro HF.out.2.1 HF.out.2.2)
        clear hF0
        go_cut [11, 14, 61] from 61 to 191 (fun s11 s14 s61 wx => ∃ (pp : Pl) (y : RN) (l : List Mg) (F : Vm), s61 = .int .i64 (k : Int) ∧ s11 = .pointer (some ⟨pp.xb, 0, none⟩) ∧ Hid (MRow wx w.heap.size s14 l ∧ l.length ≤ 450) ∧ Hid (VW w wx pp y g mb nv f) ∧ Hid (wx.heap[z]? = some (.cells #[.int .i64 what, .int .i64 N, .int .i64 m.kind, .int .i64 m.src, .int .i64 m.dst, .int .u64 (m.term : Int), .int .u64 (m.index : Int), .int .u64 (m.lterm : Int), .int .u64 (m.commit : Int), .bool m.ok, .slice ea m.ents.length ec, .string m.state, .bool nr, .int .u64 (ix : Int), .string tx] 42 (0, 0))) ∧ Hid (TL id n (6000 + 5000 * k) (8589935592 + 1000 * k) (100 * k + 100) y t vt f F l ∧ (y.s.dn = true → l = [] ∨ what = 0)))
        case first =>
          by_cases e0 : what = 0
          · subst e0
            have hN : 0 ≤ N ∧ N ≤ 50 := HSX.out.1.ticks rfl
            obtain ⟨c, rfl⟩ : ∃ c : Nat, N = (c : Int) := ⟨N.toNat, by omega⟩
            have hc50 : c ≤ 50 := by omega
            have hz5 := HZ5.out
            have z1 : W5.cell? ⟨z, 1, none⟩ = some (.int .i64 (c : Int)) := by unfold World.cell?; rw [hz5]; rfl
            clear hz5 hN
            go_wp2_with fail
            clear z1
            go_loopw [14, 71] (fun s14 i wt => ∃ (j : Nat) (pj : Pl) (xj : RN) (l : List Mg) (F : Vm), j ≤ c ∧ i = .int .i64 (j : Int) ∧ pj.xb = p.xb ∧ Hid (MRow wt w.heap.size s14 l ∧ l.length ≤ 9 * j) ∧ Hid (VW w wt pj xj g mb nv f) ∧ Hid (wt.heap[z]? = some (.cells #[.int .i64 0, .int .i64 (c : Int), .int .i64 m.kind, .int .i64 m.src, .int .i64 m.dst, .int .u64 (m.term : Int), .int .u64 (m.index : Int), .int .u64 (m.lterm : Int), .int .u64 (m.commit : Int), .bool m.ok, .slice ea m.ents.length ec, .string m.state, .bool nr, .int .u64 (ix : Int), .string tx] 42 (0, 0))) ∧ Hid (TL id n (1000 + 5000 * k + 90 * j) (8589934592 + 1000 * k + 2 * j) (100 * k + j) xj t vt f F l)) (fun _ i _ => c - (intOf i).toNat)
            case atStart => exact ⟨0, p, x, [], F0, by omega, rfl, rfl, Lib.hid ⟨MRow.nil _ _, Nat.zero_le _⟩, HV5, HZ5, HT0⟩
            case round =>
              obtain ⟨j, pj, xj, l, F, hj, rfl, hpx, HM, HVj, HZj, HT⟩ := hrel
              by_cases hlj : j < c
              · have hjI : (j : Int) < (c : Int) := by omega
                have hj0 : (0 : Int) ≤ (j : Int) := by omega
                have KT := Lib.hid (tick_prog HVj.out.xw HT.out.vf.inn (by have := HT.out.vf.pat; omega) (by omega) (by omega))
                rw [hpx] at KT
                go_wp2_with fail
                refine KT.out.mono ?_
                rintro e w6 ⟨⟨tv, rfl, ht⟩, p6, hx6, hc6⟩
                obtain ⟨F6, hT6⟩ := HT.out.tick (by omega) (by omega) (by omega) (by have := HIN.out; omega)
                have HT6 := Lib.hid hT6
                have HV6 := Lib.hid (HVj.out.step hx6 hc6)
                have HZ6 := Lib.hid (HVj.out.kept hc6 HZj.out (by decide) (by decide) (by decide) (by decide) (by decide) (by decide))
                have HM6 := Lib.hid (HM.out.1.ch HVj.out hc6)
                have HTR := Lib.hid (MOwn.row ht)
                have HXB : Hid (p6.xb = p.xb) := Lib.hid (hc6.xb.trans hpx)
                have HLN : Hid (xj.tick.2.length ≤ 9) := Lib.hid (Nat.le_trans (tick_len xj) HT.out.vf.inn.n)
                have HLS : Hid (l.length + xj.tick.2.length ≤ 1000000) := Lib.hid (by have := HLN.out; have := HM.out.2; omega)
                have HSZ := Lib.hid HV6.out.below.size
                clear hx6 hc6 ht hT6 KT
                go_wp2_with (at_builtin; refine list_appMR rfl _ _ rfl w.heap.size _ l rfl HM6.out _ tv xj.tick.2 rfl HTR.out HLS.out HSZ.out ?_)
                intro v7 w7 hown7 hgr7
                have HV7 := Lib.hid (HV6.out.grew HM6.out hgr7)
                have HZ7 := Lib.hid (cell_grew HM6.out hgr7 HZ6.out (by decide))
                have HM7 : Hid (MRow w7 w.heap.size v7 (l ++ xj.tick.2) ∧ (l ++ xj.tick.2).length ≤ 9 * (j + 1)) := Lib.hid ⟨hown7, by rw [List.length_append]; have := HLN.out; have := HM.out.2; omega⟩
                clear hown7 hgr7
                go_wp2_with fail
                go_roundw
                case rel => exact ⟨j + 1, p6, _, _, F6, by omega, by go_num, HXB.out, HM7, HV7, HZ7, Lib.hid (HT6.out.mono (by omega) (by omega) (by omega))⟩
                case measure => simp [intOf]; omega
              · have hjI : ¬ (j : Int) < (c : Int) := by omega
                have hjc : j = c := by omega
                have HE : Hid (TL id n (6000 + 5000 * k) (8589935592 + 1000 * k) (100 * k + 100) xj t vt f F l ∧ (xj.s.dn = true → l = [] ∨ (0 : Int) = 0)) := Lib.hid ⟨HT.out.mono (by omega) (by omega) (by omega), fun _ => .inr rfl⟩
                have HMl : l.length ≤ 450 := by have := HM.out.2; omega
                go_wp2_with fail
                go_meet
                exact ⟨pj, xj, l, F, rfl, by rw [hpx], Lib.hid ⟨HM.out.1, HMl⟩, HVj, HZj, HE⟩
          · by_cases e1 : what = 1
            · subst e1
              have hz5 := HZ5.out
              have z2 : W5.cell? ⟨z, 2, none⟩ = some (.int .i64 m.kind) := by unfold World.cell?; rw [hz5]; rfl
              have z3 : W5.cell? ⟨z, 3, none⟩ = some (.int .i64 m.src) := by unfold World.cell?; rw [hz5]; rfl
              have z4 : W5.cell? ⟨z, 4, none⟩ = some (.int .i64 m.dst) := by unfold World.cell?; rw [hz5]; rfl
              have z5 : W5.cell? ⟨z, 5, none⟩ = some (.int .u64 (m.term : Int)) := by unfold World.cell?; rw [hz5]; rfl
              have z6 : W5.cell? ⟨z, 6, none⟩ = some (.int .u64 (m.index : Int)) := by unfold World.cell?; rw [hz5]; rfl
              have z7 : W5.cell? ⟨z, 7, none⟩ = some (.int .u64 (m.lterm : Int)) := by unfold World.cell?; rw [hz5]; rfl
              have z8 : W5.cell? ⟨z, 8, none⟩ = some (.int .u64 (m.commit : Int)) := by unfold World.cell?; rw [hz5]; rfl
              have z9 : W5.cell? ⟨z, 9, none⟩ = some (.bool m.ok) := by unfold World.cell?; rw [hz5]; rfl
              have z10 : W5.cell? ⟨z, 10, none⟩ = some (.slice ea m.ents.length ec) := by unfold World.cell?; rw [hz5]; rfl
              have z11 : W5.cell? ⟨z, 11, none⟩ = some (.string m.state) := by unfold World.cell?; rw [hz5]; rfl
              have hSM := HSX.out.1
              have hEO := hSM.ok
              have HB := Lib.hid (And.intro (show m.index ≤ 4294967296 from hSM.index) (And.intro (show m.commit ≤ 4294967296 from hSM.commit) (And.intro (show m.lterm ≤ 4294967296 from hSM.lterm) (And.intro (show m.term ≤ 4294967296 from hSM.term) (And.intro (show m.ents.length ≤ 12 from hSM.few) (show m.state.size ≤ 100 from hSM.state))))))
              have HEO : Hid (EntsOk m.ents ∧ (entsL m.ents).length ≤ 2000) := Lib.hid hEO
              have HFAR : Hid (m.ents ≠ [] → p.Far (.slice ea m.ents.length ec)) := Lib.hid (fun hne j hj => by
                obtain ⟨a, c, h1, _, h3⟩ := HES.out
                obtain ⟨g1, o1, h4, h5, _⟩ := h3 hne
                injection h1 with h1 _ h2
                subst h1
                subst h4
                obtain rfl : g1 = j := by simpa [Value.ownBlock] using hj
                have hu := HV5.out.up
                exact ⟨by have := hu.xb; omega, by have := hu.nb; omega, by have := hu.lb; omega, by have := hu.db; omega, fun e => by have := hu.v _ e; omega, fun e => by have := hu.dv _ e; omega⟩)
              have HMA : Hid (MsgAt W5 p (.slice ea m.ents.length ec) m.ents) := Lib.hid ⟨HES.out.later HV5.out.below, HEO.out.1, by have := HEO.out.2; omega, fun hne j hj => ⟨(HFAR.out hne j hj).2.2.1, (HFAR.out hne j hj).2.2.2.2.1⟩⟩
              have KR := Lib.hid (recv_prog HV5.out.xw HF.out.1.inn (by omega) (by omega) HF.out.1.kept.knows m (.slice ea m.ents.length ec) HMA.out HFAR.out (by have := HB.out; omega) (by have := HB.out; omega) (by have := HB.out; unfold m64; omega) (by have := HB.out; omega) (by have := HB.out; omega))
              obtain ⟨F6, hT6⟩ := HT0.out.recv (by omega) (by omega) m HEO.out.1 (by have := HB.out; omega) (by have := HB.out; omega) (by have := HB.out; omega) HEO.out.2 HB.out.2.2.2.2.2
              have HST : Hid ((x.receive m).1.s.dn = true → (x.receive m).2 = []) := Lib.hid (receive_step HF.out.1.kept HF.out.1.inn.n m (by have := HB.out; omega) (by omega) HEO.out.1 (by have := HB.out; omega) (by have := HB.out; omega) (by have := HB.out; omega) (by have := HEO.out; omega)).quiet
              have HLN : Hid ((x.receive m).2.length ≤ 9) := Lib.hid (Nat.le_trans (receive_len m HF.out.1.inn.id) HF.out.1.inn.n)
              have HT6 := Lib.hid hT6
              unfold mgL at KR
              clear hz5 hSM hEO hT6
              go_wp2_with fail
              refine KR.out.mono ?_
              rintro e w6 ⟨⟨tv, rfl, ht⟩, p6, hx6, hc6⟩
              have HV6 := Lib.hid (HV5.out.step hx6 hc6)
              have HZ6 := Lib.hid (HV5.out.kept hc6 HZ5.out (by decide) (by decide) (by decide) (by decide) (by decide) (by decide))
              have HM6 : Hid (MRow w6 w.heap.size tv (x.receive m).2) := Lib.hid ((MOwn.row ht).base HV5.out.below.size)
              have HXB : Hid (p6.xb = p.xb) := Lib.hid hc6.xb
              clear hx6 hc6 ht KR z2 z3 z4 z5 z6 z7 z8 z9 z10 z11
              go_wp2_with fail
              go_meet
              exact ⟨p6, _, _, F6, rfl, by rw [HXB.out], Lib.hid ⟨HM6.out, by have := HLN.out; omega⟩, HV6, HZ6, Lib.hid ⟨by have := HT6.out.mono (M2 := 6000 + 5000 * k) (K2 := 8589935592 + 1000 * k) (T2 := 100 * k + 100) (by omega) (by omega) (by omega); rwa [List.nil_append] at this, fun hd => .inl (HST.out hd)⟩⟩
            · by_cases e2 : what = 2
              · subst e2
                have hz5 := HZ5.out
                have z14 : W5.cell? ⟨z, 14, none⟩ = some (.string tx) := by unfold World.cell?; rw [hz5]; rfl
                have HTX : Hid (tx.size ≤ 100) := Lib.hid HSX.out.1.text
                have KR := Lib.hid (propose_prog HV5.out.xw HF.out.1.inn (by omega) (by omega) tx (by have := HTX.out; omega))
                obtain ⟨F6, hT6⟩ := HT0.out.prop (by omega) (by omega) tx HTX.out
                have HST : Hid ((x.propose tx).1.s.dn = true → (x.propose tx).2.2.2 = []) := Lib.hid (propose_step HF.out.1.kept tx (by have := HTX.out; omega) (by omega) (by omega)).quiet
                have HLN : Hid ((x.propose tx).2.2.2.length ≤ 9) := Lib.hid (Nat.le_trans (propose_len tx) HF.out.1.inn.n)
                have HT6 := Lib.hid hT6
                clear hz5 hT6
                go_wp2_with fail
                refine KR.out.mono ?_
                rintro e w6 ⟨⟨tv, rfl, ht⟩, p6, hx6, hc6⟩
                have HV6 := Lib.hid (HV5.out.step hx6 hc6)
                have HZ6 := Lib.hid (HV5.out.kept hc6 HZ5.out (by decide) (by decide) (by decide) (by decide) (by decide) (by decide))
                have HM6 : Hid (MRow w6 w.heap.size tv (x.propose tx).2.2.2) := Lib.hid ((MOwn.row ht).base HV5.out.below.size)
                have HXB : Hid (p6.xb = p.xb) := Lib.hid hc6.xb
                clear hx6 hc6 ht KR z14
                go_wp2_with fail
                go_meet
                exact ⟨p6, _, _, F6, rfl, by rw [HXB.out], Lib.hid ⟨HM6.out, by have := HLN.out; omega⟩, HV6, HZ6, Lib.hid ⟨by have := HT6.out.mono (M2 := 6000 + 5000 * k) (K2 := 8589935592 + 1000 * k) (T2 := 100 * k + 100) (by omega) (by omega) (by omega); rwa [List.nil_append] at this, fun hd => .inl (HST.out hd)⟩⟩
              · by_cases e4 : what = 4
                · subst e4
                  have hNb : N ≤ 9223372036854775807 := HSX.out.2.2.1.2
                  obtain ⟨csg, hgn⟩ := HV5.out.gn
                  have hz5 := HZ5.out
                  have y0 : W5.cell? ⟨g, 0, none⟩ = some (.pointer (some ⟨p.db, 0, none⟩)) := by unfold World.cell?; rw [hgn]; rfl
                  have y1 : W5.cell? ⟨z, 1, none⟩ = some (.int .i64 N) := by unfold World.cell?; rw [hz5]; rfl
                  have HC0 : Hid (W5.cell? ⟨g, 0, none⟩ = some (.pointer (some ⟨p.db, 0, none⟩)) ∧ W5.cell? ⟨z, 1, none⟩ = some (.int .i64 N)) := Lib.hid ⟨y0, y1⟩
                  have HC1 : Hid (W5.drew.cell? ⟨g, 0, none⟩ = some (.pointer (some ⟨p.db, 0, none⟩)) ∧ W5.drew.cell? ⟨z, 1, none⟩ = some (.int .i64 N)) := Lib.hid ⟨y0, y1⟩
                  have HVD := Lib.hid (HV5.out.later (Below.refl _ _).drew)
                  have HZD : Hid (W5.drew.heap[z]? = some (.cells #[.int .i64 4, .int .i64 N, .int .i64 m.kind, .int .i64 m.src, .int .i64 m.dst, .int .u64 (m.term : Int), .int .u64 (m.index : Int), .int .u64 (m.lterm : Int), .int .u64 (m.commit : Int), .bool m.ok, .slice ea m.ents.length ec, .string m.state, .bool nr, .int .u64 (ix : Int), .string tx] 42 (0, 0))) := Lib.hid HZ5.out
                  have HT6 : Hid (TL id n (1000 + 5000 * k) (8589934592 + 1000 * k) (100 * k) (x.fuel N) t vt f F0 []) := Lib.hid (HT0.out.fuel N hNb)
                  have KR := Lib.hid (vfuel_prog HVD.out N)
                  clear hgn hz5 y0 y1
                  go_wp2_with fail
                  go_region_held3 (fun w' => w'.cell? ⟨g, 0, none⟩ = some (.pointer (some ⟨p.db, 0, none⟩)) ∧ w'.cell? ⟨z, 1, none⟩ = some (.int .i64 N))
                    (first | with_reducible exact HC0.out | with_reducible exact HC1.out | with_reducible exact hcs9 | fail)
                    (first | (go_at_call 25; refine KR.out.mono ?_; rintro e w6 ⟨rfl, p6, hx6, hc6⟩; have hcs9 := fuel_cells HVD.out HZD.out (u := .int .i64 N) rfl hx6 hc6) | fail)
                  have HV6 := Lib.hid (HVD.out.step hx6 hc6)
                  have HZ6 := Lib.hid (HVD.out.kept hc6 HZD.out (by decide) (by decide) (by decide) (by decide) (by decide) (by decide))
                  have HXB : Hid (p6.xb = p.xb) := Lib.hid hc6.xb
                  clear hx6 hc6 KR hcs9 HC0 HC1
                  go_wp2_with fail
                  go_meet
                  exact ⟨p6, _, [], F0, rfl, by rw [HXB.out], Lib.hid ⟨MRow.nil _ _, Nat.zero_le _⟩, HV6, HZ6, Lib.hid ⟨HT6.out.mono (by omega) (by omega) (by omega), fun _ => .inl rfl⟩⟩
                · by_cases e5 : what = 5
                  · subst e5
                    obtain ⟨csg, hgn⟩ := HV5.out.gn
                    have hz5 := HZ5.out
                    have y0 : W5.cell? ⟨g, 0, none⟩ = some (.pointer (some ⟨p.db, 0, none⟩)) := by unfold World.cell?; rw [hgn]; rfl
                    have y1 : W5.cell? ⟨z, 1, none⟩ = some (.int .i64 N) := by unfold World.cell?; rw [hz5]; rfl
                    have HC0 : Hid (W5.cell? ⟨g, 0, none⟩ = some (.pointer (some ⟨p.db, 0, none⟩)) ∧ W5.cell? ⟨z, 1, none⟩ = some (.int .i64 N)) := Lib.hid ⟨y0, y1⟩
                    have HC1 : Hid (W5.drew.cell? ⟨g, 0, none⟩ = some (.pointer (some ⟨p.db, 0, none⟩)) ∧ W5.drew.cell? ⟨z, 1, none⟩ = some (.int .i64 N)) := Lib.hid ⟨y0, y1⟩
                    have HVD := Lib.hid (HV5.out.later (Below.refl _ _).drew)
                    have HZD : Hid (W5.drew.heap[z]? = some (.cells #[.int .i64 5, .int .i64 N, .int .i64 m.kind, .int .i64 m.src, .int .i64 m.dst, .int .u64 (m.term : Int), .int .u64 (m.index : Int), .int .u64 (m.lterm : Int), .int .u64 (m.commit : Int), .bool m.ok, .slice ea m.ents.length ec, .string m.state, .bool nr, .int .u64 (ix : Int), .string tx] 42 (0, 0))) := Lib.hid HZ5.out
                    have HTS : Hid (x.s.d.T.size ≤ 1000000) := Lib.hid (by have := HF.out.1.inn.s.T; omega)
                    obtain ⟨c, hP, hrd, hop, hnT, hTM⟩ := HF.out.1.crash N
                    have HP := Lib.hid (And.intro hP (And.intro hrd (And.intro hop (And.intro hnT hTM))))
                    have KR := Lib.hid (vcrash_prog HVD.out HF.out.1.kept.n (by have := HTS.out; omega) N)
                    clear hgn hz5 y0 y1 hP hrd hop hnT hTM
                    go_wp2_with fail
                    go_region_held3 (fun w' => w'.cell? ⟨g, 0, none⟩ = some (.pointer (some ⟨p.db, 0, none⟩)) ∧ w'.cell? ⟨z, 1, none⟩ = some (.int .i64 N))
                      (first | with_reducible exact HC0.out | with_reducible exact HC1.out | with_reducible exact hcs9 | fail)
                      (first | (go_at_call 18; refine KR.out.mono ?_; rintro e w6 ⟨rfl, dv6, hD6, hc6⟩; have hcs9 := crash_cells HVD.out HZD.out (u := .int .i64 N) rfl hD6 hc6) | fail)
                    have HD6 := Lib.hid hD6
                    have HZ6 : Hid (w6.heap[z]? = some (.cells #[.int .i64 5, .int .i64 N, .int .i64 m.kind, .int .i64 m.src, .int .i64 m.dst, .int .u64 (m.term : Int), .int .u64 (m.index : Int), .int .u64 (m.lterm : Int), .int .u64 (m.commit : Int), .bool m.ok, .slice ea m.ents.length ec, .string m.state, .bool nr, .int .u64 (ix : Int), .string tx] 42 (0, 0))) := Lib.hid (Ch.keptT HVD.out.xw.lw.disk hc6 HZD.out (by decide) (by decide))
                    have x0 : w6.cell? ⟨g, 0, none⟩ = some (.pointer (some ⟨p.db, 0, none⟩)) := hcs9.1
                    have KO := Lib.hid (vopen_prog HD6.out (by show (0 : Nat) ≤ _; omega) (by rw [HP.out.2.2.2.1]; exact Nat.le_refl _) (by have := HP.out.2.2.2.2; omega) HP.out.2.2.1)
                    clear hD6 hc6 KR HC0 HC1 hcs9
                    go_wp2_with fail
                    refine KO.out.mono ?_
                    rintro e w7 ⟨lb, v7, rfl, hD7, hl7, hlb7, hv7, hc7⟩
                    have HD7 := Lib.hid hD7
                    have HZ7 : Hid (w7.heap[z]? = some (.cells #[.int .i64 5, .int .i64 N, .int .i64 m.kind, .int .i64 m.src, .int .i64 m.dst, .int .u64 (m.term : Int), .int .u64 (m.index : Int), .int .u64 (m.lterm : Int), .int .u64 (m.commit : Int), .bool m.ok, .slice ea m.ents.length ec, .string m.state, .bool nr, .int .u64 (ix : Int), .string tx] 42 (0, 0))) := Lib.hid (Ch.keptT HD6.out.disk hc7 HZ6.out (by decide) (by decide))
                    have HLO : Hid (mb < w6.heap.size ∧ g < w6.heap.size ∧ w.heap.size ≤ w6.heap.size) := Lib.hid ⟨HD6.out.im.lt, by obtain ⟨cs, hg⟩ := HD6.out.gn; exact block_lt hg, HD6.out.below.size⟩
                    have KS := Lib.hid (vstart_prog HD7.out hl7 (by have := HLO.out; omega) (by have := HLO.out; omega) (by have := HLO.out; omega) (fun j hj => by have := hv7 j hj; have := HLO.out; exact ⟨by omega, by omega, by omega⟩) (fun e => by cases e) rfl id n HIN.out.1 HIN.out.2)
                    clear hD7 hl7 hlb7 hv7 hc7 KO x0
                    go_wp2_with fail
                    refine KS.out.mono ?_
                    rintro e w8 ⟨p8, rfl, hV8, hb8⟩
                    have HV8 := Lib.hid hV8
                    have HZ8 : Hid (w8.heap[z]? = some (.cells #[.int .i64 5, .int .i64 N, .int .i64 m.kind, .int .i64 m.src, .int .i64 m.dst, .int .u64 (m.term : Int), .int .u64 (m.index : Int), .int .u64 (m.lterm : Int), .int .u64 (m.commit : Int), .bool m.ok, .slice ea m.ents.length ec, .string m.state, .bool nr, .int .u64 (ix : Int), .string tx] 42 (0, 0))) := Lib.hid ((hb8.block _ (block_lt HZ7.out)).trans HZ7.out)
                    have hF8 : VF id n (1000 + 5000 * k) (8589934592 + 1000 * k) (100 * k) (RN.start id n ⟨c, 0, false, x.s.d.crash N⟩) t vt := VF.again HP.out.1 HP.out.2.1 HP.out.2.2.2.1 HP.out.2.2.2.2 rfl rfl HIN.out.1 HIN.out.2
                    obtain ⟨F8, hT8⟩ := TL.start hF8 HF.out.2.1
                    have HT8 := Lib.hid hT8
                    clear hV8 hb8 hF8 hT8 KS
                    go_wp2_with fail
                    go_meet
                    exact ⟨p8, _, [], F8, rfl, rfl, Lib.hid ⟨MRow.nil _ _, Nat.zero_le _⟩, HV8, HZ8, Lib.hid ⟨HT8.out.mono (by omega) (by omega) (by omega), fun _ => .inl rfl⟩⟩
                  · skip
                    go_wp2_with fail
                    go_meet
                    exact ⟨p, x, [], F0, rfl, rfl, Lib.hid ⟨MRow.nil _ _, Nat.zero_le _⟩, HV5, HZ5, Lib.hid ⟨HT0.out.mono (by omega) (by omega) (by omega), fun _ => .inl rfl⟩⟩
        case rest =>
          obtain ⟨pp, y, l, F, rfl, rfl, HM, HV, HZ, HT⟩ := hcut
          obtain ⟨la2, lc2, hls⟩ := HM.out.1.shape
          subst hls
          have KD := Lib.hid (xdown_q HV.out.xw HT.out.1.vf.kept.knows)
          have hl450 : l.length ≤ 450 := HM.out.2
          obtain ⟨dn, hdn⟩ : ∃ dn, y.s.dn = dn := ⟨_, rfl⟩
          rw [hdn] at KD
          have HDN := Lib.hid hdn
          clear hdn HF HV5 HZ5 HT0
          cases dn with
          | true =>
            have HF9 : Hid (VF id n (1000 + 5000 * (k + 1)) (8589934592 + 1000 * (k + 1)) (100 * (k + 1)) y t vt ∧ Con f t vt ∧ nv ≤ 1000 * (k + 1)) := Lib.hid ⟨HT.out.1.vf.mono (by omega) (by omega) (by omega), HCF.out.1, by have := HCF.out.2; omega⟩
            by_cases e0 : what = 0
            · subst e0
              have hz := HZ.out
              have z0 : wc.cell? ⟨z, 0, none⟩ = some (.int .i64 0) := by unfold World.cell?; rw [hz]; rfl
              by_cases hl0 : 0 < l.length
              · have hlI : (0 : Int) < (l.length : Int) := by omega
                clear hz
                go_wp2_with fail
                refine KD.out.mono ?_
                rintro e w9 ⟨rfl, rfl⟩
                go_wp2_with fail
                go_roundw
                case rel => exact ⟨k + 1, pp, y, nv, f, t, vt, by omega, by go_num, rfl, rfl, HV, HF9⟩
                case measure => simp [intOf]; omega
              · have hlI : ¬ (0 : Int) < (l.length : Int) := by omega
                clear hz
                go_wp2_with fail
                refine KD.out.mono ?_
                rintro e w9 ⟨rfl, rfl⟩
                go_wp2_with fail
                go_roundw
                case rel => exact ⟨k + 1, pp, y, nv, f, t, vt, by omega, by go_num, rfl, rfl, HV, HF9⟩
                case measure => simp [intOf]; omega
            · have hl0 : l.length = 0 := by
                rcases HT.out.2 HDN.out with h | h
                · rw [h]; rfl
                · exact absurd h e0
              rw [hl0]
              go_wp2_with fail
              refine KD.out.mono ?_
              rintro e w9 ⟨rfl, rfl⟩
              go_wp2_with fail
              go_roundw
              case rel => exact ⟨k + 1, pp, y, nv, f, t, vt, by omega, by go_num, rfl, rfl, HV, HF9⟩
              case measure => simp [intOf]; omega
          | false =>
            have KG := Lib.hid (log_prog HV.out.xw)
            have KT := Lib.hid (xterm_prog HV.out.xw)
            have hle : t ≤ y.s.c.term := by
              rcases HT.out.1.vf.kept.own.later with h | h
              · omega
              · exact Nat.le_of_eq h.1
            have hleI : ¬ (y.s.c.term : Int) < (t : Int) := by omega
            go_wp2_with fail
            refine KD.out.mono ?_
            rintro e w9 ⟨rfl, rfl⟩
            go_wp2_with fail
            refine KG.out.mono ?_
            rintro e w9 ⟨rfl, rfl⟩
            go_wp2_with fail
            refine KT.out.mono ?_
            rintro e w9 ⟨rfl, rfl⟩
            go_wp2_with fail
            refine KG.out.mono ?_
            rintro e w9 ⟨rfl, rfl⟩
            go_wp2_with fail
            refine KT.out.mono ?_
            rintro e w9 ⟨rfl, rfl⟩
            clear KD KG KT hle hleI
            go_wp2_with fail
            go_loopw [154] (fun i wy => ∃ (j : Nat) (fj : Vm), j ≤ l.length ∧ i = .int .i64 (j : Int) ∧ Hid (VW w wy pp y g mb (nv + j) fj) ∧ Hid (MRow wy w.heap.size (.slice la2 l.length lc2) l) ∧ Hid (fj.le F)) (fun i _ => l.length - (intOf i).toNat)
            case atStart => exact ⟨0, f, by omega, rfl, HV, Lib.hid HM.out.1, Lib.hid HT.out.1.le⟩
            case round =>
              obtain ⟨j, fj, hj, rfl, HVj, HMj, HFj⟩ := hrel
              by_cases hlj : j < l.length
              · have hjI : (j : Int) < (l.length : Int) := by omega
                have hj0 : (0 : Int) ≤ (j : Int) := by omega
                obtain ⟨mm, hx⟩ : ∃ x, l[j]? = some x := ⟨_, List.getElem?_eq_getElem hlj⟩
                obtain ⟨gl, evm, cl, e1, ⟨a3, n3, c3, rfl⟩, hcs⟩ := HMj.out.get hx
                injection e1 with e1 _ e2
                subst e1
                subst e2
                have q0 : wr.cell? ⟨gl, j * 10, none⟩ = some (.int .i64 mm.kind) := hcs 0 _ rfl
                have q1 : wr.cell? ⟨gl, j * 10 + 1, none⟩ = some (.int .i64 mm.src) := hcs 1 _ rfl
                have q2 : wr.cell? ⟨gl, j * 10 + 2, none⟩ = some (.int .i64 mm.dst) := hcs 2 _ rfl
                have q3 : wr.cell? ⟨gl, j * 10 + 3, none⟩ = some (.int .u64 (mm.term : Int)) := hcs 3 _ rfl
                have q4 : wr.cell? ⟨gl, j * 10 + 4, none⟩ = some (.int .u64 (mm.index : Int)) := hcs 4 _ rfl
                have q5 : wr.cell? ⟨gl, j * 10 + 5, none⟩ = some (.int .u64 (mm.lterm : Int)) := hcs 5 _ rfl
                have q6 : wr.cell? ⟨gl, j * 10 + 6, none⟩ = some (.int .u64 (mm.commit : Int)) := hcs 6 _ rfl
                have q7 : wr.cell? ⟨gl, j * 10 + 7, none⟩ = some (.bool mm.ok) := hcs 7 _ rfl
                have q8 : wr.cell? ⟨gl, j * 10 + 8, none⟩ = some (.slice a3 n3 c3) := hcs 8 _ rfl
                have q9 : wr.cell? ⟨gl, j * 10 + 9, none⟩ = some (.string mm.state) := hcs 9 _ rfl
                have HTO : Hid (∀ u, votesOf id mm = some u → F mm.term = some u ∧ 0 ≤ u ∧ u < 9223372036854775808 ∧ mm.term < 18446744073709551616) := Lib.hid (fun u hu => by
                  have h1 := HT.out.1.told mm (List.mem_of_getElem? hx) u hu
                  obtain ⟨h2, h3, h4⟩ := HT.out.1.con _ _ h1
                  have h5 := HT.out.1.vf.kept.own.term
                  exact ⟨h1, h2, h3, by rcases h4 with h4 | h4 <;> omega⟩)
                obtain ⟨W6, hW6⟩ : ∃ W6, W6 = wr.alloc (.cells #[.int .i64 mm.kind, .int .i64 mm.src, .int .i64 mm.dst, .int .u64 (mm.term : Int), .int .u64 (mm.index : Int), .int .u64 (mm.lterm : Int), .int .u64 (mm.commit : Int), .bool mm.ok, .slice a3 n3 c3, .string mm.state] 40) := ⟨_, rfl⟩
                have HV6 : Hid (VW w W6 pp y g mb (nv + j) fj) := Lib.hid (by rw [hW6]; exact HVj.out.later ((Below.refl _ _).alloc (Nat.le_refl _) _))
                have HM6 : Hid (MRow W6 w.heap.size (.slice (some ⟨gl, 0, none⟩) l.length lc2) l) := Lib.hid (by rw [hW6]; exact HMj.out.later ((Below.refl _ _).alloc (Nat.le_refl _) _))
                clear hcs hx
                have skip : votesOf id mm = none → True := fun _ => trivial
                clear skip
                by_cases k1 : mm.kind = 1
                · have k1b : (mm.kind == 1) = true := by simp [k1]
                  cases hok : mm.ok with
                  | true =>
                    have HU := Lib.hid (HTO.out mm.dst (by unfold votesOf; rw [if_pos ⟨k1, hok⟩]))
                    rw [k1, hok] at hW6
                    rw [k1] at q0
                    rw [hok] at q7
                    have HL := Lib.hid (HV6.out.im.look mm.term HU.out.2.2.2)
                    cases hf : fj mm.term with
                    | none =>
                      have hlk : (Instr.lookup 58 (.map (some mb)) (.int .u64 (mm.term : Int)) true).run Tryz.prog W6 = .ok (.tuple #[.int .i64 0, .bool false]) W6 := by rw [HL.out, hf]; rfl
                      obtain ⟨w7, hrun, hg7, hV7⟩ := HV6.out.put mm.term HU.out.2.2.2 (by have := HCF.out.2; omega) mm.dst HU.out.2.1 HU.out.2.2.1
                      have HV7 : Hid (VW w w7 pp y g mb (nv + (j + 1)) (fj.set mm.term mm.dst)) := Lib.hid hV7
                      have HM7 : Hid (MRow w7 w.heap.size (.slice (some ⟨gl, 0, none⟩) l.length lc2) l) := Lib.hid (row_vote HM6.out HV6.out hg7)
                      have HF7 : Hid ((fj.set mm.term mm.dst).le F) := Lib.hid (Vm.set_le HFj.out HU.out.1)
                      rw [hW6] at hlk hrun
                      clear hV7 hg7 hf
                      go_wp2_with fail
                      go_roundw
                      case rel => exact ⟨j + 1, _, by omega, by go_num, HV7, HM7, HF7⟩
                      case measure => simp [intOf]; omega
                    | some u =>
                      have hu : u = mm.dst := by
                        have h1 := HFj.out _ _ hf
                        rw [HU.out.1] at h1
                        exact (Option.some.inj h1).symm
                      have hlk : (Instr.lookup 58 (.map (some mb)) (.int .u64 (mm.term : Int)) true).run Tryz.prog W6 = .ok (.tuple #[.int .i64 mm.dst, .bool true]) W6 := by rw [HL.out, hf, hu]; rfl
                      obtain ⟨w7, hrun, hg7, hV7⟩ := HV6.out.put mm.term HU.out.2.2.2 (by have := HCF.out.2; omega) mm.dst HU.out.2.1 HU.out.2.2.1
                      have HV7 : Hid (VW w w7 pp y g mb (nv + (j + 1)) (fj.set mm.term mm.dst)) := Lib.hid hV7
                      have HM7 : Hid (MRow w7 w.heap.size (.slice (some ⟨gl, 0, none⟩) l.length lc2) l) := Lib.hid (row_vote HM6.out HV6.out hg7)
                      have HF7 : Hid ((fj.set mm.term mm.dst).le F) := Lib.hid (Vm.set_le HFj.out HU.out.1)
                      rw [hW6] at hlk hrun
                      clear hV7 hg7 hf
                      go_wp2_with fail
                      go_roundw
                      case rel => exact ⟨j + 1, _, by omega, by go_num, HV7, HM7, HF7⟩
                      case measure => simp [intOf]; omega
                  | false =>
                    rw [k1, hok] at hW6
                    rw [k1] at q0
                    rw [hok] at q7
                    have k1c : (mm.kind == 0) = false := by simp [k1]
                    have k1d : ¬ mm.kind = 0 := by omega
                    go_wp2_with fail
                    simp only [← hW6]
                    go_roundw
                    case rel => exact ⟨j + 1, fj, by omega, by go_num, Lib.hid (VW.up1 HV6.out), HM6, HFj⟩
                    case measure => simp [intOf]; omega
                · have k1b : (mm.kind == 1) = false := by simp [k1]
                  by_cases k0 : mm.kind = 0
                  · have k0b : (mm.kind == 0) = true := by simp [k0]
                    have HU := Lib.hid (HTO.out (id : Int) (by unfold votesOf; rw [if_neg (fun e => k1 e.1), if_pos k0]))
                    rw [k0] at hW6 q0
                    have HL := Lib.hid (HV6.out.im.look mm.term HU.out.2.2.2)
                    cases hf : fj mm.term with
                    | none =>
                      have hlk : (Instr.lookup 58 (.map (some mb)) (.int .u64 (mm.term : Int)) true).run Tryz.prog W6 = .ok (.tuple #[.int .i64 0, .bool false]) W6 := by rw [HL.out, hf]; rfl
                      obtain ⟨w7, hrun, hg7, hV7⟩ := HV6.out.put mm.term HU.out.2.2.2 (by have := HCF.out.2; omega) (id : Int) HU.out.2.1 HU.out.2.2.1
                      have HV7 : Hid (VW w w7 pp y g mb (nv + (j + 1)) (fj.set mm.term (id : Int))) := Lib.hid hV7
                      have HM7 : Hid (MRow w7 w.heap.size (.slice (some ⟨gl, 0, none⟩) l.length lc2) l) := Lib.hid (row_vote HM6.out HV6.out hg7)
                      have HF7 : Hid ((fj.set mm.term (id : Int)).le F) := Lib.hid (Vm.set_le HFj.out HU.out.1)
                      rw [hW6] at hlk hrun
                      clear hV7 hg7 hf
                      go_wp2_with fail
                      go_roundw
                      case rel => exact ⟨j + 1, _, by omega, by go_num, HV7, HM7, HF7⟩
                      case measure => simp [intOf]; omega
                    | some u =>
                      have hu : u = (id : Int) := by
                        have h1 := HFj.out _ _ hf
                        rw [HU.out.1] at h1
                        exact (Option.some.inj h1).symm
                      have hlk : (Instr.lookup 58 (.map (some mb)) (.int .u64 (mm.term : Int)) true).run Tryz.prog W6 = .ok (.tuple #[.int .i64 (id : Int), .bool true]) W6 := by rw [HL.out, hf, hu]; rfl
                      obtain ⟨w7, hrun, hg7, hV7⟩ := HV6.out.put mm.term HU.out.2.2.2 (by have := HCF.out.2; omega) (id : Int) HU.out.2.1 HU.out.2.2.1
                      have HV7 : Hid (VW w w7 pp y g mb (nv + (j + 1)) (fj.set mm.term (id : Int))) := Lib.hid hV7
                      have HM7 : Hid (MRow w7 w.heap.size (.slice (some ⟨gl, 0, none⟩) l.length lc2) l) := Lib.hid (row_vote HM6.out HV6.out hg7)
                      have HF7 : Hid ((fj.set mm.term (id : Int)).le F) := Lib.hid (Vm.set_le HFj.out HU.out.1)
                      rw [hW6] at hlk hrun
                      clear hV7 hg7 hf
                      go_wp2_with fail
                      go_roundw
                      case rel => exact ⟨j + 1, _, by omega, by go_num, HV7, HM7, HF7⟩
                      case measure => simp [intOf]; omega
                  · have k0b : (mm.kind == 0) = false := by simp [k0]
                    go_wp2_with fail
                    simp only [← hW6]
                    go_roundw
                    case rel => exact ⟨j + 1, fj, by omega, by go_num, Lib.hid (VW.up1 HV6.out), HM6, HFj⟩
                    case measure => simp [intOf]; omega
              · have hje : j = l.length := by omega
                subst hje
                have hjI : ¬ (l.length : Int) < (l.length : Int) := by omega
                have HF9 : Hid (VF id n (1000 + 5000 * (k + 1)) (8589934592 + 1000 * (k + 1)) (100 * (k + 1)) y y.s.c.term y.s.c.vote ∧ Con fj y.s.c.term y.s.c.vote ∧ nv + l.length ≤ 1000 * (k + 1)) := Lib.hid ⟨(HT.out.1.vf.here HDN.out).mono (by omega) (by omega) (by omega), HT.out.1.con.sub HFj.out, by have := HCF.out.2; omega⟩
                go_wp2_with fail
                go_roundw
                case rel => exact ⟨k + 1, pp, y, _, fj, _, _, by omega, by go_num, rfl, rfl, HVj, HF9⟩
                case measure => simp [intOf]; omega
      · have hke : k = A.length := by omega
        subst hke
        have hkI : ¬ (A.length : Int) < (A.length : Int) := by omega
        go_wp2_with fail
        go_ret
        exact ⟨rfl, HV.out.below⟩
end Go.Proofs.YtflkdgghpmhbgaaGreat
