/- log: LogOne: the walk. -/
import Derived.Test.YtfocljmjejniiaaGRefA
namespace Go.Proofs.Ytfocljmjejniiaa
open Go.RowKit

theorem apart_low {w0 : World} {p : Lp} {v : Value} {E : List Ent} (h : ESl w0 v E) (hp : ∀ j, p.fp j → w0.heap.size ≤ j) : E ≠ [] → Apart p.lb p.v v := fun hne k hk => by
  obtain ⟨a, c, h1, _, h3⟩ := h
  obtain ⟨g, o, ha, hg, _⟩ := h3 hne
  obtain rfl : g = k := by rw [h1, ha] at hk; simpa [Value.ownBlock] using hk
  exact ⟨fun e => by have := hp g (.inl e); omega, fun e => by have := hp g (.inr (.inr (.inl e))); omega⟩
theorem dk_lt {w : World} {b n k : Nat} {v : Value} {T : ByteArray} {d l : Bool} (h : Dk w b v T n d l k) : b < w.heap.size := h.lt
/-- What a log that was opened just now holds. -/
theorem open_fp {w w' : World} {p : Lp} {c : CT} {T : ByteArray} {db : Nat} (hdb : p.db = db) (hdv : p.dv = .slice none 0 0) (hl : LS w' p c T 0) (h1 : w.heap.size ≤ p.lb) (h2 : ∀ k, p.v.ownBlock = some k → w.heap.size ≤ k) :
    ∀ j, p.fp j → j = db ∨ (w.heap.size ≤ j ∧ j < w'.heap.size) := by
  intro j hj
  have hlt := hl.lt j hj
  rcases hj with rfl | rfl | e | e
  · exact .inr ⟨h1, hlt⟩
  · exact .inl hdb
  · exact .inr ⟨h2 j e, hlt⟩
  · rw [hdv] at e; simp [Value.ownBlock] at e
theorem new_ls {w w' : World} (h : Dk w' w.heap.size (.slice none 0 0) ⟨#[]⟩ 0 false false 0) : Dk w' w.heap.size (.slice none 0 0) ⟨#[]⟩ (⟨#[]⟩ : ByteArray).size false false 0 := h

theorem crash_ls {w : World} {p : Lp} {c : CT} {T : ByteArray} {room : Nat} (h : LS w p c T room) (hT : T.size ≤ 5000) :
    Calls Try.prog 11 #[.pointer (some ⟨p.db, 0, none⟩), .int .i64 0] w fun e w' => e = .returned (.tuple #[]) ∧ ∃ p' : Lp, p'.lb = p.lb ∧ p'.db = p.db ∧ LS w' p' c T room ∧ LX p w w' p' := by
  refine (crash0 h.disk hT).mono ?_
  rintro e w' ⟨he, dv', hd, hc⟩
  exact ⟨he, ⟨p.lb, p.db, p.v, dv'⟩, rfl, rfl, ⟨h.log.byDisk h.two hc, hd⟩, LX.of (LCh.ofDisk p.lb p.v hc)⟩
/-- Three of a kind. -/
def tri {α : Type} (a b c : α) (k : Nat) : α := if k = 0 then a else if k = 1 then b else c
/-- Three logs that share nothing; nothing of them lies from Y up to Z. -/
structure Tri (w0 wz : World) (Y Z : Nat) (LB D : Nat → Nat) (c : CT) (P : Nat → Lp) (T : Nat → ByteArray) (R : Nat → Nat) (w : World) : Prop where
  lb : ∀ i, i < 3 → (P i).lb = LB i
  db : ∀ i, i < 3 → (P i).db = D i
  ls : ∀ i, i < 3 → LS w (P i) c (T i) (R i)
  good : ∀ i, i < 3 → Good c (T i) (R i)
  dis : ∀ i j, i < 3 → j < 3 → i ≠ j → Dis (P i) (P j)
  low : ∀ i, i < 3 → ∀ j, (P i).fp j → w0.heap.size ≤ j ∧ (j < Y ∨ Z ≤ j)
  frame : ∀ j, Y ≤ j → j < Z → w.heap[j]? = wz.heap[j]?
  below : Below w0.heap.size w0 w
  size : Z ≤ w.heap.size
theorem Tri.later {w0 wz w w' : World} {Y Z : Nat} {LB D : Nat → Nat} {c : CT} {P : Nat → Lp} {T : Nat → ByteArray} {R : Nat → Nat} (h : Tri w0 wz Y Z LB D c P T R w) (hb : Below w.heap.size w w') : Tri w0 wz Y Z LB D c P T R w' :=
  ⟨h.lb, h.db, fun i hi => (h.ls i hi).later hb, h.good, h.dis, h.low, fun j h1 h2 => (hb.block j (by have := h.size; omega)).trans (h.frame j h1 h2), h.below.trans (hb.mono h.below.size), Nat.le_trans h.size hb.size⟩
theorem Tri.step {w0 wz w w' : World} {Y Z : Nat} {LB D : Nat → Nat} {c : CT} {P : Nat → Lp} {T : Nat → ByteArray} {R : Nat → Nat} (h : Tri w0 wz Y Z LB D c P T R w) {k : Nat} (hk : k < 3) {p' : Lp} (h1 : p'.lb = (P k).lb) (h2 : p'.db = (P k).db) (h3 : LS w' p' c (T k) (R k)) (h4 : LX (P k) w w' p') :
    Tri w0 wz Y Z LB D c (fun i => if i = k then p' else P i) T R w' := by
  have hlow : ∀ j, p'.fp j → w0.heap.size ≤ j ∧ (j < Y ∨ Z ≤ j) := fun j hj => by
    rcases h4.fp j hj with e | e
    · exact h.low k hk j e
    · have := h.size; have := h.below.size; exact ⟨by omega, .inr (by omega)⟩
  have hd : ∀ i, i < 3 → i ≠ k → Dis p' (P i) := fun i hi hne => (h.dis k i hk hi (Ne.symm hne)).step h4 (h.ls i hi).lt
  refine ⟨fun i hi => ?_, fun i hi => ?_, fun i hi => ?_, h.good, fun i j hi hj hne => ?_, fun i hi => ?_, fun j q1 q2 => ?_, h.below.trans (h4.below (fun j hj => (h.low k hk j hj).1) h.below.size), Nat.le_trans h.size h4.size⟩
  · show (if i = k then p' else P i).lb = _
    split
    · rename_i e; subst e; rw [h1]; exact h.lb i hi
    · exact h.lb i hi
  · show (if i = k then p' else P i).db = _
    split
    · rename_i e; subst e; rw [h2]; exact h.db i hi
    · exact h.db i hi
  · show LS w' (if i = k then p' else P i) c (T i) (R i)
    split
    · rename_i e; subst e; exact h3
    · rename_i e; exact (h.ls i hi).other (h.dis k i hk hi (Ne.symm e)) h4
  · show Dis (if i = k then p' else P i) (if j = k then p' else P j)
    by_cases e1 : i = k
    · rw [if_pos e1, if_neg (fun e2 => hne (e1.trans e2.symm))]
      exact hd j hj (fun e2 => hne (e1.trans e2.symm))
    · rw [if_neg e1]
      by_cases e2 : j = k
      · rw [if_pos e2]; exact (hd i hi e1).symm
      · rw [if_neg e2]; exact h.dis i j hi hj hne
  · show ∀ j, (if i = k then p' else P i).fp j → _
    split
    · exact hlow
    · exact h.low i hi
  · rw [h4.block j (by have := h.size; omega) (fun e => by have := (h.low k hk j e).2; omega)]
    exact h.frame j q1 q2

set_option maxHeartbeats 8000000 in
set_option maxRecDepth 100000 in
theorem one_law (lv ov : Value) (L O : List Ent) (w : World) (hl : ESl w lv L) (ho : ESl w ov O) (hL : EntsOk L) (hO : EntsOk O) (hLl : L.length ≤ maxLen) (hOl : O.length ≤ maxLen) :
    Calls Try.prog 3 #[lv, ov] w fun e w' => e = .returned (.bool true) ∧ Below w.heap.size w w' := by
  have HLV := Lib.hid hl
  have HOV := Lib.hid ho
  have HLO := Lib.hid hL
  have HOO := Lib.hid hO
  obtain ⟨la, lc, rfl, _⟩ := id hl
  obtain ⟨oa, oc, rfl, _⟩ := id ho
  have K2 := Lib.hid (fun W g (hc : actF (fun k => if k = 0 then (.slice la L.length lc : Value) else .slice oa O.length oc) W g) (hb : Below w.heap.size w W) (hg : g < W.heap.size) =>
    show Calls Try.prog 5 #[.slice (some ⟨g, 0, none⟩) 2 2, .int .i64 2] W (fun e w' => e = .returned (.bool (smallE L && smallE O)) ∧ Below W.heap.size W w') from small_prog (fun k => if k = 0 then (.slice la L.length lc : Value) else .slice oa O.length oc) (fun k => if k = 0 then L else O) g W hc (fun k hk => by
      rcases (by omega : k = 0 ∨ k = 1) with rfl | rfl
      · exact hl.later hb
      · exact ho.later hb) (fun k hk => by
      rcases (by omega : k = 0 ∨ k = 1) with rfl | rfl
      · exact hLl
      · exact hOl) hg)
  clear hl ho hL hO hLl hOl
  go_enter Try.func3, Try.ntmps3
  go_wp2_with fail
  refine (awake_prog w).mono ?_
  rintro e w1 ⟨rfl, hb1⟩
  have HB1 := Lib.hid hb1
  clear hb1
  go_wp2_with fail
  obtain ⟨W2, hW2⟩ : ∃ W2, W2 = w1.alloc (.cells #[.int .i64 0, .int .i64 0, .int .u64 0, .int .u64 0, .bool false, .slice la L.length lc, .string ⟨#[]⟩, .int .i64 0, .int .i64 0, .int .i64 0, .int .u64 0, .int .u64 0, .bool false, .slice oa O.length oc, .string ⟨#[]⟩, .int .i64 0] 27) := ⟨_, rfl⟩
  have hz2 : W2.heap[w1.heap.size]? = some (.cells #[.int .i64 0, .int .i64 0, .int .u64 0, .int .u64 0, .bool false, .slice la L.length lc, .string ⟨#[]⟩, .int .i64 0, .int .i64 0, .int .i64 0, .int .u64 0, .int .u64 0, .bool false, .slice oa O.length oc, .string ⟨#[]⟩, .int .i64 0] 27 (0, 0)) := by rw [hW2]; exact heap_alloc_new _ _
  have hb2 : Below w.heap.size w W2 := by rw [hW2]; exact HB1.out.alloc HB1.out.size _
  have hac : actF (fun k => if k = 0 then (.slice la L.length lc : Value) else .slice oa O.length oc) W2 w1.heap.size := fun k hk => by
    rcases (by omega : k = 0 ∨ k = 1) with rfl | rfl <;> simp [World.cell?, hz2]
  have K2' := Lib.hid (K2.out W2 w1.heap.size hac hb2 (Array.getElem?_eq_some_iff.1 hz2).1)
  have HB2 := Lib.hid hb2
  rw [← hW2]
  obtain ⟨ob, hob⟩ : ∃ ob, w1.heap.size = ob := ⟨_, rfl⟩
  rw [hob] at K2' ⊢
  obtain ⟨sm, hsm⟩ : ∃ sm, (smallE L && smallE O) = sm := ⟨_, rfl⟩
  rw [hsm] at K2'
  have HSM := Lib.hid hsm
  clear hW2 hz2 hb2 hac K2 HB1 hob hsm
  refine K2'.out.mono ?_
  rintro e w3 ⟨rfl, hb3⟩
  have HB3 := Lib.hid (HB2.out.trans (hb3.mono HB2.out.size))
  clear hb3 K2' HB2
  cases sm
  · go_wp2_with fail
    go_ret
    exact ⟨rfl, HB3.out⟩
  have hsm2 : smallE L = true ∧ smallE O = true := by have := HSM.out; simpa using this
  have HSL := Lib.hid (smallE_ok hsm2.1 HLO.out)
  have HSO := Lib.hid (smallE_ok hsm2.2 HOO.out)
  clear HSM hsm2 HLO HOO
  go_wp2_with fail
  refine (new_prog w3).mono ?_
  rintro e w4 ⟨rfl, hda4, hb4⟩
  go_wp2_with fail
  refine (new_prog w4).mono ?_
  rintro e w5 ⟨rfl, hdb5, hb5⟩
  go_wp2_with fail
  refine (new_prog w5).mono ?_
  rintro e w6 ⟨rfl, hdc6, hb6⟩
  have hda6 := (hda4.later hb5).later hb6
  have hdb6 := hdb5.later hb6
  have e34 := hda4.lt
  have e45 := hdb5.lt
  have e56 := hdc6.lt
  have hb06 := ((HB3.out.trans (hb4.mono HB3.out.size)).trans (hb5.mono (Nat.le_trans HB3.out.size hb4.size))).trans (hb6.mono (Nat.le_trans (Nat.le_trans HB3.out.size hb4.size) hb5.size))
  have hw3 := HB3.out.size
  obtain ⟨da, hda⟩ : ∃ da, w3.heap.size = da := ⟨_, rfl⟩
  obtain ⟨db, hdb⟩ : ∃ db, w4.heap.size = db := ⟨_, rfl⟩
  obtain ⟨dc, hdc⟩ : ∃ dc, w5.heap.size = dc := ⟨_, rfl⟩
  rw [hda] at hda6 hw3 e34 ⊢
  rw [hdb] at hdb6 e34 e45 ⊢
  rw [hdc] at hdc6 e45 e56 ⊢
  have HDA := Lib.hid hda6
  have HDB := Lib.hid hdb6
  have HDC := Lib.hid hdc6
  have HORD := Lib.hid (And.intro hw3 (And.intro e34 (And.intro e45 e56)))
  have HB6 := Lib.hid hb06
  clear hda4 hb4 hdb5 hb5 hdc6 hb6 hda6 hdb6 e34 e45 e56 hb06 hw3 hda hdb hdc HB3
  go_wp2_with fail
  refine (open_ls (T := ⟨#[]⟩) (room := 0) HDA.out good_new).mono ?_
  rintro e w7 ⟨pa, rfl, hpd, hpv, hls, hlb, hvl, hb7⟩
  have HFA := Lib.hid (open_fp hpd hpv hls hlb hvl)
  have HPA := Lib.hid hpd
  have HLA := Lib.hid hls
  have HB7 := Lib.hid (HB6.out.trans (hb7.mono HB6.out.size))
  have HDB7 := Lib.hid (HDB.out.later hb7)
  have HDC7 := Lib.hid (HDC.out.later hb7)
  have HSZ7 := Lib.hid hb7.size
  clear hpd hpv hls hlb hvl hb7 HDA HDB HDC
  go_wp2_with fail
  refine (open_ls (T := ⟨#[]⟩) (room := 0) HDB7.out good_new).mono ?_
  rintro e w8 ⟨pb, rfl, hpd, hpv, hls, hlb, hvl, hb8⟩
  have HFB := Lib.hid (open_fp hpd hpv hls hlb hvl)
  have HPB := Lib.hid hpd
  have HLB := Lib.hid hls
  have HLA8 := Lib.hid (HLA.out.later hb8)
  have HB8 := Lib.hid (HB7.out.trans (hb8.mono HB7.out.size))
  have HDC8 := Lib.hid (HDC7.out.later hb8)
  have HSZ8 := Lib.hid hb8.size
  clear hpd hpv hls hlb hvl hb8 HDB7 HDC7 HLA
  go_wp2_with fail
  refine (open_ls (T := ⟨#[]⟩) (room := 0) HDC8.out good_new).mono ?_
  rintro e w9 ⟨pc, rfl, hpd, hpv, hls, hlb, hvl, hb9⟩
  have HFC := Lib.hid (open_fp hpd hpv hls hlb hvl)
  have HPC := Lib.hid hpd
  have HLC9 : Hid (LS w9 pc (cE 0 (-1) []) ⟨#[]⟩ 0) := Lib.hid hls
  have HLA9 : Hid (LS w9 pa (cE 0 (-1) []) ⟨#[]⟩ 0) := Lib.hid (HLA8.out.later hb9)
  have HLB9 : Hid (LS w9 pb (cE 0 (-1) []) ⟨#[]⟩ 0) := Lib.hid (HLB.out.later hb9)
  have HB9 := Lib.hid (HB8.out.trans (hb9.mono HB8.out.size))
  have HSZ9 := Lib.hid hb9.size
  clear hpd hpv hls hlb hvl hb9 HDC8 HLA8 HLB HB6 HB7 HB8
  have hord := HORD.out
  have hs7 := HSZ7.out
  have hs8 := HSZ8.out
  have hs9 := HSZ9.out
  have hdab : Dis pa pb := fun j h1 h2 => by
    have q1 := HFA.out j h1
    have q2 := HFB.out j h2
    omega
  have hdac : Dis pa pc := fun j h1 h2 => by
    have q1 := HFA.out j h1
    have q2 := HFC.out j h2
    omega
  have hdbc : Dis pb pc := fun j h1 h2 => by
    have q1 := HFB.out j h1
    have q2 := HFC.out j h2
    omega
  have hloa : ∀ j, pa.fp j → w.heap.size ≤ j := fun j h => by have := HFA.out j h; omega
  have hlob : ∀ j, pb.fp j → w.heap.size ≤ j := fun j h => by have := HFB.out j h; omega
  have hloc : ∀ j, pc.fp j → w.heap.size ≤ j := fun j h => by have := HFC.out j h; omega
  have HDab := Lib.hid hdab
  have HDac := Lib.hid hdac
  have HDbc := Lib.hid hdbc
  have HLOa := Lib.hid hloa
  have HLOb := Lib.hid hlob
  have HLOc := Lib.hid hloc
  clear hdab hdac hdbc hloa hlob hloc hord hs7 hs8 hs9 HFA HFB HFC HORD HSZ7 HSZ8 HSZ9
  obtain ⟨ba, hba⟩ : ∃ ba, pa.lb = ba := ⟨_, rfl⟩
  obtain ⟨bb, hbb⟩ : ∃ bb, pb.lb = bb := ⟨_, rfl⟩
  obtain ⟨bc, hbc⟩ : ∃ bc, pc.lb = bc := ⟨_, rfl⟩
  rw [hba, hbb, hbc]
  have HBA := Lib.hid hba
  have HBB := Lib.hid hbb
  have HBC := Lib.hid hbc
  clear hba hbb hbc
  have HLV9 := Lib.hid (HLV.out.later HB9.out)
  have HOV9 := Lib.hid (HOV.out.later HB9.out)
  have hKa : Hid (Calls Try.prog 8 #[.pointer (some ⟨ba, 0, none⟩), .int .u64 0, .slice la L.length lc] w9 fun e w' => e = .returned (.int .i64 0) ∧ ∃ p' T' room', p'.lb = pa.lb ∧ p'.db = pa.db ∧ LS w' p' (cE 0 (-1) L) T' room' ∧ Good (cE 0 (-1) L) T' room' ∧ LX pa w9 w' p') := Lib.hid (by
    have := add_ls 0 (-1) [] L 0 (.slice la L.length lc) HLA9.out good_new SmE.nil HSL.out (by decide) (by decide) (by decide) (by decide) HLV9.out (apart_low HLV.out HLOa.out)
    rw [HBA.out] at this ⊢
    exact this)
  go_wp2_with fail
  refine hKa.out.mono ?_
  rintro e w10 ⟨rfl, pa1, Ta, ra, h1, h2, h3, h4, h5⟩
  have HLA10 := Lib.hid h3
  have HGA := Lib.hid h4
  have HBA1 := Lib.hid (h1.trans HBA.out)
  have HPA1 := Lib.hid (h2.trans HPA.out)
  have HLB10 := Lib.hid (HLB9.out.other HDab.out h5)
  have HLC10 := Lib.hid (HLC9.out.other HDac.out h5)
  have HDab1 := Lib.hid (HDab.out.step h5 HLB9.out.lt)
  have HDac1 := Lib.hid (HDac.out.step h5 HLC9.out.lt)
  have HLOa1 := Lib.hid (h5.low HLOa.out HB9.out.size)
  have hb10 := HB9.out.trans (h5.below HLOa.out HB9.out.size)
  have HB10 := Lib.hid hb10
  have HLV10 := Lib.hid (HLV.out.later hb10)
  have HOV10 := Lib.hid (HOV.out.later hb10)
  clear h1 h2 h3 h4 h5 hb10 hKa HLA9 HLB9 HLC9 HDab HDac HLOa HB9 HLV9 HOV9 HBA HPA
  have hKc : Hid (Calls Try.prog 8 #[.pointer (some ⟨bc, 0, none⟩), .int .u64 0, .slice oa O.length oc] w10 fun e w' => e = .returned (.int .i64 0) ∧ ∃ p' T' room', p'.lb = pc.lb ∧ p'.db = pc.db ∧ LS w' p' (cE 0 (-1) O) T' room' ∧ Good (cE 0 (-1) O) T' room' ∧ LX pc w10 w' p') := Lib.hid (by
    have := add_ls 0 (-1) [] O 0 (.slice oa O.length oc) HLC10.out good_new SmE.nil HSO.out (by decide) (by decide) (by decide) (by decide) HOV10.out (apart_low HOV.out HLOc.out)
    rw [HBC.out] at this ⊢
    exact this)
  go_wp2_with fail
  refine hKc.out.mono ?_
  rintro e w11 ⟨rfl, pc1, Tc, rc, h1, h2, h3, h4, h5⟩
  have HLC11 := Lib.hid h3
  have HGC := Lib.hid h4
  have HBC1 := Lib.hid (h1.trans HBC.out)
  have HPC1 := Lib.hid (h2.trans HPC.out)
  have HLA11 := Lib.hid (HLA10.out.other HDac1.out.symm h5)
  have HLB11 := Lib.hid (HLB10.out.other HDbc.out.symm h5)
  have HDac2 := Lib.hid (HDac1.out.symm.step h5 HLA10.out.lt).symm
  have HDbc2 := Lib.hid (HDbc.out.symm.step h5 HLB10.out.lt).symm
  have HLOc2 := Lib.hid (h5.low HLOc.out HB10.out.size)
  have hb11 := HB10.out.trans (h5.below HLOc.out HB10.out.size)
  have HB11 := Lib.hid hb11
  have HLV11 := Lib.hid (HLV.out.later hb11)
  clear h1 h2 h3 h4 h5 hb11 hKc HLA10 HLB10 HLC10 HDac1 HDbc HLOc HB10 HLV10 HOV10 HBC HPC
  have hKd : Hid (Calls Try.prog 8 #[.pointer (some ⟨bc, 0, none⟩), .int .u64 0, .slice la L.length lc] w11 fun e w' => e = .returned (.int .i64 0) ∧ ∃ p' T' room', p'.lb = pc1.lb ∧ p'.db = pc1.db ∧ LS w' p' (cE 0 (-1) L) T' room' ∧ Good (cE 0 (-1) L) T' room' ∧ LX pc1 w11 w' p') := Lib.hid (by
    have := add_ls 0 (-1) O L 0 (.slice la L.length lc) HLC11.out HGC.out HSO.out HSL.out (by decide) (by decide) (by decide) (Nat.zero_le _) HLV11.out (apart_low HLV.out HLOc2.out)
    rw [HBC1.out] at this ⊢
    exact this)
  go_wp2_with fail
  refine hKd.out.mono ?_
  rintro e w12 ⟨rfl, pc2, Td, rd, h1, h2, h3, h4, h5⟩
  have HLC12 := Lib.hid h3
  have HGD := Lib.hid h4
  have HBC2 := Lib.hid (h1.trans HBC1.out)
  have HPC2 := Lib.hid (h2.trans HPC1.out)
  have HLA12 := Lib.hid (HLA11.out.other HDac2.out.symm h5)
  have HLB12 := Lib.hid (HLB11.out.other HDbc2.out.symm h5)
  have HDac3 := Lib.hid (HDac2.out.symm.step h5 HLA11.out.lt).symm
  have HDbc3 := Lib.hid (HDbc2.out.symm.step h5 HLB11.out.lt).symm
  have HLOc3 := Lib.hid (h5.low HLOc2.out HB11.out.size)
  have hb12 := HB11.out.trans (h5.below HLOc2.out HB11.out.size)
  have HB12 := Lib.hid hb12
  have HGB := Lib.hid good_new
  clear h1 h2 h3 h4 h5 hb12 hKd HLA11 HLB11 HLC11 HDac2 HDbc2 HLOc2 HB11 HLV11 HBC1 HPC1 HGC
  have hLI : (L.length : Int) ≤ 10 := by have := HSL.out.len; omega
  go_wp2_with fail
  go_loopw [14, 68] (fun okv i wr => ∃ (k : Nat) (pb' : Lp) (T : ByteArray) (rm : Nat), k ≤ L.length ∧ okv = .bool true ∧ i = .int .i64 (k : Int) ∧ Hid (LS wr pb' (cE 0 (-1) (L.take k)) T rm) ∧ Hid (Good (cE 0 (-1) (L.take k)) T rm) ∧ Hid (pb'.lb = bb) ∧ Hid (pb'.db = db) ∧ Hid (∀ j, pb'.fp j → w.heap.size ≤ j) ∧
    Hid (Dis pa1 pb') ∧ Hid (Dis pb' pc2) ∧ Hid (LS wr pa1 (cE 0 (-1) L) Ta ra) ∧ Hid (LS wr pc2 (cE 0 (-1) L) Td rd) ∧ Hid (Below w.heap.size w wr)) (fun _ i _ => L.length - (intOf i).toNat)
  case atStart => exact ⟨0, pb, ⟨#[]⟩, 0, Nat.zero_le _, rfl, rfl, HLB12, HGB, HBB, HPB, HLOb, HDab1, HDbc3, HLA12, HLC12, HB12⟩
  case round =>
    obtain ⟨k, pb1, T, rm, hk, rfl, rfl, HLB, HG, HLbb, HLdb, HLO1, HD1, HD2, HLA, HLC, HB⟩ := hrel
    clear HLB12 HGB HBB HPB HLOb HDab1 HDbc3 HLA12 HLC12 HB12
    by_cases hlt : k < L.length
    · obtain ⟨⟨t, s⟩, hx⟩ : ∃ x, L[k]? = some x := ⟨_, List.getElem?_eq_getElem hlt⟩
      obtain ⟨a', c', e0, _, hcells⟩ := HLV.out.later HB.out
      injection e0 with e1 e2 e3
      subst e1
      obtain ⟨g, o, rfl, hg, hcs⟩ := hcells (fun e => by rw [e] at hlt; simp at hlt)
      obtain ⟨c0, c1⟩ := hcs k _ hx
      have hk0 : (0 : Int) ≤ (k : Int) := by omega
      have hkI : (k : Int) < (L.length : Int) := by omega
      have hkt : (L.take k).length = k := by rw [List.length_take]; omega
      have htk : (L.take k).take k ++ [(t, s)] = L.take (k + 1) := by
        rw [List.take_take, Nat.min_self, List.take_succ_eq_append_getElem hlt]
        congr 2
        exact ((List.getElem?_eq_some_iff.1 hx).2).symm
      have hxm : (t, s) ∈ L := List.mem_of_getElem? hx
      have hs1 : SmE [(t, s)] := ⟨by simp, fun x hx => by
        obtain rfl : x = (t, s) := by simpa using hx
        exact HSL.out.ok _ hxm, fun x hx => by
        obtain rfl : x = (t, s) := by simpa using hx
        exact HSL.out.cmd _ hxm⟩
      have hKe : Hid (Calls Try.prog 8 #[.pointer (some ⟨bb, 0, none⟩), .int .u64 (k : Int), .slice (some ⟨wr.heap.size + 1, 0, none⟩) 1 1] ((wr.alloc (.cells #[.int .u64 (t : Int), .string s] 37)).alloc (.cells #[.int .u64 (t : Int), .string s] 37)) fun e w' => e = .returned (.int .i64 0) ∧ ∃ p' T' room', p'.lb = pb1.lb ∧ p'.db = pb1.db ∧ LS w' p' (cE 0 (-1) (L.take (k + 1))) T' room' ∧ Good (cE 0 (-1) (L.take (k + 1))) T' room' ∧ LX pb1 ((wr.alloc (.cells #[.int .u64 (t : Int), .string s] 37)).alloc (.cells #[.int .u64 (t : Int), .string s] 37)) w' p') := Lib.hid (by
        have hb := ((Below.refl wr.heap.size wr).alloc (Nat.le_refl _) (.cells #[.int .u64 (t : Int), .string s] 37)).alloc (by simp) (.cells #[.int .u64 (t : Int), .string s] 37)
        have hblk : ((wr.alloc (.cells #[.int .u64 (t : Int), .string s] 37)).alloc (.cells #[.int .u64 (t : Int), .string s] 37)).heap[wr.heap.size + 1]? = some (.cells (entC [(t, s)]).toArray 37 (0, 0)) := by
          have := heap_alloc_new (wr.alloc (.cells #[.int .u64 (t : Int), .string s] 37)) (.cells #[.int .u64 (t : Int), .string s] 37)
          simpa [entC] using this
        have := add_ls 0 (-1) (L.take k) [(t, s)] k (.slice (some ⟨wr.heap.size + 1, 0, none⟩) 1 1) (HLB.out.later hb) HG.out (HSL.out.take k) hs1 (by decide) (by decide) (by decide) (by rw [hkt]; exact Nat.le_refl _)
          (esl_block (E := [(t, s)]) hblk (Nat.le_refl _)) (fun _ m hm => by
            have hm' : wr.heap.size + 1 = m := by simpa [Value.ownBlock] using hm
            subst hm'
            exact ⟨fun e => by have := HLB.out.lt _ (.inl e); omega, fun e => by have := HLB.out.lt _ (.inr (.inr (.inl e))); omega⟩)
        rw [HLbb.out] at this ⊢
        rw [htk] at this
        exact this)
      clear hcells hcs hx hkt htk hxm hs1 e2 e3
      go_wp2_with fail
      refine hKe.out.mono ?_
      rintro e w13 ⟨rfl, pb2, T2, r2, h1, h2, h3, h4, h5⟩
      have hx2 := (LX.ofBelow pb1 (((Below.refl wr.heap.size wr).alloc (Nat.le_refl _) (.cells #[.int .u64 (t : Int), .string s] 37)).alloc (by simp) (.cells #[.int .u64 (t : Int), .string s] 37))).trans h5
      have M1 := Lib.hid h3
      have M2 := Lib.hid h4
      have M3 := Lib.hid (h1.trans HLbb.out)
      have M4 := Lib.hid (h2.trans HLdb.out)
      have M5 := Lib.hid (hx2.low HLO1.out HB.out.size)
      have M6 := Lib.hid (HD1.out.symm.step hx2 HLA.out.lt).symm
      have M7 := Lib.hid (HD2.out.step hx2 HLC.out.lt)
      have M8 := Lib.hid (HLA.out.other HD1.out.symm hx2)
      have M9 := Lib.hid (HLC.out.other HD2.out hx2)
      have M10 := Lib.hid (HB.out.trans (hx2.below HLO1.out HB.out.size))
      clear h1 h2 h3 h4 h5 hx2 hKe
      go_wp2_with fail
      go_roundw
      case rel => exact ⟨k + 1, pb2, T2, r2, by omega, rfl, by go_num, M1, M2, M3, M4, M5, M6, M7, M8, M9, M10⟩
      case measure => simp [intOf]; omega
    · have hke : k = L.length := by omega
      subst hke
      have hkI : ¬ (L.length : Int) < (L.length : Int) := by omega
      have hLb := HLB.out
      have hGb := HG.out
      rw [List.take_length] at hLb hGb
      have HLB1 := Lib.hid hLb
      have HG1 := Lib.hid hGb
      clear hLb hGb HLB HG
      go_wp2_with fail
      refine (rnew_prog wr).mono ?_
      rintro e w14 ⟨rfl, hb14⟩
      have HLV14 := Lib.hid (HLV.out.later (HB.out.trans (hb14.mono HB.out.size)))
      have HB14 := Lib.hid hb14
      clear hb14
      go_wp2_with fail
      refine (radd_prog _ L w14 HLV14.out HSL.out).mono ?_
      rintro e w15 ⟨rv, rfl, hrv, hb15⟩
      obtain ⟨ra', rc', rfl, _⟩ := hrv.shape
      have HB15 := Lib.hid (HB14.out.trans (hb15.mono HB14.out.size))
      have HRV := Lib.hid hrv
      have HS15 := Lib.hid hb15.size
      clear hb15 hrv HLV14
      unfold ctC cE
      go_wp2_with fail
      obtain ⟨Hr, hHr⟩ : ∃ Hr, w15.heap.size = Hr := ⟨_, rfl⟩
      obtain ⟨WZ, hWZ⟩ : ∃ WZ, WZ = (w15.alloc (.cells #[.int .u64 0, .int .i64 (-1), .int .u64 0, .int .u64 0, .string ⟨#[]⟩, .slice ra' L.length rc'] 39)).alloc (.cells #[.pointer (some ⟨da, 0, none⟩), .pointer (some ⟨db, 0, none⟩), .pointer (some ⟨dc, 0, none⟩)] 29) := ⟨_, rfl⟩
      have hyz : wr.heap.size ≤ w15.heap.size := HB15.out.size
      have hbz : Below w15.heap.size w15 WZ := by rw [hWZ]; exact ((Below.refl _ _).alloc (Nat.le_refl _) _).alloc (by simp) _
      have hz1 : WZ.heap[Hr]? = some (.cells #[.int .u64 0, .int .i64 (-1), .int .u64 0, .int .u64 0, .string ⟨#[]⟩, .slice ra' L.length rc'] 39 (0, 0)) := by
        rw [hWZ, ← hHr]; rw [Lib.alloc_old _ _ _ (by simp)]; exact heap_alloc_new _ _
      have hz2 : WZ.heap[Hr + 1]? = some (.cells #[.pointer (some ⟨da, 0, none⟩), .pointer (some ⟨db, 0, none⟩), .pointer (some ⟨dc, 0, none⟩)] 29 (0, 0)) := by
        have := heap_alloc_new (w15.alloc (.cells #[.int .u64 0, .int .i64 (-1), .int .u64 0, .int .u64 0, .string ⟨#[]⟩, .slice ra' L.length rc'] 39)) (.cells #[.pointer (some ⟨da, 0, none⟩), .pointer (some ⟨db, 0, none⟩), .pointer (some ⟨dc, 0, none⟩)] 29)
        rw [hWZ, ← hHr]; simpa using this
      have hzs : WZ.heap.size = Hr + 2 := by rw [hWZ, ← hHr]; simp
      have hbrz : Below wr.heap.size wr WZ := HB15.out.trans (hbz.mono hyz)
      have hrv2 : EOwn WZ w14.heap.size (.slice ra' L.length rc') L := HRV.out.later hbz
      have htri : Tri w WZ wr.heap.size (Hr + 2) (tri ba bb bc) (tri da db dc) (cE 0 (-1) L) (tri pa1 pb1 pc2) (tri Ta T Td) (tri ra rm rd) WZ := by
        refine ⟨fun i hi => ?_, fun i hi => ?_, fun i hi => ?_, fun i hi => ?_, fun i j hi hj hne => ?_, fun i hi => ?_, fun _ _ _ => rfl, HB.out.trans (hbrz.mono HB.out.size), by omega⟩
        · rcases (by omega : i = 0 ∨ i = 1 ∨ i = 2) with rfl | rfl | rfl
          · exact HBA1.out
          · exact HLbb.out
          · exact HBC2.out
        · rcases (by omega : i = 0 ∨ i = 1 ∨ i = 2) with rfl | rfl | rfl
          · exact HPA1.out
          · exact HLdb.out
          · exact HPC2.out
        · rcases (by omega : i = 0 ∨ i = 1 ∨ i = 2) with rfl | rfl | rfl
          · exact HLA.out.later hbrz
          · exact HLB1.out.later hbrz
          · exact HLC.out.later hbrz
        · rcases (by omega : i = 0 ∨ i = 1 ∨ i = 2) with rfl | rfl | rfl
          · exact HGA.out
          · exact HG1.out
          · exact HGD.out
        · rcases (by omega : i = 0 ∨ i = 1 ∨ i = 2) with rfl | rfl | rfl <;> rcases (by omega : j = 0 ∨ j = 1 ∨ j = 2) with rfl | rfl | rfl
          · exact absurd rfl hne
          · exact HD1.out
          · exact HDac3.out
          · exact HD1.out.symm
          · exact absurd rfl hne
          · exact HD2.out
          · exact HDac3.out.symm
          · exact HD2.out.symm
          · exact absurd rfl hne
        · intro j hj
          rcases (by omega : i = 0 ∨ i = 1 ∨ i = 2) with rfl | rfl | rfl
          · exact ⟨HLOa1.out j hj, .inl (HLA.out.lt j hj)⟩
          · exact ⟨HLO1.out j hj, .inl (HLB1.out.lt j hj)⟩
          · exact ⟨HLOc3.out j hj, .inl (HLC.out.lt j hj)⟩
      obtain ⟨Y, hY⟩ : ∃ Y, wr.heap.size = Y := ⟨_, rfl⟩
      rw [hY] at htri hyz
      have hrl : Y ≤ w14.heap.size := by rw [← hY]; exact HB14.out.size
      have HTRI := Lib.hid htri
      have HZ1 := Lib.hid hz1
      have HZ2 := Lib.hid hz2
      have HRVZ := Lib.hid hrv2
      have HRV2 : Hid (∀ j, (Value.slice ra' L.length rc').ownBlock = some j → j < Hr) := Lib.hid (fun j hj => by have := HRV.out.lt j hj; omega)
      have HYZ : Hid (Y ≤ Hr) := Lib.hid (by rw [← hHr]; exact hyz)
      have HRL : Hid (Y ≤ w14.heap.size ∧ w14.heap.size ≤ Hr) := Lib.hid ⟨hrl, by rw [← hHr]; exact HS15.out⟩
      have HCO := Lib.hid (cE_ok HSL.out (t := 0) (x := -1) (by decide) (by decide) (by decide))
      rw [← hWZ, hHr]
      clear hY hrl hyz hbz hz1 hz2 hzs hbrz hrv2 htri hWZ hHr HBA1 HLbb HBC2 HPA1 HLdb HPC2 HLA HLB1 HLC HGA HG1 HGD HD1 HD2 HDac3 HLOa1 HLO1 HLOc3 HB14 HB15 HRV HS15 HB
      try go_wp2_with fail
      go_loopw [97] (fun i wr2 => ∃ (k : Nat) (P : Nat → Lp) (T' : Nat → ByteArray) (R' : Nat → Nat), k ≤ 3 ∧ i = .int .i64 (k : Int) ∧ Hid (Tri w WZ Y (Hr + 2) (tri ba bb bc) (tri da db dc) (cE 0 (-1) L) P T' R' wr2)) (fun i _ => 3 - (intOf i).toNat)
      case atStart => exact ⟨0, _, _, _, by omega, rfl, HTRI⟩
      case round =>
        obtain ⟨k, P, T', R', hk, rfl, HT⟩ := hrel
        clear HTRI
        have hzr1 := (HT.out.frame Hr HYZ.out (by omega)).trans HZ1.out
        obtain ⟨m0, m1, m2, m3, m4, m5⟩ := cells6 hzr1
        have hrvr := Lib.hid (HRVZ.out.mv (w' := wr) fun j hj => by
          have q1 := HRVZ.out.low j hj
          have q2 := HRV2.out j hj
          have := HRL.out
          exact HT.out.frame j (by omega) (by omega))
        clear hzr1
        by_cases hlt : k < 3
        · have hk0 : (0 : Int) ≤ (k : Int) := by omega
          have hkI : (k : Int) < 3 := by omega
          have hzr2 := (HT.out.frame (Hr + 1) (by have := HYZ.out; omega) (by omega)).trans HZ2.out
          obtain ⟨D, hD⟩ : ∃ D, tri da db dc k = D := ⟨_, rfl⟩
          have c0 : wr.cell? ⟨Hr + 1, k, none⟩ = some (.pointer (some ⟨D, 0, none⟩)) := by
            rw [← hD]
            rcases (by omega : k = 0 ∨ k = 1 ∨ k = 2) with rfl | rfl | rfl <;> simp [World.cell?, hzr2, tri]
          have hpd := (HT.out.db k hlt).trans hD
          have K1 := crash_ls (HT.out.ls k hlt) (by have := (HT.out.good k hlt).size; omega)
          rw [hpd] at K1
          have K1 := Lib.hid K1
          have HPD := Lib.hid hpd
          clear hzr2 hD hpd
          go_wp2_with fail
          refine K1.out.mono ?_
          rintro e w20 ⟨rfl, p', h1, h2, h3, h4⟩
          have htr := HT.out.step hlt h1 (h2.trans HPD.out.symm) h3 h4
          have hdk := h3.disk
          rw [h2] at hdk
          have K2 := Lib.hid (open_ls hdk (HT.out.good k hlt))
          have HT20 := Lib.hid htr
          clear h1 h2 h3 h4 htr hdk K1 HT m0 m1 m2 m3 m4 m5 hrvr c0
          go_wp2_with fail
          refine K2.out.mono ?_
          rintro e w21 ⟨q, rfl, _, _, hlq, _, _, hb21⟩
          have ht21 := HT20.out.later hb21
          have hzr1 := (ht21.frame Hr HYZ.out (by omega)).trans HZ1.out
          obtain ⟨m0, m1, m2, m3, m4, m5⟩ := cells6 hzr1
          have hrv21 := HRVZ.out.mv (w' := w21) fun j hj => by
            have q1 := HRVZ.out.low j hj
            have q2 := HRV2.out j hj
            have := HRL.out
            exact ht21.frame j (by omega) (by omega)
          have K3 : Hid (Calls Try.prog 12 #[.pointer (some ⟨q.lb, 0, none⟩), .agg #[.int .u64 0, .int .i64 (-1), .int .u64 0, .int .u64 0, .string ⟨#[]⟩, .slice ra' L.length rc']] w21 fun e w' => e = .returned (.bool true) ∧ Below w21.heap.size w21 w') :=
            Lib.hid (holds_prog (c := cE 0 (-1) L) (rv := .slice ra' L.length rc') hlq.log hrv21.sl HCO.out (by have := HSL.out.len; simp only [cE]; unfold m64; omega) (by have := HSL.out.len; simp only [cE]; omega))
          have HT21 := Lib.hid ht21
          clear hlq hb21 ht21 hzr1 hrv21 HT20 K2
          go_wp2_with fail
          refine K3.out.mono ?_
          rintro e w22 ⟨rfl, hb22⟩
          have HT22 := Lib.hid (HT21.out.later hb22)
          clear hb22 K3 HT21 m0 m1 m2 m3 m4 m5
          go_wp2_with fail
          go_roundw
          case rel => exact ⟨k + 1, _, _, _, by omega, by go_num, HT22⟩
          case measure => simp [intOf]; omega
        · have hke : k = 3 := by omega
          subst hke
          have hlog : ∀ i, i < 3 → ∀ (W : World), Below wr.heap.size wr W → Calls Try.prog 12 #[.pointer (some ⟨tri ba bb bc i, 0, none⟩), .agg #[.int .u64 0, .int .i64 (-1), .int .u64 0, .int .u64 0, .string ⟨#[]⟩, .slice ra' L.length rc']] W fun e w' => e = .returned (.bool true) ∧ Below W.heap.size W w' := fun i hi W hW => by
            have h1 := (HT.out.ls i hi).later hW
            have h2 := h1.log
            rw [HT.out.lb i hi] at h2
            exact holds_prog (c := cE 0 (-1) L) (rv := .slice ra' L.length rc') h2 (hrvr.out.later hW).sl HCO.out (by have := HSL.out.len; simp only [cE]; unfold m64; omega) (by have := HSL.out.len; simp only [cE]; omega)
          have Ka := Lib.hid (hlog 0 (by omega))
          have Kb := Lib.hid (hlog 1 (by omega))
          have Kc := Lib.hid (hlog 2 (by omega))
          have HBr := Lib.hid HT.out.below
          have HSr := Lib.hid (show Hr + 2 ≤ wr.heap.size from HT.out.size)
          have HZr := Lib.hid ((HT.out.frame Hr HYZ.out (by omega)).trans HZ1.out)
          clear hlog HT hrvr
          go_wp2_with fail
          refine (Ka.out wr (Below.refl _ _)).mono ?_
          rintro e w23 ⟨rfl, hb23⟩
          have hz23 := (hb23.block Hr (by have := HSr.out; omega)).trans HZr.out
          clear m0 m1 m2 m3 m4 m5
          obtain ⟨m0, m1, m2, m3, m4, m5⟩ := cells6 hz23
          have HB23 := Lib.hid hb23
          clear hb23 hz23 Ka
          go_wp2_with fail
          refine (Kb.out w23 HB23.out).mono ?_
          rintro e w24 ⟨rfl, hb24⟩
          have hb24' := HB23.out.trans (hb24.mono HB23.out.size)
          have hz24 := (hb24'.block Hr (by have := HSr.out; omega)).trans HZr.out
          clear m0 m1 m2 m3 m4 m5
          obtain ⟨m0, m1, m2, m3, m4, m5⟩ := cells6 hz24
          have HB24 := Lib.hid hb24'
          clear hb24 hb24' hz24 Kb HB23
          go_wp2_with fail
          refine (Kc.out w24 HB24.out).mono ?_
          rintro e w25 ⟨rfl, hb25⟩
          have HB25 := Lib.hid (HBr.out.trans ((HB24.out.trans (hb25.mono HB24.out.size)).mono HBr.out.size))
          clear hb25 Kc HB24
          go_wp2_with fail
          go_ret
          exact ⟨rfl, HB25.out⟩
end Go.Proofs.Ytfocljmjejniiaa
