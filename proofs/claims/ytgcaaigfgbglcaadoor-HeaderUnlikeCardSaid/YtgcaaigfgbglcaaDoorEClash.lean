/- The reference's Clash, and its root of no pairs. -/
import Derived.Test.YtgcaaigfgbglcaaDoorEMade
namespace Go.Proofs.YtgcaaigfgbglcaaDoor
open Go.RowKit
open Cod (SlN Grew ownN_low ownN_mv ownN_base)
abbrev ks (s : ByteArray) : List UInt8 := s.data.toList
theorem ks_inj {a b : ByteArray} (h : ks a = ks b) : a = b := ByteArray.ext (Array.toList_inj.1 h)
theorem cellB {W w4 : World} (hb : Below W.heap.size W w4) {g o : Nat} {v : Value} (h : W.cell? ⟨g, o, none⟩ = some v) : w4.cell? ⟨g, o, none⟩ = some v := by
  have hlt := World.block_lt_of_cell? W _ h
  rw [hb.cell (p := ⟨g, o, none⟩) hlt]; exact h
theorem cellD {W w4 : World} (hb : Below W.drew.heap.size W.drew w4) {g o : Nat} {v : Value} (h : W.cell? ⟨g, o, none⟩ = some v) : w4.cell? ⟨g, o, none⟩ = some v := by
  have hlt := World.block_lt_of_cell? W _ h
  rw [hb.cell (p := ⟨g, o, none⟩) hlt]; exact h
def sumB (l : List UInt8) : ByteArray := ⟨(sumL l).toArray⟩
def noneH : ByteArray := ⟨(List.replicate 32 (0 : UInt8)).toArray⟩
def StrRes (w : World) (s : ByteArray) (e : Ending) (w' : World) : Prop := e = .returned (.string s) ∧ Below w.heap.size w w'
theorem print_at (s R : ByteArray) (w : World) (hR : sumB (ks s) = R) (hs : s.size ≤ 100000) : Calls Tryd.prog 23 #[.string s] w (StrRes w R) := by
  subst hR; exact print_ref s w hs
theorem Tryd.strSl : SlN Tryd.prog 46 9 (.string ⟨#[]⟩) 1 16 := ⟨Tryd.underlying46, by kernel_rfl, rfl, by decide⟩
def SOwn (w : World) (B : Nat) (v : Value) (l : List ByteArray) : Prop := w.ownsRow B 9 1 v l.length (l.map Value.string)
theorem SOwn.alloc {w : World} {B : Nat} {v : Value} {l : List ByteArray} (h : SOwn w B v l) (o : Obj) : SOwn (w.alloc o) B v l := World.ownsRow.alloc h o
theorem SOwn.low {w : World} {B : Nat} {v : Value} {l : List ByteArray} (h : SOwn w B v l) : ∀ k, v.ownBlock = some k → B ≤ k := ownN_low h
theorem SOwn.later {w w' : World} {B : Nat} {v : Value} {l : List ByteArray} (h : SOwn w B v l) (hb : Below w.heap.size w w') : SOwn w' B v l := ownN_mv h (fun k hk => hb.block k (World.ownsRow.lt h k hk).2)
theorem SOwn.base {w : World} {B B' : Nat} {v : Value} {l : List ByteArray} (h : SOwn w B v l) (hB : B' ≤ B) : SOwn w B' v l := ownN_base h (fun k hk => Nat.le_trans hB (SOwn.low h k hk))
theorem SOwn.at {w : World} {B : Nat} {v : Value} {l : List ByteArray} (h : SOwn w B v l) (hne : l ≠ []) : ∃ g c, v = .slice (some ⟨g, 0, none⟩) l.length c ∧ l.length ≤ c ∧ B ≤ g ∧ g < w.heap.size ∧ ∀ i s, l[i]? = some s → w.cell? ⟨g, i, none⟩ = some (.string s) := by
  rcases h.2 with ⟨h1, h2⟩ | ⟨g, cap, cur, he, hB, hg, hn, hm, hs, ht⟩
  · exact absurd (List.eq_nil_of_length_eq_zero h2) hne
  · refine ⟨g, cap, he, hn, hB, block_lt hg, fun i s hi => ?_⟩
    have hj : i < l.length := (List.getElem?_eq_some_iff.1 hi).1
    have hu : (l.map Value.string)[i]? = some (.string s) := by rw [List.getElem?_map, hi]; rfl
    rw [← ht, List.getElem?_take] at hu
    split at hu
    · unfold World.cell?
      rw [hg]
      simpa using hu
    · cases hu
theorem SOwn.cellsAt {w : World} {B g n c : Nat} {l : List ByteArray} (h : SOwn w B (.slice (some ⟨g, 0, none⟩) n c) l) (i : Nat) (u : Value) (hi : (l.map Value.string)[i]? = some u) : w.cell? ⟨g, 0 + i, none⟩ = some u := by
  rw [Nat.zero_add]
  rw [List.getElem?_map] at hi
  cases hl : l[i]? with
  | none => rw [hl] at hi; cases hi
  | some s =>
    rw [hl] at hi
    have hne : l ≠ [] := fun e => by rw [e] at hl; cases hl
    obtain ⟨g', c', he, _, _, _, hcs⟩ := SOwn.at h hne
    injection he with e1 _ _
    injection e1 with e1
    injection e1 with e1 _ _
    subst e1
    have : u = .string s := by simpa using hi.symm
    rw [this]; exact hcs i s hl
theorem strs_one (l : List ByteArray) : ∀ u ∈ l.map Value.string, u.oneCell' = true := by
  intro u hu
  obtain ⟨s, _, rfl⟩ := List.mem_map.1 hu
  rfl
theorem texts_none (a : Option Addr) (c : Nat) (w : World) : Calls Tryd.prog 75 #[.slice a 0 c] w fun e w' => e = .returned (.slice none 0 0) ∧ w = w' := by
  go_enter Tryd.func75, Tryd.ntmps75
  go_wp2
  go_ret
  exact ⟨rfl, rfl⟩
theorem root_none (a : Option Addr) (c : Nat) (w : World) : Calls Tryd.prog 56 #[.slice a 0 c] w (StrRes w noneH) := by
  go_enter Tryd.func56, Tryd.ntmps56
  go_wp2_with fail
  refine (texts_none a c w).mono ?_
  rintro e w1 ⟨rfl, rfl⟩
  go_wp2_with (refine list_makeN Tryd.bytesSl rfl _ _ rfl 32 32 32 rfl rfl rfl rfl (by omega) (by unfold maxLen; omega) rfl ?_)
  intro w1 hr hb
  have hc := rowIs_block hr
  have hcells := cells_map 32 (List.replicate 32 (0 : UInt8)) (fun _ => 0) (by simp) (fun j hj => by rw [List.getD_eq_getElem?_getD, List.getElem?_replicate]; simp [hj])
  have e0 : arrL 32 (fun _ => Value.int .u8 0) = (List.replicate 32 (0 : UInt8)).map byteV := hcells
  rw [e0] at hc
  have hcv := run_string_row (src := 58) (dst := 9) Tryd.underlying58 Tryd.underlying5 Tryd.underlying9 w.heap.size 32 (List.replicate 32 (0 : UInt8)) (P := Tryd.prog) (e := 5) (w := w1) hc
  rw [List.length_replicate] at hcv
  clear hc hcells e0 hr
  go_wp2
  go_ret
  exact ⟨rfl, hb⟩
theorem str_ne {a b : ByteArray} (h : ¬ a = b) : (a.toList == b.toList) = false := by
  rw [beq_eq_false_iff_ne]
  intro e
  rw [ByteArray.toList_eq, ByteArray.toList_eq] at e
  exact h (ks_inj e)
/-- A text's hash. -/
def hB (s : ByteArray) : ByteArray := sumB (ks s)
/-- A text's hash is that of none, or two unlike texts have one. -/
def ClB (T : List ByteArray) : Prop := (∃ x ∈ T, hB x = noneH) ∨ ∃ x ∈ T, ∃ y ∈ T, x ≠ y ∧ hB x = hB y
def ClRes (T : List ByteArray) (w : World) (e : Ending) (w' : World) : Prop := ∃ b : Bool, e = .returned (.bool b) ∧ (ClB T → b = true) ∧ Below w.heap.size w w'
theorem SOwn.nil (w : World) (B : Nat) : SOwn w B (.slice none 0 0) [] := World.ownsRow_nil _ _ _ _
theorem SOwn.shape {w : World} {B : Nat} {v : Value} {l : List ByteArray} (h : SOwn w B v l) : ∃ a c, v = .slice a l.length c := by
  rcases h.2 with ⟨h1, h2⟩ | ⟨g, cap, cur, hv, _, _, hn, _⟩
  · exact ⟨none, 0, by rw [h1, h2]⟩
  · exact ⟨_, _, hv⟩
theorem clash_none {T : List ByteArray} (h1 : ∀ x ∈ T, hB x ≠ noneH) (h2 : ∀ (a b : Nat) (x y : ByteArray), b < a → a < T.length → T[a]? = some x → T[b]? = some y → x ≠ y → hB x ≠ hB y) : ¬ ClB T := by
  rintro (⟨x, hx, e⟩ | ⟨x, hx, y, hy, hne, e⟩)
  · exact h1 x hx e
  · obtain ⟨a, ha, rfl⟩ := List.getElem_of_mem hx
    obtain ⟨b, hb, rfl⟩ := List.getElem_of_mem hy
    rcases Nat.lt_trichotomy a b with h | h | h
    · exact h2 b a _ _ h hb (List.getElem?_eq_getElem hb) (List.getElem?_eq_getElem ha) (Ne.symm hne) e.symm
    · subst h; exact hne rfl
    · exact h2 a b _ _ h ha (List.getElem?_eq_getElem ha) (List.getElem?_eq_getElem hb) hne e
theorem SOwn.drewN {w : World} {B : Nat} {v : Value} {l : List ByteArray} (h : SOwn w B v l) (n : Nat) : SOwn (w.drewN n) B v l := h
/-- append of texts. -/
theorem list_appS {ops : Array Oper} {rest : List Oper} {o : Oper} {a : Act} {w : World} {Q : Exit → Act → World → Prop} (hgd : o.guard = none) (s x : Operand)
    (ho : o.op = .call { callee := .builtin .append, args := #[s, x], argTypes := #[46, 46] })
    (B : Nat) (v : Value) (l : List ByteArray) (hs : a.eval s = v) (hown : SOwn w B v l)
    (xv : Value) (B' : Nat) (m : List ByteArray) (hx : a.eval x = xv) (hsl : SOwn w B' xv m)
    (hl : l.length + m.length ≤ 100000) (hbase : B ≤ w.heap.size)
    (h : ∀ v' w', SOwn w' B v' (l ++ m) → Grew w v w' v' → wpList Tryd.prog ops Q rest (a.put o.dst v') w') :
    wpList Tryd.prog ops Q (o :: rest) a w := by
  obtain ⟨ad, c, he⟩ := SOwn.shape hsl
  refine list_appN2 Tryd.strSl hgd s x ho B v l.length (l.map Value.string) hs hown ad m.length c (m.map Value.string) (by rw [hx, he]) (by rw [List.length_map, Nat.mul_one]) (fun hm => ?_) (strs_one _) (by unfold maxLen; omega) (by omega) hbase ?_
  · obtain ⟨g, c', he2, _⟩ := SOwn.at hsl (fun e => by rw [e] at hm; simp at hm)
    rw [he2] at he
    injection he with e1 _ _
    rw [he2] at hsl
    exact ⟨g, 0, e1.symm, fun i u hi => SOwn.cellsAt hsl i u hi⟩
  · intro v' w' h1 h2
    refine h v' w' ?_ h2
    unfold SOwn
    rw [List.length_append, List.map_append]
    exact h1
theorem one_own (w : World) (B : Nat) (hB : B ≤ w.heap.size) (x : ByteArray) : SOwn (w.alloc (.cells #[.string x] 9)) B (.slice (some ⟨w.heap.size, 0, none⟩) 1 1) [x] :=
  World.ownsRow_lit w #[.string x] 1 hB (by decide) (by simp)

def catL (A B : List ByteArray) (j : Nat) : List ByteArray := if j = 0 then [] else if j = 1 then A else A ++ B
def C1Rel (A B : List ByteArray) (w : World) (v i : Value) (wr : World) : Prop :=
  ∃ j : Nat, i = .int .i64 j ∧ j ≤ 2 ∧ Hid (SOwn wr w.heap.size v (catL A B j)) ∧ Below w.heap.size w wr
def C2Rel (T : List ByteArray) (wA : World) (p i : Value) (wr : World) : Prop :=
  ∃ j : Nat, i = .int .i64 j ∧ j ≤ T.length ∧ Hid (SOwn wr wA.heap.size p ((T.take j).map hB)) ∧ Hid (∀ x ∈ T.take j, hB x ≠ noneH) ∧ Below wA.heap.size wA wr
def C3Rel (T : List ByteArray) (w : World) (i : Value) (wr : World) : Prop :=
  ∃ j : Nat, i = .int .i64 j ∧ j ≤ T.length ∧ Hid (∀ a b x y, b < a → a < j → T[a]? = some x → T[b]? = some y → x ≠ y → hB x ≠ hB y) ∧ Same w wr
def C4Rel (T : List ByteArray) (i : Nat) (w : World) (k : Value) (wr : World) : Prop :=
  ∃ j : Nat, k = .int .i64 j ∧ j ≤ i ∧ Hid (∀ b x y, b < j → T[i]? = some x → T[b]? = some y → x ≠ y → hB x ≠ hB y) ∧ Same w wr

set_option maxRecDepth 30000 in
set_option maxHeartbeats 4000000 in
theorem clash_ref (A B : List ByteArray) (va vb : Value) (gL Ba Bb : Nat) (w : World) (hg : gL < w.heap.size) (h0 : w.cell? ⟨gL, 0, none⟩ = some va) (h1 : w.cell? ⟨gL, 1, none⟩ = some vb) (ha : SOwn w Ba va A) (hb : SOwn w Bb vb B) (hl : A.length + B.length ≤ 1000) (hs : ∀ x ∈ A ++ B, x.size ≤ 100000) :
    Calls Tryd.prog 34 #[.slice (some ⟨gL, 0, none⟩) 2 2] w (ClRes (A ++ B) w) := by
  have HA := Lib.hid ha
  have HB := Lib.hid hb
  obtain ⟨aa, ac, rfl⟩ := SOwn.shape ha
  obtain ⟨ba, bc, rfl⟩ := SOwn.shape hb
  have H0 := Lib.hid h0
  have H1 := Lib.hid h1
  have HSZ := Lib.hid hs
  have HLN := Lib.hid hl
  clear ha hb h0 h1 hs hl
  go_enter Tryd.func34, Tryd.ntmps34
  go_wp2_with fail
  go_loopw [3, 4] (C1Rel A B w) (fun _ i _ => 2 - (intOf i).toNat)
  case atStart => exact ⟨0, rfl, by omega, Lib.hid (SOwn.nil _ _), Below.refl _ _⟩
  case round =>
    obtain ⟨j, rfl, hj, hown, hbw⟩ := hrel
    have HBW := Lib.hid hbw
    have hj0 : (0 : Int) ≤ (j : Int) := by omega
    have hj1 : (j : Int) ≤ 2 := by omega
    by_cases hlt : j < 2
    · have hltI : (j : Int) < 2 := by omega
      obtain ⟨xv, Bx, X, hcx, hox, hcat, hxl⟩ : ∃ (xv : Value) (Bx : Nat) (X : List ByteArray), wr.cell? ⟨gL, j, none⟩ = some xv ∧ SOwn wr Bx xv X ∧ catL A B j ++ X = catL A B (j + 1) ∧ (catL A B j).length + X.length ≤ 100000 := by
        have hln := HLN.out
        have : j = 0 ∨ j = 1 := by omega
        rcases this with rfl | rfl
        · exact ⟨_, Ba, A, by rw [hbw.cell (p := ⟨gL, 0, none⟩) hg]; exact H0.out, HA.out.later hbw, by simp [catL], by simp [catL]; omega⟩
        · exact ⟨_, Bb, B, by rw [hbw.cell (p := ⟨gL, 1, none⟩) hg]; exact H1.out, HB.out.later hbw, by simp [catL], by simp [catL]; omega⟩
      obtain ⟨xa, xc, rfl⟩ := SOwn.shape hox
      have HOX := Lib.hid hox
      have HCAT := Lib.hid hcat
      have HXL := Lib.hid hxl
      clear hox hcat hxl hbw
      go_wp2_with (at_builtin; refine list_appS rfl _ _ rfl w.heap.size _ (catL A B j) rfl hown.out _ Bx X rfl HOX.out HXL.out HBW.out.size ?_; intro v2 w2 hown2 hgr2)
      have HB2 := Lib.hid (HBW.out.trans (hgr2.below HBW.out.size (SOwn.low hown.out)))
      clear hgr2
      go_wp2_with fail
      go_roundw
      case rel => exact ⟨j + 1, by go_num, by omega, Lib.hid (by rw [← HCAT.out]; exact hown2), HB2.out⟩
      case measure => simp [intOf]; omega
    · have hltI : ¬ (j : Int) < 2 := by omega
      have hj2 : j = 2 := by omega
      obtain ⟨T, hT⟩ : ∃ T, T = A ++ B := ⟨_, rfl⟩
      have hcT : catL A B j = T := by rw [hj2, hT]; rfl
      rw [hcT] at hown
      obtain ⟨la, lc, rfl⟩ := SOwn.shape hown.out
      have HT := Lib.hid hT
      have hTl : T.length ≤ 1000 := by rw [hT, List.length_append]; exact HLN.out
      have hl0 : (0 : Int) ≤ (T.length : Int) := by omega
      have hl1 : (T.length : Int) ≤ 1000 := by omega
      have HSZ2 := Lib.hid (show ∀ x ∈ T, x.size ≤ 100000 by rw [hT]; exact HSZ.out)
      clear hcT hT hbw
      rw [← HT.out]
      obtain ⟨wA, hwA⟩ : ∃ x, x = wr := ⟨_, rfl⟩
      subst hwA
      have HOW := Lib.hid hown.out
      go_wp2_with fail
      go_loopw [5, 6] (C2Rel T wA) (fun _ i _ => 1000 - (intOf i).toNat)
      case atStart => exact ⟨0, rfl, by omega, Lib.hid (SOwn.nil _ _), Lib.hid (fun x hx => by simp at hx), Below.refl _ _⟩
      case round =>
        obtain ⟨j, rfl, hj, hp, hno, hbw⟩ := hrel
        have hlo := Lib.hid (HOW.out.later hbw)
        have HB2 := Lib.hid hbw
        clear hbw hj0 hj1 hj2 hltI
        have hj0 : (0 : Int) ≤ (j : Int) := by omega
        have hj1 : (j : Int) ≤ 1000 := by omega
        by_cases hlt2 : j < T.length
        · have hltI2 : (j : Int) < (T.length : Int) := by omega
          obtain ⟨x, hx⟩ : ∃ x, x = T[j] := ⟨_, rfl⟩
          have hget : T[j]? = some x := by rw [hx]; exact List.getElem?_eq_getElem hlt2
          obtain ⟨gl, cl, hle, _, _, hgll, hlc⟩ := SOwn.at hlo.out (by intro e; rw [e] at hlt2; simp at hlt2)
          injection hle with e1 e2 e3
          subst e1; subst e3
          have c1 := hlc j x hget
          have HPx := Lib.hid (fun W => print_at x (hB x) W rfl (HSZ2.out x (List.mem_of_getElem? hget)))
          have htk : T.take (j + 1) = T.take j ++ [x] := by rw [hx]; exact List.take_succ_eq_append_getElem hlt2
          have HTK := Lib.hid htk
          obtain ⟨y, hy⟩ : ∃ y, y = hB x := ⟨_, rfl⟩
          rw [← hy] at HPx
          have HY := Lib.hid hy
          have hlen1 : (((T.take j).map hB) ++ [y]).length = j + 1 := by simp; omega
          have HLEN1 := Lib.hid hlen1
          have hlen2 : ((T.take j).map hB).length + [y].length ≤ 100000 := by simp; omega
          have HLEN2 := Lib.hid hlen2
          have hjj : ¬ ((j : Int) + 1 ≤ (j : Int)) := by omega
          obtain ⟨pa, pc, hpe⟩ := SOwn.shape hp.out
          have hlp : ((T.take j).map hB).length = j := by simp; omega
          rw [hlp] at hpe
          subst hpe
          have HMEM := Lib.hid (List.mem_of_getElem? hget)
          clear hget hlc htk hy hlen1 hlen2 hx e2
          by_cases hz : y = noneH
          · obtain ⟨Z, hZ⟩ : ∃ Z, Z = noneH := ⟨_, rfl⟩
            have HRN := Lib.hid (fun W => root_none none 0 W)
            rw [← hZ] at HRN
            have hyZ : y = Z := by rw [hz, hZ]
            have HC : Hid (ClB T) := Lib.hid (.inl ⟨x, HMEM.out, by rw [← HY.out, hz]⟩)
            subst hyZ
            clear hz hZ
            go_wp2_with fail
            refine (HPx.out _).mono ?_
            rintro e w2 ⟨rfl, hb2⟩
            have HP2 := Lib.hid (hp.out.later hb2)
            have HB3 := Lib.hid (HB2.out.trans (hb2.mono HB2.out.size))
            clear hb2
            go_wp2_with (at_builtin; refine list_appS rfl _ _ rfl wA.heap.size _ ((T.take j).map hB) rfl (HP2.out.alloc _) _ w2.heap.size [y] rfl (one_own w2 _ (Nat.le_refl _) y) HLEN2.out (by have := HB3.out.size; simp; omega) ?_; intro v4 w4 hown4 hgr4)
            have HO4 := Lib.hid hown4
            have HB4 := Lib.hid ((HB3.out.alloc HB3.out.size _).trans (hgr4.below (by have := HB3.out.size; simp; omega) (SOwn.low HP2.out)))
            obtain ⟨gp, cp, hv4, _, _, _, hc4⟩ := SOwn.at hown4 (by simp)
            rw [HLEN1.out] at hv4
            subst hv4
            have p4 := hc4 j y (by
              rw [List.getElem?_append_right (by rw [hlp]; omega), hlp, Nat.sub_self]; rfl)
            clear hgr4 hown4 hc4 c1
            go_region_held3 (fun w' => w'.cell? ⟨gp, j, none⟩ = some (.string y))
              (first | exact p4 | exact p5)
              ((go_at_call 56; (with_reducible refine (HRN.out _).mono ?_); rintro e w5 ⟨rfl, hb5⟩; have p5 := cellD hb5 p4; have HB5 := Lib.hid (HB4.out.trans (((Below.refl _ w4).drew.trans hb5).mono HB4.out.size))))
            go_wp2_with fail
            go_ret
            exact ⟨true, rfl, fun _ => rfl, HBW.out.trans (HB5.out.mono HBW.out.size)⟩
          · obtain ⟨Z, hZ⟩ : ∃ Z, Z = noneH := ⟨_, rfl⟩
            have HRN := Lib.hid (fun W => root_none none 0 W)
            rw [← hZ] at HRN
            have hyZ : ¬ y = Z := by rw [hZ]; exact hz
            have hne := str_ne hyZ
            have HNO : Hid (∀ x ∈ T.take (j + 1), hB x ≠ noneH) := Lib.hid (by
              rw [HTK.out]
              intro q hq
              rcases List.mem_append.1 hq with hq | hq
              · exact hno.out q hq
              · obtain rfl : q = x := by simpa using hq
                rw [← HY.out]; exact hz)
            clear hz hZ hyZ
            go_wp2_with fail
            refine (HPx.out _).mono ?_
            rintro e w2 ⟨rfl, hb2⟩
            have HP2 := Lib.hid (hp.out.later hb2)
            have HB3 := Lib.hid (HB2.out.trans (hb2.mono HB2.out.size))
            clear hb2
            go_wp2_with (at_builtin; refine list_appS rfl _ _ rfl wA.heap.size _ ((T.take j).map hB) rfl (HP2.out.alloc _) _ w2.heap.size [y] rfl (one_own w2 _ (Nat.le_refl _) y) HLEN2.out (by have := HB3.out.size; simp; omega) ?_; intro v4 w4 hown4 hgr4)
            have HO4 := Lib.hid hown4
            have HB4 := Lib.hid ((HB3.out.alloc HB3.out.size _).trans (hgr4.below (by have := HB3.out.size; simp; omega) (SOwn.low HP2.out)))
            obtain ⟨gp, cp, hv4, _, _, _, hc4⟩ := SOwn.at hown4 (by simp)
            rw [HLEN1.out] at hv4
            subst hv4
            have p4 := hc4 j y (by
              rw [List.getElem?_append_right (by rw [hlp]; omega), hlp, Nat.sub_self]; rfl)
            have HO5 := Lib.hid (show SOwn w4 wA.heap.size (.slice (some ⟨gp, 0, none⟩) (j + 1) cp) ((T.take (j + 1)).map hB) by
              rw [HTK.out, List.map_append]; show SOwn _ _ _ ((T.take j).map hB ++ [hB x]); rw [← HY.out]; exact hown4)
            clear hgr4 hown4 hc4 c1 HO4
            go_region_held3 (fun w' => w'.cell? ⟨gp, j, none⟩ = some (.string y))
              (first | exact p4 | exact p5)
              ((go_at_call 56; (with_reducible refine (HRN.out _).mono ?_); rintro e w5 ⟨rfl, hb5⟩; have p5 := cellD hb5 p4; have HB5 := Lib.hid (HB4.out.trans (((Below.refl _ w4).drew.trans hb5).mono HB4.out.size)); have HO6 := Lib.hid (HO5.out.later ((Below.refl _ w4).drew.trans hb5))))
            go_wp2_with fail
            go_roundw
            case rel => exact ⟨j + 1, by go_num, by omega, HO6, HNO, HB5.out⟩
            case measure => simp [intOf]; omega
        · have hltI2 : ¬ (j : Int) < (T.length : Int) := by omega
          have hall : T.take j = T := List.take_of_length_le (by omega)
          rw [hall] at hp hno
          obtain ⟨pa, pc, hpe⟩ := SOwn.shape hp.out
          rw [List.length_map] at hpe
          subst hpe
          obtain ⟨wB, hwB⟩ : ∃ x, x = wr := ⟨_, rfl⟩
          subst hwB
          have HPB := Lib.hid hp.out
          have HLB := Lib.hid hlo.out
          have HNOB := Lib.hid hno.out
          have HBWB := Lib.hid (HBW.out.trans (HB2.out.mono HBW.out.size))
          clear hall hj0 hj1 hj hlt2
          go_wp2_with fail
          go_loopw [7] (C3Rel T wB) (fun i _ => 1000 - (intOf i).toNat)
          case atStart => exact ⟨0, rfl, by omega, Lib.hid (fun a b x y h1 h2 => by omega), Same.refl _⟩
          case round =>
            obtain ⟨i, rfl, hi, hcl, hsm⟩ := hrel
            have hi0 : (0 : Int) ≤ (i : Int) := by omega
            have hi1 : (i : Int) ≤ 1000 := by omega
            by_cases hlt3 : i < T.length
            · have hltI3 : (i : Int) < (T.length : Int) := by omega
              obtain ⟨x, hx⟩ : ∃ x, x = T[i] := ⟨_, rfl⟩
              have hgi : T[i]? = some x := by rw [hx]; exact List.getElem?_eq_getElem hlt3
              have HGI := Lib.hid hgi
              obtain ⟨gl, cl, hle, _, _, hgl, hlc⟩ := SOwn.at HLB.out (by intro e; rw [e] at hlt3; simp at hlt3)
              injection hle with e1 e2 e3
              subst e1; subst e3; clear e2
              obtain ⟨gp, cp, hpe, _, _, hgp, hpc⟩ := SOwn.at HPB.out (by intro e; have := congrArg List.length e; simp at this; rw [this] at hlt3; simp at hlt3)
              injection hpe with e1 e2 e3
              subst e1; subst e3; clear e2
              have HLC := Lib.hid hlc
              have HPC := Lib.hid hpc
              clear hlc hpc hx hgi
              obtain ⟨wC, hwC⟩ : ∃ x, x = wr := ⟨_, rfl⟩
              subst hwC
              have HSC := Lib.hid hsm
              clear hsm
              go_wp2_with fail
              go_loopw [8] (C4Rel T i wB) (fun k _ => 1000 - (intOf k).toNat)
              case atStart => exact ⟨0, rfl, by omega, Lib.hid (fun b x y h => by omega), HSC.out⟩
              case round =>
                obtain ⟨k, rfl, hk, hck, hsk⟩ := hrel
                have hk0 : (0 : Int) ≤ (k : Int) := by omega
                by_cases hlt4 : k < i
                · have hltI4 : (k : Int) < (i : Int) := by omega
                  have hkT : (k : Int) < (T.length : Int) := by omega
                  have hk2 : ¬ ((T.length : Int) ≤ (k : Int)) := by omega
                  have hi2 : ¬ ((T.length : Int) ≤ (i : Int)) := by omega
                  have hkl : k < T.length := by omega
                  obtain ⟨y, hy⟩ : ∃ y, y = T[k] := ⟨_, rfl⟩
                  have hgk : T[k]? = some y := by rw [hy]; exact List.getElem?_eq_getElem hkl
                  have hbl := hsk.below wB.heap.size
                  have l1 : wr.cell? ⟨gl, i, none⟩ = some (.string x) := cellB hbl (HLC.out i x HGI.out)
                  have l2 : wr.cell? ⟨gl, k, none⟩ = some (.string y) := cellB hbl (HLC.out k y hgk)
                  have p1 : wr.cell? ⟨gp, i, none⟩ = some (.string (hB x)) := cellB hbl (HPC.out i (hB x) (by rw [List.getElem?_map, HGI.out]; rfl))
                  have p2 : wr.cell? ⟨gp, k, none⟩ = some (.string (hB y)) := cellB hbl (HPC.out k (hB y) (by rw [List.getElem?_map, hgk]; rfl))
                  have HGK := Lib.hid hgk
                  have HSK := Lib.hid hsk
                  obtain ⟨u, hu⟩ : ∃ u, u = hB x := ⟨_, rfl⟩
                  obtain ⟨v, hv⟩ : ∃ v, v = hB y := ⟨_, rfl⟩
                  rw [← hu] at p1
                  rw [← hv] at p2
                  by_cases he : u = v
                  · by_cases hxy : x = y
                    · have HCK : Hid (∀ b q r, b < k + 1 → T[i]? = some q → T[b]? = some r → q ≠ r → hB q ≠ hB r) := Lib.hid (fun b q r h1 h2 h3 h4 => by
                        by_cases h5 : b < k
                        · exact hck.out b q r h5 h2 h3 h4
                        · have h6 : b = k := by omega
                          subst h6
                          rw [HGI.out] at h2; rw [HGK.out] at h3
                          injection h2 with h2; injection h3 with h3
                          exact absurd (h2.symm.trans (hxy.trans h3)) h4)
                      subst he
                      subst hxy
                      clear hbl hgk hy hu hv hsk
                      go_wp2_with fail
                      go_quiet (fail)
                      go_wp2_with fail
                      go_roundw
                      case rel => exact ⟨k + 1, by go_num, by omega, HCK, HSK.out.trans ⟨_, rfl⟩⟩
                      case measure => simp [intOf]; omega
                    · have hne := str_ne hxy
                      have HC : Hid (ClB (A ++ B)) := Lib.hid (by
                        rw [← HT.out]
                        exact .inr ⟨x, List.mem_of_getElem? HGI.out, y, List.mem_of_getElem? HGK.out, hxy, by rw [← hu, ← hv]; exact he⟩)
                      subst he
                      clear hbl hgk hy hu hv hsk hxy
                      go_wp2_with fail
                      go_quiet (fail)
                      go_wp2_with fail
                      go_ret
                      exact ⟨true, rfl, fun _ => rfl, HBWB.out.trans ((HSK.out.trans ⟨_, rfl⟩).below _)⟩
                  · have hne := str_ne he
                    have HCK : Hid (∀ b q r, b < k + 1 → T[i]? = some q → T[b]? = some r → q ≠ r → hB q ≠ hB r) := Lib.hid (fun b q r h1 h2 h3 h4 => by
                      by_cases h5 : b < k
                      · exact hck.out b q r h5 h2 h3 h4
                      · have h6 : b = k := by omega
                        subst h6
                        rw [HGI.out] at h2; rw [HGK.out] at h3
                        injection h2 with h2; injection h3 with h3
                        rw [← h2, ← h3, ← hu, ← hv]; exact he)
                    clear hbl hgk hy hu hv hsk he
                    go_wp2_with fail
                    go_quiet (fail)
                    go_wp2_with fail
                    go_roundw
                    case rel => exact ⟨k + 1, by go_num, by omega, HCK, HSK.out.trans ⟨_, rfl⟩⟩
                    case measure => simp [intOf]; omega
                · have hltI4 : ¬ (k : Int) < (i : Int) := by omega
                  have hki : k = i := by omega
                  have HCI : Hid (∀ (a b : Nat) (q r : ByteArray), b < a → a < i + 1 → T[a]? = some q → T[b]? = some r → q ≠ r → hB q ≠ hB r) := Lib.hid (fun a b q r h1 h2 h3 h4 h5 => by
                    by_cases h6 : a < i
                    · exact hcl.out a b q r h1 h6 h3 h4 h5
                    · have h7 : a = i := by omega
                      subst h7
                      exact hck.out b q r (by omega) h3 h4 h5)
                  have HSK := Lib.hid hsk
                  clear hsk hki
                  go_wp2_with fail
                  go_roundw
                  case rel => exact ⟨i + 1, by go_num, by omega, HCI, HSK.out⟩
                  case measure => simp [intOf]; omega
            · have hltI3 : ¬ (i : Int) < (T.length : Int) := by omega
              have hfin : Hid (¬ ClB T) := Lib.hid (clash_none HNOB.out (fun a b x y h1 h2 => hcl.out a b x y h1 (by omega)))
              have HSC := Lib.hid hsm
              clear hsm
              go_wp2_with fail
              go_ret
              exact ⟨false, rfl, (fun h => absurd (show ClB T by rw [HT.out]; exact h) hfin.out), HBWB.out.trans (HSC.out.below _)⟩
end Go.Proofs.YtgcaaigfgbglcaaDoor
