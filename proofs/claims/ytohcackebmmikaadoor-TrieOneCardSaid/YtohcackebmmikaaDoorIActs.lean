/- Acts as lists; Small. -/
import Derived.Test.YtohcackebmmikaaDoorIRef2
import Derived.Test.YtohcackebmmikaaDoorIKey
import Derived.Test.YtohcackebmmikaaDoorArgs3
namespace Go.Proofs.YtohcackebmmikaaDoor
open Go.RowKit

abbrev Ac := Int × ByteArray × ByteArray
/-- The slice's elements are these acts. -/
def ActsL (w : World) (la : Option Addr) (L : List Ac) : Prop := L ≠ [] → ∃ g o, la = some ⟨g, o, none⟩ ∧ g < w.heap.size ∧ ∀ i x, L[i]? = some x → x.2.1.size ≤ maxLen ∧ x.2.2.size ≤ maxLen ∧
  w.cell? ⟨g, o + i * 3, none⟩ = some (.int .i64 x.1) ∧ w.cell? ⟨g, o + i * 3 + 1, none⟩ = some (.string x.2.1) ∧ w.cell? ⟨g, o + i * 3 + 2, none⟩ = some (.string x.2.2)
theorem list_of {α : Type} (P : Nat → α → Prop) (n : Nat) (h : ∀ i, i < n → ∃ x, P i x) : ∃ L : List α, L.length = n ∧ ∀ i x, L[i]? = some x → P i x := by
  induction n with
  | zero => exact ⟨[], rfl, fun i x hx => by simp at hx⟩
  | succ n ih =>
    obtain ⟨L, hL, hP⟩ := ih (fun i hi => h i (by omega))
    obtain ⟨x, hx⟩ := h n (by omega)
    refine ⟨L ++ [x], by simp [hL], fun i y hy => ?_⟩
    by_cases hi : i < n
    · rw [List.getElem?_append_left (by omega)] at hy
      exact hP i y hy
    · have hlt := (List.getElem?_eq_some_iff.1 hy).1
      simp [hL] at hlt
      have : i = n := by omega
      subst this
      rw [List.getElem?_append_right (by omega), hL] at hy
      simp at hy
      rw [← hy]; exact hx
theorem acts_list {w : World} {la : Option Addr} {ln : Nat} (h : ActsAt w la ln) : ∃ L : List Ac, L.length = ln ∧ ActsL w la L := by
  by_cases h0 : ln = 0
  · exact ⟨[], h0.symm, fun hne => absurd rfl hne⟩
  · obtain ⟨g, o, _, _, _, rfl, hg, _⟩ := h 0 (by omega)
    obtain ⟨L, hL, hP⟩ := list_of (fun i (x : Ac) => x.2.1.size ≤ maxLen ∧ x.2.2.size ≤ maxLen ∧ w.cell? ⟨g, o + i * 3, none⟩ = some (.int .i64 x.1) ∧ w.cell? ⟨g, o + i * 3 + 1, none⟩ = some (.string x.2.1) ∧ w.cell? ⟨g, o + i * 3 + 2, none⟩ = some (.string x.2.2)) ln (fun i hi => by
      obtain ⟨g', o', x, k, s, he, _, h1, h2, h3, h4, h5⟩ := h i hi
      injection he with he
      injection he with e1 e2 _
      subst e1; subst e2
      exact ⟨(x, k, s), h1, h2, h3, h4, h5⟩)
    exact ⟨L, hL, fun _ => ⟨g, o, rfl, hg, hP⟩⟩
theorem ActsL.later {w w' : World} {la : Option Addr} {L : List Ac} (h : ActsL w la L) (hb : Below w.heap.size w w') : ActsL w' la L := fun hne => by
  obtain ⟨g, o, h1, h2, h3⟩ := h hne
  refine ⟨g, o, h1, Nat.lt_of_lt_of_le h2 hb.size, fun i x hx => ?_⟩
  obtain ⟨a1, a2, a3, a4, a5⟩ := h3 i x hx
  exact ⟨a1, a2, cellB hb a3, cellB hb a4, cellB hb a5⟩

/-- Acts of short texts. -/
def smallL (L : List Ac) : Prop := ∀ x ∈ L, x.2.1.size ≤ 100 ∧ x.2.2.size ≤ 100
def SmallRes (L : List Ac) (n : Int) (w : World) (e : Ending) (w' : World) : Prop := ∃ b : Bool, e = .returned (.bool b) ∧ (b = true → (L.length : Int) ≤ n ∧ smallL L) ∧ Below w.heap.size w w'
def SmRel (L : List Ac) (w : World) (i : Value) (wr : World) : Prop := ∃ j : Nat, i = .int .i64 j ∧ j ≤ L.length ∧ Hid (smallL (L.take j)) ∧ Below w.heap.size w wr

set_option maxRecDepth 30000 in
set_option maxHeartbeats 2000000 in
theorem small_prog (L : List Ac) (n : Int) (la : Option Addr) (lc : Nat) (w : World) (hL : L.length ≤ maxLen) (hn0 : 0 ≤ n) (hn1 : n ≤ 1000) (h : ActsL w la L) :
    Calls Tryd.prog 11 #[.slice la L.length lc, .int .i64 n] w (SmallRes L n w) := by
  unfold maxLen at hL
  have HL := Lib.hid h
  clear h
  by_cases hbig : n < (L.length : Int)
  · have hl0 : (0 : Int) ≤ (L.length : Int) := by omega
    go_enter Tryd.func11, Tryd.ntmps11
    go_wp2
    go_ret
    exact ⟨false, rfl, (fun h => by cases h), Below.refl _ _⟩
  · have hl0 : (0 : Int) ≤ (L.length : Int) := by omega
    have hl1 : (L.length : Int) ≤ 1000 := by omega
    have HBIG := Lib.hid hbig
    go_enter Tryd.func11, Tryd.ntmps11
    go_wp2_with fail
    go_loopw [13] (SmRel L w) (fun i _ => 1000 - (intOf i).toNat)
    case atStart => exact ⟨0, rfl, by omega, Lib.hid (fun x hx => by simp at hx), Below.refl _ _⟩
    case round =>
      obtain ⟨j, rfl, hj, hsm, hb⟩ := hrel
      have hj0 : (0 : Int) ≤ (j : Int) := by omega
      have hj1 : (j : Int) ≤ 1000 := by omega
      by_cases hlt : j < L.length
      · have hltI : (j : Int) < (L.length : Int) := by omega
        obtain ⟨g, o, rfl, hg, hcs⟩ := HL.out (by intro e; rw [e] at hlt; simp at hlt)
        obtain ⟨x, hx⟩ : ∃ x, x = L[j] := ⟨_, rfl⟩
        obtain ⟨z1, z2, d0, d1, d2⟩ := hcs j x (by rw [hx]; exact List.getElem?_eq_getElem hlt)
        have c0 : wr.cell? ⟨g, o + j * 3, none⟩ = some (.int .i64 x.1) := by rw [hb.cell (p := ⟨g, o + j * 3, none⟩) hg]; exact d0
        have c1 : wr.cell? ⟨g, o + j * 3 + 1, none⟩ = some (.string x.2.1) := by rw [hb.cell (p := ⟨g, o + j * 3 + 1, none⟩) hg]; exact d1
        have c2 : wr.cell? ⟨g, o + j * 3 + 2, none⟩ = some (.string x.2.2) := by rw [hb.cell (p := ⟨g, o + j * 3 + 2, none⟩) hg]; exact d2
        have hsz := hb.size
        have HB := Lib.hid hb
        have htk : Hid (L.take (j + 1) = L.take j ++ [x]) := Lib.hid (by rw [hx]; exact List.take_succ_eq_append_getElem hlt)
        obtain ⟨x0, x1, x2⟩ := x
        simp only at c0 c1 c2 z1 z2
        unfold maxLen at z1 z2
        have q1 : (0 : Int) ≤ (x1.size : Int) := by omega
        have q2 : (0 : Int) ≤ (x2.size : Int) := by omega
        clear d0 d1 d2 hcs hb hx
        by_cases h1 : 100 < x1.size
        · have hI : (100 : Int) < (x1.size : Int) := by omega
          go_wp2_with fail
          go_ret
          exact ⟨false, rfl, (fun h => by cases h), HB.out.alloc hsz _⟩
        · have hI : ¬ (100 : Int) < (x1.size : Int) := by omega
          by_cases h2 : 100 < x2.size
          · have hI2 : (100 : Int) < (x2.size : Int) := by omega
            go_wp2_with fail
            go_ret
            exact ⟨false, rfl, (fun h => by cases h), HB.out.alloc hsz _⟩
          · have hI2 : ¬ (100 : Int) < (x2.size : Int) := by omega
            have HSM2 : Hid (smallL (L.take (j + 1))) := Lib.hid (by
              rw [htk.out]
              intro y hy
              rcases List.mem_append.1 hy with hy | hy
              · exact hsm.out y hy
              · obtain rfl : y = (x0, x1, x2) := by simpa using hy
                exact ⟨by show x1.size ≤ 100; omega, by show x2.size ≤ 100; omega⟩)
            go_wp2_with fail
            go_roundw
            case rel => exact ⟨j + 1, by go_num, by omega, HSM2, HB.out.alloc hsz _⟩
            case measure => simp [intOf]; omega
      · have hltI : ¬ (j : Int) < (L.length : Int) := by omega
        have HB := Lib.hid hb
        have HR : Hid (smallL L) := Lib.hid (by
          have := hsm.out
          rwa [List.take_of_length_le (by omega)] at this)
        clear hb
        go_wp2
        go_ret
        exact ⟨true, rfl, fun _ => ⟨by have := HBIG.out; omega, HR.out⟩, HB.out⟩
end Go.Proofs.YtohcackebmmikaaDoor
