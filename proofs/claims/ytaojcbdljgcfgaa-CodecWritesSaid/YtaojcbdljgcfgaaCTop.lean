/- What Tree answers, for the laws on it. -/
import Derived.Test.YtaojcbdljgcfgaaCTr2
import Derived.Test.YtaojcbdljgcfgaaCLen
import Derived.Test.YtaojcbdljgcfgaaCLawR
import Derived.Test.YtaojcbdljgcfgaaArgs2
namespace Go.Proofs.Ytaojcbdljgcfgaa
open Go.RowKit

theorem flats_below {w w1 : World} {B : Nat} {la : Option Addr} {ln : Nat} (h : Flats w B la ln) (hB : B ≤ w.heap.size) (hb : Below w.heap.size w w1) : Flats w1 w1.heap.size la ln := by
  have hs := hb.size
  rcases h with h0 | ⟨g, o, e, hg, hf⟩
  · exact .inl h0
  · refine .inr ⟨g, o, e, by omega, fun i hi => ?_⟩
    obtain ⟨wh, n, s, h1, h2, h3, h4, h5⟩ := hf i hi
    refine ⟨wh, n, s, h1, h2, ?_, ?_, ?_⟩
    · rw [hb.cell (p := ⟨g, o + i * 3, none⟩) (by show g < _; omega)]; exact h3
    · rw [hb.cell (p := ⟨g, o + i * 3 + 1, none⟩) (by show g < _; omega)]; exact h4
    · rw [hb.cell (p := ⟨g, o + i * 3 + 2, none⟩) (by show g < _; omega)]; exact h5
theorem flats_of {w : World} {la : Option Addr} {ln : Nat} (h : Trips w la ln) : Flats w w.heap.size la ln := by
  by_cases h0 : ln = 0
  · exact .inl h0
  · obtain ⟨g, o, _, _, _, e, hg, _⟩ := h 0 (by omega)
    refine .inr ⟨g, o, e, hg, fun i hi => ?_⟩
    obtain ⟨g2, o2, x, y, s, e2, _, hy, hs, h1, h2, h3⟩ := h i hi
    rw [e] at e2
    injection e2 with e2
    injection e2 with e3 e4
    subst e3 e4
    exact ⟨x, y, s, hy, hs, h1, h2, h3⟩

/-- The tree's node. -/
def tnd (f : F) : Nd := ⟨2, 0, ⟨#[]⟩, f⟩
def tbs (f : F) : List UInt8 := nodeL 2 0 ⟨#[]⟩ f.len f.bytes
theorem tree_ok {f : F} (h : f.wt ≤ 81000) (hn : f.nok) : (tnd f).ok ∧ (tbs f).length ≤ 81016 ∧ f.len < 128 := by
  have h1 := wt_len2 f
  have h2 := wt_len f
  have h3 := bytes_wt f hn (by omega)
  have h4 := nodeL_len 2 0 ⟨#[]⟩ f.len f.bytes (by omega) (by decide) (by omega)
  have h5 : (⟨#[]⟩ : ByteArray).size = 0 := rfl
  exact ⟨⟨by show (0 : Int) ≤ 0 ∧ (0 : Int) < 18446744073709551616; omega, by show (0 : Nat) < 268435456; omega, by show f.len < 268435456; omega, ok_wt f hn (by omega)⟩, by unfold tbs; omega, by omega⟩
theorem tree_fits {f : F} (h : f.wt ≤ 81000) (hn : f.nok) : Fits (tbs f).length := by
  have := (tree_ok h hn).2.1
  unfold Fits; omega
theorem tbs_parse {f : F} (h : f.wt ≤ 81000) (hn : f.nok) (hr : (tnd f).right 20 = true) (r : List UInt8) : parse 20 (tbs f ++ r) = some (tnd f, r) :=
  parse_app 20 2 0 ⟨#[]⟩ f r hr (tree_ok h hn).1
theorem nd_parse {x : Nd} (hr : x.right 20 = true) (hok : x.ok) (r : List UInt8) : parse 20 (x.bytes ++ r) = some (x, r) := by
  obtain ⟨k, n, s, c⟩ := x
  exact parse_app 20 k n s c r hr hok
/-- No beginning of these bytes is read, but they themselves. -/
theorem pre_none {f : F} (h : f.wt ≤ 81000) (hn : f.nok) (hr : (tnd f).right 20 = true) (p q : List UInt8) (hpq : p ++ q = tbs f) (hq : q ≠ []) : readO p = none := by
  cases hro : readO p with
  | none => rfl
  | some x =>
    obtain ⟨e1, e2, e3⟩ := readO_some hro
    have hl : p.length < 268435456 := by
      have h1 := (tree_ok h hn).2.1
      rw [← hpq, List.length_append] at h1
      omega
    have h1 := nd_parse e2 (e3 hl) q
    have h2 := tbs_parse h hn hr []
    rw [List.append_nil, ← hpq, e1, h1] at h2
    exact absurd (by injection h2 with h2; injection h2 with _ h3) hq
theorem more_none {f : F} (h : f.wt ≤ 81000) (hn : f.nok) (hr : (tnd f).right 20 = true) (b : UInt8) : readO (tbs f ++ [b]) = none := by
  unfold readO
  rw [tbs_parse h hn hr [b]]
end Go.Proofs.Ytaojcbdljgcfgaa
