/- disk: step, Fuel, Append, Sync, Swap, Crash. -/
import Derived.Test.YtfocljmjejniiaaDDisk
import Derived.Deep.DeepCutAuto
import Derived.Deep.CutBlock
import Derived.Deep.RegionWith
import Derived.StillTailTactics
namespace Go.Proofs.Ytfocljmjejniiaa
open Go.RowKit

/-- Whether a step is done, and what is down and left behind it. -/
def stOk (dn lim : Bool) (k : Nat) : Bool := !dn && (!lim || decide (0 < k))
def stDn (dn lim : Bool) (k : Nat) : Bool := dn || (lim && decide (k = 0))
def stK (dn lim : Bool) (k : Nat) : Nat := if !dn && lim then k - 1 else k

section
variable {w : World} {b n k : Nat} {v : Value} {T : ByteArray} {dn lim : Bool}
theorem step_prog (h : Dk w b v T n dn lim k) (hk : k ≤ 9223372036854775807) : Calls Try.prog 38 #[.pointer (some ⟨b, 0, none⟩)] w fun e w' =>
    e = .returned (.bool (stOk dn lim k)) ∧ Dk w' b v T n (stDn dn lim k) lim (stK dn lim k) ∧ Ch b v w w' v := by
  obtain ⟨c0, c1, c2, c3, c4⟩ := h.cells
  obtain ⟨z0, z1, z2, z3, z4⟩ := h.free
  have H := Lib.hid (down_prog h)
  cases dn
  · cases lim
    · go_enter Try.func38, Try.ntmps38
      go_wp2_with fail
      refine H.out.mono ?_
      rintro e w1 ⟨rfl, rfl⟩
      go_wp2_with fail
      go_ret
      exact ⟨rfl, h, Ch.refl _ _ _⟩
    · by_cases h0 : k = 0
      · subst h0
        go_enter Try.func38, Try.ntmps38
        go_wp2_with fail
        refine H.out.mono ?_
        rintro e w1 ⟨rfl, rfl⟩
        go_wp2_with fail
        go_ret
        exact ⟨rfl, h.set2 true, Ch.set _ _ _ _ _⟩
      · have hk0 : ((k : Int) == 0) = false := by simp only [beq_eq_false_iff_ne]; omega
        have hkI : (k : Int) ≤ 9223372036854775807 := by omega
        have hk1 : (1 : Int) ≤ (k : Int) := by omega
        have HK := Lib.hid h0
        have e1 : (k : Int) - 1 = ((k - 1 : Nat) : Int) := by omega
        have eok : stOk false true k = true := by simp [stOk]; omega
        have edn : stDn false true k = false := by simp [stDn]; omega
        have ek : stK false true k = k - 1 := by simp [stK]
        have HD := Lib.hid (h.set4 (k - 1))
        rw [eok, edn, ek]
        have E1 := Lib.hid e1
        clear h0 hk eok edn ek e1
        go_enter Try.func38, Try.ntmps38
        go_wp2_with fail
        refine H.out.mono ?_
        rintro e w1 ⟨rfl, rfl⟩
        go_wp2_with fail
        go_ret
        rw [E1.out]
        exact ⟨rfl, HD.out, Ch.set _ _ _ _ _⟩
  · go_enter Try.func38, Try.ntmps38
    go_wp2_with fail
    refine H.out.mono ?_
    rintro e w1 ⟨rfl, rfl⟩
    go_wp2_with fail
    go_ret
    have e1 : stK true lim k = k := by simp [stK]
    rw [e1]
    exact ⟨rfl, h, Ch.refl _ _ _⟩

theorem fuel_prog (h : Dk w b v T n dn lim k) (x : Int) : Calls Try.prog 27 #[.pointer (some ⟨b, 0, none⟩), .int .i64 x] w fun e w' =>
    e = .returned (.tuple #[]) ∧ Dk w' b v T n dn (decide (0 ≤ x)) x.toNat ∧ Ch b v w w' v := by
  obtain ⟨c0, c1, c2, c3, c4⟩ := h.cells
  obtain ⟨z0, z1, z2, z3, z4⟩ := h.free
  by_cases hx : 0 ≤ x
  · have hd : decide (0 ≤ x) = true := decide_eq_true hx
    have hm : max x 0 = x := by omega
    have hN : ((x.toNat : Nat) : Int) = x := by omega
    have HD := (h.set3 true).set4 x.toNat
    rw [hN] at HD
    have HD := Lib.hid HD
    rw [hd]
    go_enter Try.func27, Try.ntmps27
    go_wp2_with fail
    go_end0
    exact ⟨rfl, HD.out, (Ch.set _ _ _ _ _).trans (Ch.set _ _ _ _ _)⟩
  · have hd : decide (0 ≤ x) = false := decide_eq_false hx
    have hm : max x 0 = 0 := by omega
    have hN : x.toNat = 0 := by omega
    have HD := (h.set3 false).set4 0
    rw [hN]
    have HD := Lib.hid HD
    rw [hd]
    go_enter Try.func27, Try.ntmps27
    go_wp2_with fail
    go_end0
    exact ⟨rfl, HD.out, (Ch.set _ _ _ _ _).trans (Ch.set _ _ _ _ _)⟩

/-- Whether a call was done, as an error's number. -/
def errOf (ok : Bool) : Int := if ok then 0 else 3

set_option maxRecDepth 30000 in
theorem append_prog (h : Dk w b v T n dn lim k) (hk : k ≤ 9223372036854775807) (s : ByteArray) (hlim : T.size + s.size ≤ 100000) :
    Calls Try.prog 53 #[.pointer (some ⟨b, 0, none⟩), .string s] w fun e w' => e = .returned (.int .i64 (errOf (stOk dn lim k))) ∧
      ∃ v', Dk w' b v' (if stOk dn lim k then T ++ s else T) n (stDn dn lim k) lim (stK dn lim k) ∧ Ch b v w w' v' := by
  have H := Lib.hid (step_prog h hk)
  obtain ⟨dn', hdn⟩ : ∃ dn', dn' = stDn dn lim k := ⟨_, rfl⟩
  obtain ⟨k', hk'⟩ : ∃ k', k' = stK dn lim k := ⟨_, rfl⟩
  rw [← hdn, ← hk'] at H ⊢
  cases hok : stOk dn lim k
  · rw [hok] at H
    clear hdn hk' hok
    go_enter Try.func53, Try.ntmps53
    go_wp2_with fail
    refine H.out.mono ?_
    rintro e w1 ⟨rfl, hd, hc⟩
    go_wp2_with fail
    go_ret
    exact ⟨rfl, v, hd, hc⟩
  · rw [hok] at H
    clear hdn hk' hok
    go_enter Try.func53, Try.ntmps53
    go_wp2_with fail
    refine H.out.mono ?_
    rintro e w1 ⟨rfl, hd, hc⟩
    obtain ⟨c0, c1, c2, c3, c4⟩ := hd.cells
    obtain ⟨z0, z1, z2, z3, z4⟩ := hd.free
    obtain ⟨a, cap, rfl, hcap, _⟩ := hd.2.1.shape
    obtain ⟨v', W, hrun, hrow, hgr, hloc⟩ := app_str (P := Try.prog) (w := w1) 52 9 52 5 (.int .u8 0) ⟨Try.underlying52, by kernel_rfl, rfl⟩ rfl Try.underlying9 _ T hd.2.1 s hlim
    have hlt := hd.lt
    have hblk : W.heap[b]? = w1.heap[b]? := hgr.block b hlt (fun e => hd.2.2 e.symm)
    have d0 : W.cell? ⟨b, 0, none⟩ = some (.slice a T.size cap) := by rw [World.cell?_of_block (w := w1) (a := ⟨b, 0, none⟩) hblk]; exact c0
    have y0 : W.frozen? ⟨b, 0, none⟩ = false := by rw [← z0]; simp only [World.frozen?, hblk]
    obtain ⟨av, capv, hv', hcapv, _⟩ := hrow.shape
    obtain ⟨m, hm⟩ : ∃ m, m = (T ++ s).size := ⟨_, rfl⟩
    rw [← hm] at hv' hcapv
    subst hv'
    have hne : (Value.slice av m capv).ownBlock ≠ some b := fun e => by
      rcases hloc b e with h1 | h1
      · exact hd.2.2 h1
      · omega
    have hdW : Dk (W.setCell ⟨b, 0, none⟩ (.slice av m capv)) b (.slice av m capv) (T ++ s) n dn' lim k' :=
      ⟨heap_setCell_same W b 0 _ _ _ (by rw [hblk]; exact hd.1), hrow.keep fun j hj => heap_setCell_other W ⟨b, 0, none⟩ j _ (fun e => hne (by rw [hj, e])), hne⟩
    have HD := Lib.hid hdW
    have hcW : Ch b (.slice a T.size cap) w1 (W.setCell ⟨b, 0, none⟩ (.slice av m capv)) (.slice av m capv) :=
      ⟨hgr.os, hgr.tape, hgr.output, by simpa using hgr.size, fun j hj h1 h2 => (heap_setCell_other W ⟨b, 0, none⟩ j _ h1).trans (hgr.block j hj (fun e => h2 e.symm)), fun j hj => hloc j hj⟩
    have HC := Lib.hid (hc.trans hcW)
    clear hdW hcW hd hc hlt hblk hgr hrow hne hloc hm
    go_wp2_with (first | (at_builtin; refine list_appS rfl _ _ _ _ rfl _ _ s W rfl rfl hrun ?_))
    go_wp2_with fail
    go_ret
    exact ⟨rfl, _, HD.out, HC.out⟩

set_option maxRecDepth 30000 in
theorem sync_prog (h : Dk w b v T n dn lim k) (hk : k ≤ 9223372036854775807) :
    Calls Try.prog 21 #[.pointer (some ⟨b, 0, none⟩)] w fun e w' => e = .returned (.int .i64 (errOf (stOk dn lim k))) ∧
      Dk w' b v T (if stOk dn lim k then T.size else n) (stDn dn lim k) lim (stK dn lim k) ∧ Ch b v w w' v := by
  have H := Lib.hid (step_prog h hk)
  obtain ⟨dn', hdn⟩ : ∃ dn', dn' = stDn dn lim k := ⟨_, rfl⟩
  obtain ⟨k', hk'⟩ : ∃ k', k' = stK dn lim k := ⟨_, rfl⟩
  rw [← hdn, ← hk'] at H ⊢
  obtain ⟨a, cap, rfl, hcap, _⟩ := h.2.1.shape
  cases hok : stOk dn lim k
  · rw [hok] at H
    clear hdn hk' hok
    go_enter Try.func21, Try.ntmps21
    go_wp2_with fail
    refine H.out.mono ?_
    rintro e w1 ⟨rfl, hd, hc⟩
    go_wp2_with fail
    go_ret
    exact ⟨rfl, hd, hc⟩
  · rw [hok] at H
    clear hdn hk' hok
    go_enter Try.func21, Try.ntmps21
    go_wp2_with fail
    refine H.out.mono ?_
    rintro e w1 ⟨rfl, hd, hc⟩
    obtain ⟨c0, c1, c2, c3, c4⟩ := hd.cells
    obtain ⟨z0, z1, z2, z3, z4⟩ := hd.free
    go_wp2_with fail
    go_ret
    exact ⟨rfl, hd.set1 T.size, hc.trans (Ch.set _ _ _ _ _)⟩

set_option maxRecDepth 30000 in
theorem swap_prog (h : Dk w b v T n dn lim k) (hk : k ≤ 9223372036854775807) (s : ByteArray) (hlim : s.size ≤ 100000) :
    Calls Try.prog 64 #[.pointer (some ⟨b, 0, none⟩), .string s] w fun e w' => e = .returned (.int .i64 (errOf (stOk dn lim k))) ∧
      ∃ v', Dk w' b v' (if stOk dn lim k then s else T) (if stOk dn lim k then s.size else n) (stDn dn lim k) lim (stK dn lim k) ∧ Ch b v w w' v' := by
  have H := Lib.hid (step_prog h hk)
  obtain ⟨dn', hdn⟩ : ∃ dn', dn' = stDn dn lim k := ⟨_, rfl⟩
  obtain ⟨k', hk'⟩ : ∃ k', k' = stK dn lim k := ⟨_, rfl⟩
  rw [← hdn, ← hk'] at H ⊢
  cases hok : stOk dn lim k
  · rw [hok] at H
    clear hdn hk' hok
    go_enter Try.func64, Try.ntmps64
    go_wp2_with fail
    refine H.out.mono ?_
    rintro e w1 ⟨rfl, hd, hc⟩
    go_wp2_with fail
    go_ret
    exact ⟨rfl, v, hd, hc⟩
  · rw [hok] at H
    clear hdn hk' hok
    go_enter Try.func64, Try.ntmps64
    go_wp2_with fail
    refine H.out.mono ?_
    rintro e w1 ⟨rfl, hd, hc⟩
    obtain ⟨c0, c1, c2, c3, c4⟩ := hd.cells
    obtain ⟨z0, z1, z2, z3, z4⟩ := hd.free
    obtain ⟨cap, W, hrun, hrow, hbw⟩ := bytes_of (P := Try.prog) (w := w1) Try.underlying9 Try.underlying52 Try.underlying5 s hlim
    have hlt := hd.lt
    have hdW := hd.later hbw
    obtain ⟨d0, d1, d2, d3, d4⟩ := hdW.cells
    obtain ⟨y0, y1, y2, y3, y4⟩ := hdW.free
    have hsI : (s.size : Int) ≤ 100000 := by omega
    have hne : (Value.slice (some ⟨w1.heap.size, 0, none⟩) s.size cap).ownBlock ≠ some b := by simp [Value.ownBlock]; omega
    have HR := Lib.hid ((hdW.set0 hrow hne).set1 s.size)
    have HC : Hid (Ch b v w W v) := Lib.hid (hc.trans (Ch.ofBelow v hbw))
    have HS := Lib.hid hc.size
    clear hdW hd hc hlt hne
    go_wp2_with fail
    go_ret
    refine ⟨rfl, _, HR.out, ?_⟩
    have h1 := (HC.out.trans (Ch.set b 0 v W (.slice (some ⟨w1.heap.size, 0, none⟩) s.size cap))).trans (Ch.set b 1 v _ (.int .i64 (s.size : Int)))
    exact ⟨h1.os, h1.tape, h1.output, h1.size, h1.block, fun j hj => .inr (by have := HS.out; simp [Value.ownBlock] at hj; omega)⟩

end
end Go.Proofs.Ytfocljmjejniiaa
