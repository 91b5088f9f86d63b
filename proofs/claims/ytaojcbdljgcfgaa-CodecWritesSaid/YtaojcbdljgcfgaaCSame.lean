/- vidimusref03.Same. -/
import Derived.Test.YtaojcbdljgcfgaaCMem
import Derived.Test.YtaojcbdljgcfgaaCPlain
import Derived.Test.YtaojcbdljgcfgaaCFn
import Derived.Deep.RegionHeld3
namespace Go.Proofs.Ytaojcbdljgcfgaa
open Go.RowKit

def F.eqB : F → F → Bool
  | .nil, .nil => true
  | .cons k n s c r, .cons k' n' s' c' r' => k == k' && (n == n' && (decide (s = s') && (c.eqB c' && r.eqB r')))
  | _, _ => false
theorem eqB_iff : ∀ f g : F, f.eqB g = true ↔ f = g
  | .nil, .nil => by simp [F.eqB]
  | .nil, .cons _ _ _ _ _ => by simp [F.eqB]
  | .cons _ _ _ _ _, .nil => by simp [F.eqB]
  | .cons k n s c r, .cons k' n' s' c' r' => by
    simp only [F.eqB, Bool.and_eq_true, beq_iff_eq, decide_eq_true_eq, eqB_iff c c', eqB_iff r r', F.cons.injEq]
theorem eqB_len : ∀ f g : F, f.eqB g = true → f.len = g.len := fun f g h => by rw [(eqB_iff f g).1 h]
def Nd.eqB (x y : Nd) : Bool := x.k == y.k && (x.n == y.n && (decide (x.s = y.s) && x.kids.eqB y.kids))
theorem ndEqB_iff (x y : Nd) : x.eqB y = true ↔ x = y := by
  cases x; cases y
  simp only [Nd.eqB, Bool.and_eq_true, beq_iff_eq, decide_eq_true_eq, eqB_iff, Nd.mk.injEq]

theorem drop_eqB : ∀ (f g : F) (i : Nat), f.len = g.len → i < f.len → ∃ k n s c k' n' s' c', f.drop i = .cons k n s c (f.drop (i + 1)) ∧ g.drop i = .cons k' n' s' c' (g.drop (i + 1)) := fun f g i h hi => by
  obtain ⟨k, n, s, c, h1⟩ := F.drop_at f i hi
  obtain ⟨k', n', s', c', h2⟩ := F.drop_at g i (by omega)
  exact ⟨k, n, s, c, k', n', s', c', h1, h2⟩
def SmRel (c c' : F) (rb : Bool) (B : Nat) (w1 : World) (i : Value) (wr : World) : Prop :=
  ∃ j : Nat, i = .int .i64 j ∧ j ≤ c.len ∧ Hid ((c.drop j).eqB (c'.drop j) = rb) ∧ Below B w1 wr

theorem heap_two (w : World) (o1 o2 : Obj) : ((w.alloc o1).alloc o2).heap[w.heap.size + 1]? = some o2 := by
  have := heap_alloc_new (w.alloc o1) o2
  simpa using this
theorem cellB {W w4 : World} (hb : Below W.drew.heap.size W.drew w4) {g o : Nat} {v : Value} (h : W.cell? ⟨g, o, none⟩ = some v) : w4.cell? ⟨g, o, none⟩ = some v := by
  have hlt := World.block_lt_of_cell? W _ h
  rw [hb.cell (p := ⟨g, o, none⟩) hlt]; exact h

def SameOk (D : Nat) : Prop := ∀ (x y : Nd) (xv yv : Value) (B : Nat) (w : World), x.kids.deep < D → Lim x.kids.len → x.kids.ok → B ≤ w.heap.size → KidsAt w (· < B) x.kids xv → KidsAt w (· < B) y.kids yv →
  Calls Try.prog 17 #[nodeV x.k x.n x.s xv, nodeV y.k y.n y.s yv] w fun e w' => e = .returned (.bool (x.eqB y)) ∧ Below w.heap.size w w'

set_option maxRecDepth 30000 in
set_option maxHeartbeats 2000000 in
theorem same_step (D : Nat) (IH : SameOk D) : SameOk (D + 1) := by
  rintro ⟨k, n, s, c⟩ ⟨k', n', s', c'⟩ xv yv B w hD hlen hok hB hx hy
  simp only at hD hlen hok hx hy ⊢
  have HIH := Lib.hid IH
  have HX := Lib.hid hx
  have HY := Lib.hid hy
  have HOK := Lib.hid hok
  obtain ⟨xa, xc, rfl⟩ := hx.shape
  obtain ⟨ya, yc, rfl⟩ := hy.shape
  obtain ⟨rb, hrb⟩ : ∃ rb, Nd.eqB ⟨k, n, s, c⟩ ⟨k', n', s', c'⟩ = rb := ⟨_, rfl⟩
  rw [hrb]
  have HRB := Lib.hid hrb
  clear IH hx hy hok hrb
  unfold nodeV
  by_cases hk : k = k'
  · by_cases hn : n = n'
    · by_cases hs : s = s'
      · subst hk hn hs
        by_cases hl0 : c.len = c'.len
        · obtain ⟨L, hLx0⟩ : ∃ L, c.len = L := ⟨_, rfl⟩
          have hLy0 : c'.len = L := by omega
          rw [hLx0, hLy0]
          have hLx := Lib.hid hLx0
          have hLy := Lib.hid hLy0
          rw [hLx0] at hlen
          clear hLx0 hLy0 hl0
          have HR : Hid (c.eqB c' = rb) := Lib.hid (by rw [← HRB.out]; simp [Nd.eqB])
          go_enter Try.func17, Try.ntmps17
          go_wp2_with fail
          go_loopw [5] (SmRel c c' rb (w.heap.size + 2) ((w.alloc (.cells #[.int .i64 k, .int .u64 n, .string s, .slice xa L xc] 27)).alloc (.cells #[.int .i64 k, .int .u64 n, .string s, .slice ya L yc] 27))) (fun i _ => L - (intOf i).toNat)
          case atStart => exact ⟨0, rfl, by omega, by simpa [F.drop] using HR, Below.refl _ _⟩
          case round =>
            obtain ⟨i, rfl, hi, hri, hb⟩ := hrel
            have hbx := block4 (block_kept (g := w.heap.size) (by rw [Below.heap_alloc _ _ _ (by simp)]; exact heap_alloc_new w _) (by omega) hb)
            have hby := block4 (block_kept (g := w.heap.size + 1) (heap_two w _ _) (by omega) hb)
            obtain ⟨_, _, _, x3, _, _, _, _⟩ := hbx
            obtain ⟨_, _, _, y3, _, _, _, _⟩ := hby
            have hsz : w.heap.size + 2 ≤ wr.heap.size := by have := hb.size; simpa using this
            have hbw : Below w.heap.size w wr := (((Below.refl _ w).alloc (Nat.le_refl _) _).alloc (by simp) _).trans (hb.mono (by omega))
            by_cases hlt : i < L
            · have hi0 : (0 : Int) ≤ (i : Int) := by omega
              have hi1 : (i : Int) ≤ 268435456 := by unfold Lim at hlen; omega
              obtain ⟨g, o, cap, hkv, hgB, hlx⟩ := HX.out.lies (by have := hLx.out; omega)
              injection hkv with e1 _ e2
              subst e1 e2
              obtain ⟨g', o', cap', hkv', hgB', hly⟩ := HY.out.lies (by have := hLy.out; omega)
              injection hkv' with e1' _ e2'
              subst e1' e2'
              obtain ⟨k1, n1, s1, c1, k2, n2, s2, c2, hd1, hd2⟩ := drop_eqB c c' i (by rw [hLx.out, hLy.out]) (by have := hLx.out; omega)
              have hlx2 := (Lies.drop i c g o hlx).below hgB (hbw.mono hB)
              have hly2 := (Lies.drop i c' g' o' hly).below hgB' (hbw.mono hB)
              rw [hd1] at hlx2
              rw [hd2] at hly2
              obtain ⟨⟨v1, p0, p1, p2, p3, hk1⟩, _⟩ := lies_cons.1 hlx2
              obtain ⟨⟨v2, q0, q1, q2, q3, hk2⟩, _⟩ := lies_cons.1 hly2
              obtain ⟨a1, b1, rfl⟩ := hk1.shape
              obtain ⟨a2, b2, rfl⟩ := hk2.shape
              have hdp : c1.deep < D := by
                have e1 := F.drop_deep c i
                rw [hd1] at e1
                simp only [F.deep] at e1
                omega
              have hokd := F.drop_ok c i HOK.out
              rw [hd1] at hokd
              have hcall := Lib.hid (HIH.out ⟨k1, n1, s1, c1⟩ ⟨k2, n2, s2, c2⟩ (.slice a1 c1.len b1) (.slice a2 c2.len b2) B wr.drew hdp (by unfold Lim; exact hokd.2.2.1) hokd.2.2.2.1 (by show B ≤ wr.heap.size; omega) (hk1.mono (fun _ h => h) (fun _ _ => rfl)) (hk2.mono (fun _ h => h) (fun _ _ => rfl)))
              have hstep : Hid ((Nd.eqB ⟨k1, n1, s1, c1⟩ ⟨k2, n2, s2, c2⟩ && (c.drop (i + 1)).eqB (c'.drop (i + 1))) = rb) := Lib.hid (by
                rw [← hri.out, hd1, hd2]; simp [F.eqB, Nd.eqB, Bool.and_assoc])
              have hil : (i : Int) < (L : Int) := by omega
              have hL1 : (L : Int) ≤ 268435456 := by unfold Lim at hlen; omega
              unfold nodeV at hcall
              obtain ⟨rk, hrk⟩ : ∃ rk, Nd.eqB ⟨k1, n1, s1, c1⟩ ⟨k2, n2, s2, c2⟩ = rk := ⟨_, rfl⟩
              rw [hrk] at hcall hstep
              clear hrk
              clear hlx hly hlx2 hly2 hk1 hk2 hd1 hd2 hokd
              go_wp2_with fail
              go_region_held3 (fun w' => w'.cell? ⟨w.heap.size, 3, none⟩ = some (.slice (some ⟨g, o, none⟩) L xc) ∧ w'.cell? ⟨w.heap.size + 1, 3, none⟩ = some (.slice (some ⟨g', o', none⟩) L yc) ∧
                  w'.cell? ⟨g, o + i * 4, none⟩ = some (.int .i64 k1) ∧ w'.cell? ⟨g, o + i * 4 + 1, none⟩ = some (.int .u64 n1) ∧ w'.cell? ⟨g, o + i * 4 + 2, none⟩ = some (.string s1) ∧ w'.cell? ⟨g, o + i * 4 + 3, none⟩ = some (.slice a1 c1.len b1) ∧
                  w'.cell? ⟨g', o' + i * 4, none⟩ = some (.int .i64 k2) ∧ w'.cell? ⟨g', o' + i * 4 + 1, none⟩ = some (.int .u64 n2) ∧ w'.cell? ⟨g', o' + i * 4 + 2, none⟩ = some (.string s2) ∧ w'.cell? ⟨g', o' + i * 4 + 3, none⟩ = some (.slice a2 c2.len b2))
                (first
                  | exact ⟨x3, y3, p0, p1, p2, p3, q0, q1, q2, q3⟩
                  | exact ⟨cellB hb4 x3, cellB hb4 y3, cellB hb4 p0, cellB hb4 p1, cellB hb4 p2, cellB hb4 p3, cellB hb4 q0, cellB hb4 q1, cellB hb4 q2, cellB hb4 q3⟩)
                ((go_at_call 17; refine hcall.out.mono ?_; rintro e w4 ⟨rfl, hb4⟩))
              have hbn : Below w.heap.size w w4 := hbw.trans ((Below.refl w.heap.size wr).drew.trans (hb4.mono (by show w.heap.size ≤ wr.heap.size; omega)))
              have hbm := hb.trans ((Below.refl (w.heap.size + 2) wr).drew.trans (hb4.mono (by show w.heap.size + 2 ≤ wr.heap.size; omega)))
              clear hcall hb4 x3 y3 p0 p1 p2 p3 q0 q1 q2 q3
              cases rk with
              | false =>
                have hrb : Hid (false = rb) := Lib.hid (by rw [← hstep.out]; rfl)
                go_wp2_with fail
                go_ret
                exact ⟨ret_bool hrb.out, hbn⟩
              | true =>
                go_wp2_with fail
                go_roundw
                case rel => exact ⟨i + 1, by go_num, by have := hLx.out; omega, Lib.hid (by simpa using hstep.out), hbm⟩
                case measure => rw [intOf_int, intOf_int]; omega
            · have hiL : i = L := by have := hLx.out; omega
              have hrb : Hid (true = rb) := Lib.hid (by
                rw [← hri.out, show c.drop i = .nil by rw [hiL, ← hLx.out]; exact F.drop_end c, show c'.drop i = .nil by rw [hiL, ← hLy.out]; exact F.drop_end c']; rfl)
              have hge : ¬ ((i : Int) < (L : Int)) := by omega
              clear hiL
              go_wp2_with fail
              go_ret
              exact ⟨ret_bool hrb.out, hbw⟩
        · have HR : Hid (rb = false) := Lib.hid (by
            rw [← HRB.out]
            have : c.eqB c' = false := by
              cases h : c.eqB c' with
              | false => rfl
              | true => exact absurd (eqB_len _ _ h) hl0
            simp [Nd.eqB, this])
          have hne : ((c.len : Int) == (c'.len : Int)) = false := by simp; omega
          clear hl0
          go_enter Try.func17, Try.ntmps17
          go_wp2_with fail
          go_ret
          exact ⟨ret_bool HR.out.symm, ((Below.refl _ w).alloc (Nat.le_refl _) _).alloc (by simp) _⟩
      · have HR : Hid (rb = false) := Lib.hid (by rw [← HRB.out]; simp [Nd.eqB, hs])
        have hsb : ¬ s.toList = s'.toList := by
          rw [ByteArray.toList_eq, ByteArray.toList_eq]
          intro h; exact hs (ByteArray.ext (Array.toList_inj.1 h))
        subst hk hn
        clear hs
        go_enter Try.func17, Try.ntmps17
        go_wp2_with fail
        go_ret
        exact ⟨ret_bool HR.out.symm, ((Below.refl _ w).alloc (Nat.le_refl _) _).alloc (by simp) _⟩
    · have HR : Hid (rb = false) := Lib.hid (by rw [← HRB.out]; simp [Nd.eqB, hn])
      have hnb : (n == n') = false := by simpa using hn
      subst hk
      go_enter Try.func17, Try.ntmps17
      go_wp2_with fail
      go_ret
      exact ⟨ret_bool HR.out.symm, ((Below.refl _ w).alloc (Nat.le_refl _) _).alloc (by simp) _⟩
  · have HR : Hid (rb = false) := Lib.hid (by rw [← HRB.out]; simp [Nd.eqB, hk])
    have hkb : (k == k') = false := by simpa using hk
    go_enter Try.func17, Try.ntmps17
    go_wp2_with fail
    go_ret
    exact ⟨ret_bool HR.out.symm, ((Below.refl _ w).alloc (Nat.le_refl _) _).alloc (by simp) _⟩

theorem same_ok (D : Nat) : SameOk D := by
  induction D with
  | zero => intro _ _ _ _ _ _ h; exact absurd h (Nat.not_lt_zero _)
  | succ D ih => exact same_step D ih
end Go.Proofs.Ytaojcbdljgcfgaa
