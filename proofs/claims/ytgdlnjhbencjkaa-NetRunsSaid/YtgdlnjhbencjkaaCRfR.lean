/- The reference's Deep, plain, Right. -/
import Derived.Test.YtgdlnjhbencjkaaNEnt
namespace Go.Proofs.Ytgdlnjhbencjkaa
open Go.RowKit
theorem block4' {w : World} {g : Nat} {a b c d : Value} {t : TypeId} (h : w.heap[g]? = some (.cells #[a, b, c, d] t (0, 0))) :
    w.cell? ⟨g, 0, none⟩ = some a ∧ w.cell? ⟨g, 1, none⟩ = some b ∧ w.cell? ⟨g, 2, none⟩ = some c ∧ w.cell? ⟨g, 3, none⟩ = some d ∧
    w.frozen? ⟨g, 0, none⟩ = false ∧ w.frozen? ⟨g, 1, none⟩ = false ∧ w.frozen? ⟨g, 2, none⟩ = false ∧ w.frozen? ⟨g, 3, none⟩ = false := by
  simp [World.cell?, World.frozen?, h]
/-- The block g is as it was. -/
theorem blockB {X w2 : World} {g B : Nat} {o : Obj} (hX : X.heap[g]? = some o) (hlt : g < B) (hb : Below B X w2) : w2.heap[g]? = some o := by rw [hb.block g hlt]; exact hX


theorem blockP {W w4 : World} (hb : Below W.heap.size W w4) {g : Nat} {o : Obj} (h : W.heap[g]? = some o) : w4.heap[g]? = some o := by
  rw [hb.block g (Array.getElem?_eq_some_iff.1 h).1]; exact h
theorem cell_drew {W : World} {a : Addr} {v : Value} (h : W.cell? a = some v) : W.drew.cell? a = some v := h
theorem cellP {W w4 : World} (hb : Below W.heap.size W w4) {g o : Nat} {v : Value} (h : W.cell? ⟨g, o, none⟩ = some v) : w4.cell? ⟨g, o, none⟩ = some v := by
  have hlt := World.block_lt_of_cell? W _ h
  rw [hb.cell (p := ⟨g, o, none⟩) hlt]; exact h

def DpRel (c : F) (w1 : World) (d i : Value) (wr : World) : Prop :=
  ∃ j m : Nat, i = .int .i64 j ∧ j ≤ c.len ∧ d = .int .i64 m ∧ m ≤ c.deep ∧ Hid (max m (c.drop j).deep = c.deep) ∧ Below w1.heap.size w1 wr
def DeepOk (D : Nat) : Prop := ∀ (x : Nd) (xv : Value) (B : Nat) (w : World), x.kids.deep < D → x.kids.deep ≤ 1000000 → x.kids.ok → x.kids.len < 268435456 → B ≤ w.heap.size → KidsAt w (· < B) x.kids xv →
  Calls Try.prog 52 #[nodeV x.k x.n x.s xv] w fun e w' => e = .returned (.int .i64 ((x.kids.deep : Int) + 1)) ∧ Below w.heap.size w w'

set_option maxRecDepth 30000 in
set_option maxHeartbeats 2000000 in
theorem deep_step (D : Nat) (IH : DeepOk D) : DeepOk (D + 1) := by
  rintro ⟨k, n, s, c⟩ xv B w hD hd hok hlen hB hx
  simp only at hD hd hok hlen hx ⊢
  have HIH := Lib.hid IH
  have HX := Lib.hid hx
  have HOK := Lib.hid hok
  obtain ⟨xa, xc, rfl⟩ := hx.shape
  have hlI : (c.len : Int) ≤ 268435456 := by omega
  have hdI : (c.deep : Int) ≤ 1000000 := by omega
  clear IH hx hok
  unfold nodeV
  go_enter Try.func52, Try.ntmps52
  obtain ⟨w1, hw1⟩ : ∃ w1, w1 = w.alloc (.cells #[.int .i64 k, .int .u64 n, .string s, .slice xa c.len xc] 76) := ⟨_, rfl⟩
  have hbl := Lib.hid (show w1.heap[w.heap.size]? = some (.cells #[.int .i64 k, .int .u64 n, .string s, .slice xa c.len xc] 76 (0, 0)) by rw [hw1]; exact heap_alloc_new w _)
  have hb1 : Hid (Below w.heap.size w w1) := Lib.hid (by rw [hw1]; exact (Below.refl _ w).alloc (Nat.le_refl _) _)
  have hl1 : Hid (w.heap.size < w1.heap.size) := Lib.hid (by rw [hw1]; simp)
  go_wp2_with fail
  rw [← hw1]
  clear hw1
  go_loopw [3, 4] (DpRel c w1) (fun _ i _ => c.len - (intOf i).toNat)
  case atStart => exact ⟨0, 0, rfl, by omega, rfl, by omega, Lib.hid (by simp [F.drop]), Below.refl _ _⟩
  case round =>
    obtain ⟨j, m, rfl, hj, rfl, hm, hmx, hb⟩ := hrel
    obtain ⟨_, _, _, x3, _, _, _, _⟩ := block4' (blockB hbl.out hl1.out hb)
    have hbw : Below w.heap.size w wr := hb1.out.trans (hb.mono hb1.out.size)
    have hm0 : (0 : Int) ≤ (m : Int) := by omega
    have hmI : (m : Int) ≤ 1000000 := by omega
    by_cases hlt : j < c.len
    · have hj0 : (0 : Int) ≤ (j : Int) := by omega
      have hjI : (j : Int) < (c.len : Int) := by omega
      obtain ⟨g, o, cap, hkv, hgB, hlx⟩ := HX.out.lies (by omega)
      injection hkv with e1 _ e2
      subst e1 e2
      obtain ⟨k1, n1, s1, c1, hd1⟩ := F.drop_at c j hlt
      have hlx2 := (Lies.drop j c g o hlx).below hgB (hbw.mono hB)
      rw [hd1] at hlx2
      obtain ⟨⟨v1, p0, p1, p2, p3, hk1⟩, _⟩ := lies_cons.1 hlx2
      obtain ⟨a1, b1, rfl⟩ := hk1.shape
      have hdp : c1.deep + 1 ≤ c.deep := by
        have e1 := F.drop_deep c j
        rw [hd1] at e1
        simp only [F.deep] at e1
        omega
      have hokd := F.drop_ok c j HOK.out
      rw [hd1] at hokd
      have hcall := Lib.hid (HIH.out ⟨k1, n1, s1, c1⟩ (.slice a1 c1.len b1) B wr (by simp only; omega) (by simp only; omega) hokd.2.2.2.1 hokd.2.2.1 (by have := hbw.size; omega) hk1)
      have hst : Hid (max (max m (c1.deep + 1)) (c.drop (j + 1)).deep = c.deep) := Lib.hid (by
        have := hmx.out
        rw [hd1] at this
        simp only [F.deep] at this
        rw [Nat.max_assoc]; exact this)
      unfold nodeV at hcall
      have hc0 : (0 : Int) ≤ (c1.deep : Int) := by omega
      have hcI : (c1.deep : Int) + 1 ≤ 1000000 := by omega
      have HDP := Lib.hid hdp
      clear hlx hlx2 hk1 hd1 hokd hdp
      by_cases hmm : m < c1.deep + 1
      · have hmmI : (m : Int) < (c1.deep : Int) + 1 := by omega
        have HST : Hid (max (c1.deep + 1) (c.drop (j + 1)).deep = c.deep) := Lib.hid (by have := hst.out; rwa [Nat.max_eq_right (by omega : m ≤ c1.deep + 1)] at this)
        clear hst hmm
        go_wp2_with fail
        refine hcall.out.mono ?_
        rintro e w4 ⟨rfl, hb4⟩
        have HB4 := Lib.hid (hb.trans (hb4.mono hb.size))
        clear hcall hb4
        go_wp2_with fail
        go_roundw
        case rel => exact ⟨j + 1, c1.deep + 1, by go_num, by omega, by go_num, by have := HDP.out; omega, HST, HB4.out⟩
        case measure => rw [intOf_int, intOf_int]; omega
      · have hmmI : ¬ (m : Int) < (c1.deep : Int) + 1 := by omega
        have HST : Hid (max m (c.drop (j + 1)).deep = c.deep) := Lib.hid (by have := hst.out; rwa [Nat.max_eq_left (by omega : c1.deep + 1 ≤ m)] at this)
        clear hst hmm
        go_wp2_with fail
        refine hcall.out.mono ?_
        rintro e w4 ⟨rfl, hb4⟩
        have HB4 := Lib.hid (hb.trans (hb4.mono hb.size))
        clear hcall hb4
        go_wp2_with fail
        go_roundw
        case rel => exact ⟨j + 1, m, by go_num, by omega, by go_num, by have := HDP.out; omega, HST, HB4.out⟩
        case measure => rw [intOf_int, intOf_int]; omega
    · have hge : ¬ ((j : Int) < (c.len : Int)) := by omega
      have hmd : Hid ((m : Int) = (c.deep : Int)) := Lib.hid (by
        have := hmx.out
        rw [show j = c.len by omega, F.drop_end] at this
        simp only [F.deep] at this
        omega)
      go_wp2_with fail
      go_ret
      refine ⟨?_, hbw⟩
      rw [← hmd.out]; rfl

theorem deep_ok (D : Nat) : DeepOk D := by
  induction D with
  | zero => intro _ _ _ _ h; exact absurd h (Nat.not_lt_zero _)
  | succ D ih => exact deep_step D ih

def plV (k n : Int) (s : ByteArray) (c : F) : Bool := plainB k n s c.len && c.plain
def PlRel (c : F) (rb : Bool) (w1 : World) (i : Value) (wr : World) : Prop :=
  ∃ j : Nat, i = .int .i64 j ∧ j ≤ c.len ∧ Hid ((c.drop j).plain = rb) ∧ Below w1.heap.size w1 wr
def PlainOk (D : Nat) : Prop := ∀ (x : Nd) (xv : Value) (B : Nat) (w : World), x.kids.deep < D → x.kids.ok → x.kids.len < 268435456 → B ≤ w.heap.size → KidsAt w (· < B) x.kids xv →
  Calls Try.prog 53 #[nodeV x.k x.n x.s xv] w fun e w' => e = .returned (.bool (plV x.k x.n x.s x.kids)) ∧ Below w.heap.size w w'

set_option maxRecDepth 30000 in
set_option maxHeartbeats 2000000 in
theorem plain_step (D : Nat) (IH : PlainOk D) : PlainOk (D + 1) := by
  rintro ⟨k, n, s, c⟩ xv B w hD hok hlen hB hx
  simp only at hD hok hlen hx ⊢
  have HIH := Lib.hid IH
  have HX := Lib.hid hx
  have HOK := Lib.hid hok
  obtain ⟨xa, xc, rfl⟩ := hx.shape
  have hlI : (c.len : Int) ≤ 268435456 := by omega
  obtain ⟨rb, hrb⟩ : ∃ rb, plV k n s c = rb := ⟨_, rfl⟩
  rw [hrb]
  have HRB := Lib.hid hrb
  clear IH hx hok hrb
  have hbE : Below w.heap.size w (w.alloc (.cells #[.int .i64 k, .int .u64 n, .string s, .slice xa c.len xc] 76)) := (Below.refl _ w).alloc (Nat.le_refl _) _
  have hnil : c.len = 0 → c.plain = true := fun h => by rw [F.len_zero h]; rfl
  have hse : (s.toList = []) ↔ s.size = 0 := toList_nil s
  unfold nodeV
  by_cases hk0 : k = 0
  · subst hk0
    by_cases hs : s.size = 0
    · have hs1 : s.toList = [] := hse.2 hs
      by_cases hl : c.len = 0
      · have hr : Hid (rb = true) := Lib.hid (by rw [← HRB.out]; simp [plV, plainB, hs, hl, hnil hl])
        have hl2 : ((c.len : Int) == 0) = true := by rw [hl]; rfl
        have HL := Lib.hid hl
        clear hl hs hse hnil
        go_enter Try.func53, Try.ntmps53
        go_wp2_with fail
        go_ret
        exact ⟨ret_bool hr.out.symm, hbE⟩
      · have hr : Hid (rb = false) := Lib.hid (by rw [← HRB.out]; simp [plV, plainB, hl])
        have hl2 : ((c.len : Int) == 0) = false := by simp only [beq_eq_false_iff_ne]; omega
        clear hs hse hnil
        go_enter Try.func53, Try.ntmps53
        go_wp2_with fail
        go_ret
        exact ⟨ret_bool hr.out.symm, hbE⟩
    · have hr : Hid (rb = false) := Lib.hid (by rw [← HRB.out]; simp [plV, plainB, hs])
      have hs1 : ¬ s.toList = [] := fun h => hs (hse.1 h)
      clear hs hse hnil
      go_enter Try.func53, Try.ntmps53
      go_wp2_with fail
      go_ret
      exact ⟨ret_bool hr.out.symm, hbE⟩
  by_cases hk1 : k = 1
  · subst hk1
    by_cases hn : n = 0
    · subst hn
      by_cases hl : c.len = 0
      · have hr : Hid (rb = true) := Lib.hid (by rw [← HRB.out]; simp [plV, plainB, hl, hnil hl])
        have hl2 : ((c.len : Int) == 0) = true := by rw [hl]; rfl
        have HL := Lib.hid hl
        clear hl hse hnil
        go_enter Try.func53, Try.ntmps53
        go_wp2_with fail
        go_ret
        exact ⟨ret_bool hr.out.symm, hbE⟩
      · have hr : Hid (rb = false) := Lib.hid (by rw [← HRB.out]; simp [plV, plainB, hl])
        have hl2 : ((c.len : Int) == 0) = false := by simp only [beq_eq_false_iff_ne]; omega
        clear hse hnil
        go_enter Try.func53, Try.ntmps53
        go_wp2_with fail
        go_ret
        exact ⟨ret_bool hr.out.symm, hbE⟩
    · have hr : Hid (rb = false) := Lib.hid (by rw [← HRB.out]; simp [plV, plainB, hn])
      have hnb : (n == 0) = false := by simpa using hn
      clear hse hnil
      go_enter Try.func53, Try.ntmps53
      go_wp2_with fail
      go_ret
      exact ⟨ret_bool hr.out.symm, hbE⟩
  by_cases hk2 : k = 2
  · subst hk2
    by_cases hn : n = 0
    · subst hn
      by_cases hs : s.size = 0
      · have hs1 : s.toList = [] := hse.2 hs
        have hr0 : Hid (c.plain = rb) := Lib.hid (by rw [← HRB.out]; simp [plV, plainB, hs])
        clear hs hse hnil
        go_enter Try.func53, Try.ntmps53
        obtain ⟨w1, hw1⟩ : ∃ w1, w1 = w.alloc (.cells #[.int .i64 2, .int .u64 0, .string s, .slice xa c.len xc] 76) := ⟨_, rfl⟩
        have hbl := Lib.hid (show w1.heap[w.heap.size]? = some (.cells #[.int .i64 2, .int .u64 0, .string s, .slice xa c.len xc] 76 (0, 0)) by rw [hw1]; exact heap_alloc_new w _)
        have hb1 : Hid (Below w.heap.size w w1) := Lib.hid (by rw [hw1]; exact (Below.refl _ w).alloc (Nat.le_refl _) _)
        have hl1 : Hid (w.heap.size < w1.heap.size) := Lib.hid (by rw [hw1]; simp)
        clear hbE
        go_wp2_with fail
        rw [← hw1]
        clear hw1
        go_loopw [3] (PlRel c rb w1) (fun i _ => c.len - (intOf i).toNat)
        case atStart => exact ⟨0, rfl, by omega, by simpa [F.drop] using hr0, Below.refl _ _⟩
        case round =>
          obtain ⟨j, rfl, hj, hmx, hb⟩ := hrel
          obtain ⟨_, _, _, x3, _, _, _, _⟩ := block4' (blockB hbl.out hl1.out hb)
          have hbw : Below w.heap.size w wr := hb1.out.trans (hb.mono hb1.out.size)
          by_cases hlt : j < c.len
          · have hj0 : (0 : Int) ≤ (j : Int) := by omega
            have hjI : (j : Int) < (c.len : Int) := by omega
            obtain ⟨g, o, cap, hkv, hgB, hlx⟩ := HX.out.lies (by omega)
            injection hkv with e1 _ e2
            subst e1 e2
            obtain ⟨k1, n1, s1, c1, hd1⟩ := F.drop_at c j hlt
            have hlx2 := (Lies.drop j c g o hlx).below hgB (hbw.mono hB)
            rw [hd1] at hlx2
            obtain ⟨⟨v1, p0, p1, p2, p3, hkk⟩, _⟩ := lies_cons.1 hlx2
            obtain ⟨a1, b1, rfl⟩ := hkk.shape
            have hdp : c1.deep + 1 ≤ c.deep := by
              have e1 := F.drop_deep c j
              rw [hd1] at e1
              simp only [F.deep] at e1
              omega
            have hokd := F.drop_ok c j HOK.out
            rw [hd1] at hokd
            have hcall := Lib.hid (HIH.out ⟨k1, n1, s1, c1⟩ (.slice a1 c1.len b1) B wr (by simp only; omega) hokd.2.2.2.1 hokd.2.2.1 (by have := hbw.size; omega) hkk)
            have hst : Hid ((plV k1 n1 s1 c1 && (c.drop (j + 1)).plain) = rb) := Lib.hid (by
              rw [← hmx.out, hd1]; simp [F.plain, plV, Bool.and_assoc])
            obtain ⟨rk, hrk⟩ : ∃ rk, plV k1 n1 s1 c1 = rk := ⟨_, rfl⟩
            simp only at hcall
            rw [hrk] at hcall hst
            unfold nodeV at hcall
            clear hlx hlx2 hkk hd1 hokd hdp hrk
            go_wp2_with fail
            refine hcall.out.mono ?_
            rintro e w4 ⟨rfl, hb4⟩
            have HB4 := Lib.hid (hb.trans (hb4.mono hb.size))
            have HBW4 : Hid (Below w.heap.size w w4) := Lib.hid (hbw.trans (hb4.mono hbw.size))
            clear hcall hb4
            cases rk with
            | false =>
              have hr : Hid (false = rb) := Lib.hid (by rw [← hst.out]; rfl)
              go_wp2_with fail
              go_ret
              exact ⟨ret_bool hr.out, HBW4.out⟩
            | true =>
              go_wp2_with fail
              go_roundw
              case rel => exact ⟨j + 1, by go_num, by omega, Lib.hid (by simpa using hst.out), HB4.out⟩
              case measure => rw [intOf_int, intOf_int]; omega
          · have hge : ¬ ((j : Int) < (c.len : Int)) := by omega
            have hr : Hid (true = rb) := Lib.hid (by
              have := hmx.out
              rw [show j = c.len by omega, F.drop_end] at this
              exact this)
            go_wp2_with fail
            go_ret
            exact ⟨ret_bool hr.out, hbw⟩
      · have hr : Hid (rb = false) := Lib.hid (by rw [← HRB.out]; simp [plV, plainB, hs])
        have hs1 : ¬ s.toList = [] := fun h => hs (hse.1 h)
        have hs3 : s.toList.isEmpty = false := by rw [isEmpty_size]; simpa using hs
        clear hs hse hnil
        go_enter Try.func53, Try.ntmps53
        go_wp2_with fail
        go_ret
        exact ⟨ret_bool hr.out.symm, hbE⟩
    · have hr : Hid (rb = false) := Lib.hid (by rw [← HRB.out]; simp [plV, plainB, hn])
      have hnb : (n == 0) = false := by simpa using hn
      clear hse hnil
      go_enter Try.func53, Try.ntmps53
      go_wp2_with fail
      go_ret
      exact ⟨ret_bool hr.out.symm, hbE⟩
  · have hr : Hid (rb = false) := Lib.hid (by rw [← HRB.out]; simp [plV, plainB, hk0, hk1, hk2])
    have hkb0 : (k == 0) = false := by simpa using hk0
    have hkb1 : (k == 1) = false := by simpa using hk1
    have hkb2 : (k == 2) = false := by simpa using hk2
    clear hse hnil
    go_enter Try.func53, Try.ntmps53
    go_wp2_with fail
    go_ret
    exact ⟨ret_bool hr.out.symm, hbE⟩
theorem plain_ok (D : Nat) : PlainOk D := by
  induction D with
  | zero => intro _ _ _ _ h; exact absurd h (Nat.not_lt_zero _)
  | succ D ih => exact plain_step D ih
end Go.Proofs.Ytgdlnjhbencjkaa
