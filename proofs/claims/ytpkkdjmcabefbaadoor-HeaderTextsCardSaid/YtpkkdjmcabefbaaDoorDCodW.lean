/- The reference's Deep, plain, Right. The reference's Right, Size, number. The reference's bytes, Write. The reference's Write. -/
import Derived.Test.YtpkkdjmcabefbaaDoorDCodS
namespace Go.Proofs.YtpkkdjmcabefbaaDoor.Cod
open Go.RowKit

def DpRel (c : F) (w1 : World) (d i : Value) (wr : World) : Prop :=
  ∃ j m : Nat, i = .int .i64 j ∧ j ≤ c.len ∧ d = .int .i64 m ∧ m ≤ c.deep ∧ Hid (max m (c.drop j).deep = c.deep) ∧ Below w1.heap.size w1 wr
def DeepOk (D : Nat) : Prop := ∀ (x : Nd) (xv : Value) (B : Nat) (w : World), x.kids.deep < D → x.kids.deep ≤ 1000000 → x.kids.ok → x.kids.len < 268435456 → B ≤ w.heap.size → KidsAt w (· < B) x.kids xv →
  Calls Tryd.prog 65 #[nodeV x.k x.n x.s xv] w fun e w' => e = .returned (.int .i64 ((x.kids.deep : Int) + 1)) ∧ Below w.heap.size w w'

set_option maxRecDepth 30000 in
set_option maxHeartbeats 2000000 in
theorem deep_step (D : Nat) (IH : DeepOk D) : DeepOk (D + 1) := by
  rintro ⟨k, n, s, c⟩ xv B w hD hd hok hlen hB hx
  simp only at hD hd hok hlen hx ⊢
  have HIH := Lib.hid IH
  have HX := Lib.hid hx
  have HOK := Lib.hid hok
  obtain ⟨xa, xc, rfl⟩ := hx.shape
  have hlI : (c.len : Int) ≤ 268435456 := by omega
  have hdI : (c.deep : Int) ≤ 1000000 := by omega
  clear IH hx hok
  unfold nodeV
  go_enter Tryd.func65, Tryd.ntmps65
  obtain ⟨w1, hw1⟩ : ∃ w1, w1 = w.alloc (.cells #[.int .i64 k, .int .u64 n, .string s, .slice xa c.len xc] 46) := ⟨_, rfl⟩
  have hbl := Lib.hid (show w1.heap[w.heap.size]? = some (.cells #[.int .i64 k, .int .u64 n, .string s, .slice xa c.len xc] 46 (0, 0)) by rw [hw1]; exact heap_alloc_new w _)
  have hb1 : Hid (Below w.heap.size w w1) := Lib.hid (by rw [hw1]; exact (Below.refl _ w).alloc (Nat.le_refl _) _)
  have hl1 : Hid (w.heap.size < w1.heap.size) := Lib.hid (by rw [hw1]; simp)
  go_wp2_with fail
  rw [← hw1]
  clear hw1
  go_loopw [3, 4] (DpRel c w1) (fun _ i _ => c.len - (intOf i).toNat)
  case atStart => exact ⟨0, 0, rfl, by omega, rfl, by omega, Lib.hid (by simp [F.drop]), Below.refl _ _⟩
  case round =>
    obtain ⟨j, m, rfl, hj, rfl, hm, hmx, hb⟩ := hrel
    obtain ⟨_, _, _, x3, _, _, _, _⟩ := block4' (blockB hbl.out hl1.out hb)
    have hbw : Below w.heap.size w wr := hb1.out.trans (hb.mono hb1.out.size)
    have hm0 : (0 : Int) ≤ (m : Int) := by omega
    have hmI : (m : Int) ≤ 1000000 := by omega
    by_cases hlt : j < c.len
    · have hj0 : (0 : Int) ≤ (j : Int) := by omega
      have hjI : (j : Int) < (c.len : Int) := by omega
      obtain ⟨g, o, cap, hkv, hgB, hlx⟩ := HX.out.lies (by omega)
      injection hkv with e1 _ e2
      subst e1 e2
      obtain ⟨k1, n1, s1, c1, hd1⟩ := F.drop_at c j hlt
      have hlx2 := (Lies.drop j c g o hlx).below hgB (hbw.mono hB)
      rw [hd1] at hlx2
      obtain ⟨⟨v1, p0, p1, p2, p3, hk1⟩, _⟩ := lies_cons.1 hlx2
      obtain ⟨a1, b1, rfl⟩ := hk1.shape
      have hdp : c1.deep + 1 ≤ c.deep := by
        have e1 := F.drop_deep c j
        rw [hd1] at e1
        simp only [F.deep] at e1
        omega
      have hokd := F.drop_ok c j HOK.out
      rw [hd1] at hokd
      have hcall := Lib.hid (HIH.out ⟨k1, n1, s1, c1⟩ (.slice a1 c1.len b1) B wr (by simp only; omega) (by simp only; omega) hokd.2.2.2.1 hokd.2.2.1 (by have := hbw.size; omega) hk1)
      have hst : Hid (max (max m (c1.deep + 1)) (c.drop (j + 1)).deep = c.deep) := Lib.hid (by
        have := hmx.out
        rw [hd1] at this
        simp only [F.deep] at this
        rw [Nat.max_assoc]; exact this)
      unfold nodeV at hcall
      have hc0 : (0 : Int) ≤ (c1.deep : Int) := by omega
      have hcI : (c1.deep : Int) + 1 ≤ 1000000 := by omega
      have HDP := Lib.hid hdp
      clear hlx hlx2 hk1 hd1 hokd hdp
      by_cases hmm : m < c1.deep + 1
      · have hmmI : (m : Int) < (c1.deep : Int) + 1 := by omega
        have HST : Hid (max (c1.deep + 1) (c.drop (j + 1)).deep = c.deep) := Lib.hid (by have := hst.out; rwa [Nat.max_eq_right (by omega : m ≤ c1.deep + 1)] at this)
        clear hst hmm
        go_wp2_with fail
        refine hcall.out.mono ?_
        rintro e w4 ⟨rfl, hb4⟩
        have HB4 := Lib.hid (hb.trans (hb4.mono hb.size))
        clear hcall hb4
        go_wp2_with fail
        go_roundw
        case rel => exact ⟨j + 1, c1.deep + 1, by go_num, by omega, by go_num, by have := HDP.out; omega, HST, HB4.out⟩
        case measure => rw [intOf_int, intOf_int]; omega
      · have hmmI : ¬ (m : Int) < (c1.deep : Int) + 1 := by omega
        have HST : Hid (max m (c.drop (j + 1)).deep = c.deep) := Lib.hid (by have := hst.out; rwa [Nat.max_eq_left (by omega : c1.deep + 1 ≤ m)] at this)
        clear hst hmm
        go_wp2_with fail
        refine hcall.out.mono ?_
        rintro e w4 ⟨rfl, hb4⟩
        have HB4 := Lib.hid (hb.trans (hb4.mono hb.size))
        clear hcall hb4
        go_wp2_with fail
        go_roundw
        case rel => exact ⟨j + 1, m, by go_num, by omega, by go_num, by have := HDP.out; omega, HST, HB4.out⟩
        case measure => rw [intOf_int, intOf_int]; omega
    · have hge : ¬ ((j : Int) < (c.len : Int)) := by omega
      have hmd : Hid ((m : Int) = (c.deep : Int)) := Lib.hid (by
        have := hmx.out
        rw [show j = c.len by omega, F.drop_end] at this
        simp only [F.deep] at this
        omega)
      go_wp2_with fail
      go_ret
      refine ⟨?_, hbw⟩
      rw [← hmd.out]; rfl

theorem deep_ok (D : Nat) : DeepOk D := by
  induction D with
  | zero => intro _ _ _ _ h; exact absurd h (Nat.not_lt_zero _)
  | succ D ih => exact deep_step D ih

def plV (k n : Int) (s : ByteArray) (c : F) : Bool := plainB k n s c.len && c.plain
def PlRel (c : F) (rb : Bool) (w1 : World) (i : Value) (wr : World) : Prop :=
  ∃ j : Nat, i = .int .i64 j ∧ j ≤ c.len ∧ Hid ((c.drop j).plain = rb) ∧ Below w1.heap.size w1 wr
def PlainOk (D : Nat) : Prop := ∀ (x : Nd) (xv : Value) (B : Nat) (w : World), x.kids.deep < D → x.kids.ok → x.kids.len < 268435456 → B ≤ w.heap.size → KidsAt w (· < B) x.kids xv →
  Calls Tryd.prog 66 #[nodeV x.k x.n x.s xv] w fun e w' => e = .returned (.bool (plV x.k x.n x.s x.kids)) ∧ Below w.heap.size w w'

set_option maxRecDepth 30000 in
set_option maxHeartbeats 2000000 in
theorem plain_step (D : Nat) (IH : PlainOk D) : PlainOk (D + 1) := by
  rintro ⟨k, n, s, c⟩ xv B w hD hok hlen hB hx
  simp only at hD hok hlen hx ⊢
  have HIH := Lib.hid IH
  have HX := Lib.hid hx
  have HOK := Lib.hid hok
  obtain ⟨xa, xc, rfl⟩ := hx.shape
  have hlI : (c.len : Int) ≤ 268435456 := by omega
  obtain ⟨rb, hrb⟩ : ∃ rb, plV k n s c = rb := ⟨_, rfl⟩
  rw [hrb]
  have HRB := Lib.hid hrb
  clear IH hx hok hrb
  have hbE : Below w.heap.size w (w.alloc (.cells #[.int .i64 k, .int .u64 n, .string s, .slice xa c.len xc] 46)) := (Below.refl _ w).alloc (Nat.le_refl _) _
  have hnil : c.len = 0 → c.plain = true := fun h => by rw [F.len_zero h]; rfl
  have hse : (s.toList = []) ↔ s.size = 0 := toList_nil s
  unfold nodeV
  by_cases hk0 : k = 0
  · subst hk0
    by_cases hs : s.size = 0
    · have hs1 : s.toList = [] := hse.2 hs
      by_cases hl : c.len = 0
      · have hr : Hid (rb = true) := Lib.hid (by rw [← HRB.out]; simp [plV, plainB, hs, hl, hnil hl])
        have hl2 : ((c.len : Int) == 0) = true := by rw [hl]; rfl
        have HL := Lib.hid hl
        clear hl hs hse hnil
        go_enter Tryd.func66, Tryd.ntmps66
        go_wp2_with fail
        go_ret
        exact ⟨ret_bool hr.out.symm, hbE⟩
      · have hr : Hid (rb = false) := Lib.hid (by rw [← HRB.out]; simp [plV, plainB, hl])
        have hl2 : ((c.len : Int) == 0) = false := by simp only [beq_eq_false_iff_ne]; omega
        clear hs hse hnil
        go_enter Tryd.func66, Tryd.ntmps66
        go_wp2_with fail
        go_ret
        exact ⟨ret_bool hr.out.symm, hbE⟩
    · have hr : Hid (rb = false) := Lib.hid (by rw [← HRB.out]; simp [plV, plainB, hs])
      have hs1 : ¬ s.toList = [] := fun h => hs (hse.1 h)
      clear hs hse hnil
      go_enter Tryd.func66, Tryd.ntmps66
      go_wp2_with fail
      go_ret
      exact ⟨ret_bool hr.out.symm, hbE⟩
  by_cases hk1 : k = 1
  · subst hk1
    by_cases hn : n = 0
    · subst hn
      by_cases hl : c.len = 0
      · have hr : Hid (rb = true) := Lib.hid (by rw [← HRB.out]; simp [plV, plainB, hl, hnil hl])
        have hl2 : ((c.len : Int) == 0) = true := by rw [hl]; rfl
        have HL := Lib.hid hl
        clear hl hse hnil
        go_enter Tryd.func66, Tryd.ntmps66
        go_wp2_with fail
        go_ret
        exact ⟨ret_bool hr.out.symm, hbE⟩
      · have hr : Hid (rb = false) := Lib.hid (by rw [← HRB.out]; simp [plV, plainB, hl])
        have hl2 : ((c.len : Int) == 0) = false := by simp only [beq_eq_false_iff_ne]; omega
        clear hse hnil
        go_enter Tryd.func66, Tryd.ntmps66
        go_wp2_with fail
        go_ret
        exact ⟨ret_bool hr.out.symm, hbE⟩
    · have hr : Hid (rb = false) := Lib.hid (by rw [← HRB.out]; simp [plV, plainB, hn])
      have hnb : (n == 0) = false := by simpa using hn
      clear hse hnil
      go_enter Tryd.func66, Tryd.ntmps66
      go_wp2_with fail
      go_ret
      exact ⟨ret_bool hr.out.symm, hbE⟩
  by_cases hk2 : k = 2
  · subst hk2
    by_cases hn : n = 0
    · subst hn
      by_cases hs : s.size = 0
      · have hs1 : s.toList = [] := hse.2 hs
        have hr0 : Hid (c.plain = rb) := Lib.hid (by rw [← HRB.out]; simp [plV, plainB, hs])
        clear hs hse hnil
        go_enter Tryd.func66, Tryd.ntmps66
        obtain ⟨w1, hw1⟩ : ∃ w1, w1 = w.alloc (.cells #[.int .i64 2, .int .u64 0, .string s, .slice xa c.len xc] 46) := ⟨_, rfl⟩
        have hbl := Lib.hid (show w1.heap[w.heap.size]? = some (.cells #[.int .i64 2, .int .u64 0, .string s, .slice xa c.len xc] 46 (0, 0)) by rw [hw1]; exact heap_alloc_new w _)
        have hb1 : Hid (Below w.heap.size w w1) := Lib.hid (by rw [hw1]; exact (Below.refl _ w).alloc (Nat.le_refl _) _)
        have hl1 : Hid (w.heap.size < w1.heap.size) := Lib.hid (by rw [hw1]; simp)
        clear hbE
        go_wp2_with fail
        rw [← hw1]
        clear hw1
        go_loopw [3] (PlRel c rb w1) (fun i _ => c.len - (intOf i).toNat)
        case atStart => exact ⟨0, rfl, by omega, by simpa [F.drop] using hr0, Below.refl _ _⟩
        case round =>
          obtain ⟨j, rfl, hj, hmx, hb⟩ := hrel
          obtain ⟨_, _, _, x3, _, _, _, _⟩ := block4' (blockB hbl.out hl1.out hb)
          have hbw : Below w.heap.size w wr := hb1.out.trans (hb.mono hb1.out.size)
          by_cases hlt : j < c.len
          · have hj0 : (0 : Int) ≤ (j : Int) := by omega
            have hjI : (j : Int) < (c.len : Int) := by omega
            obtain ⟨g, o, cap, hkv, hgB, hlx⟩ := HX.out.lies (by omega)
            injection hkv with e1 _ e2
            subst e1 e2
            obtain ⟨k1, n1, s1, c1, hd1⟩ := F.drop_at c j hlt
            have hlx2 := (Lies.drop j c g o hlx).below hgB (hbw.mono hB)
            rw [hd1] at hlx2
            obtain ⟨⟨v1, p0, p1, p2, p3, hkk⟩, _⟩ := lies_cons.1 hlx2
            obtain ⟨a1, b1, rfl⟩ := hkk.shape
            have hdp : c1.deep + 1 ≤ c.deep := by
              have e1 := F.drop_deep c j
              rw [hd1] at e1
              simp only [F.deep] at e1
              omega
            have hokd := F.drop_ok c j HOK.out
            rw [hd1] at hokd
            have hcall := Lib.hid (HIH.out ⟨k1, n1, s1, c1⟩ (.slice a1 c1.len b1) B wr (by simp only; omega) hokd.2.2.2.1 hokd.2.2.1 (by have := hbw.size; omega) hkk)
            have hst : Hid ((plV k1 n1 s1 c1 && (c.drop (j + 1)).plain) = rb) := Lib.hid (by
              rw [← hmx.out, hd1]; simp [F.plain, plV, Bool.and_assoc])
            obtain ⟨rk, hrk⟩ : ∃ rk, plV k1 n1 s1 c1 = rk := ⟨_, rfl⟩
            simp only at hcall
            rw [hrk] at hcall hst
            unfold nodeV at hcall
            clear hlx hlx2 hkk hd1 hokd hdp hrk
            go_wp2_with fail
            refine hcall.out.mono ?_
            rintro e w4 ⟨rfl, hb4⟩
            have HB4 := Lib.hid (hb.trans (hb4.mono hb.size))
            have HBW4 : Hid (Below w.heap.size w w4) := Lib.hid (hbw.trans (hb4.mono hbw.size))
            clear hcall hb4
            cases rk with
            | false =>
              have hr : Hid (false = rb) := Lib.hid (by rw [← hst.out]; rfl)
              go_wp2_with fail
              go_ret
              exact ⟨ret_bool hr.out, HBW4.out⟩
            | true =>
              go_wp2_with fail
              go_roundw
              case rel => exact ⟨j + 1, by go_num, by omega, Lib.hid (by simpa using hst.out), HB4.out⟩
              case measure => rw [intOf_int, intOf_int]; omega
          · have hge : ¬ ((j : Int) < (c.len : Int)) := by omega
            have hr : Hid (true = rb) := Lib.hid (by
              have := hmx.out
              rw [show j = c.len by omega, F.drop_end] at this
              exact this)
            go_wp2_with fail
            go_ret
            exact ⟨ret_bool hr.out, hbw⟩
      · have hr : Hid (rb = false) := Lib.hid (by rw [← HRB.out]; simp [plV, plainB, hs])
        have hs1 : ¬ s.toList = [] := fun h => hs (hse.1 h)
        have hs3 : s.toList.isEmpty = false := by rw [isEmpty_size]; simpa using hs
        clear hs hse hnil
        go_enter Tryd.func66, Tryd.ntmps66
        go_wp2_with fail
        go_ret
        exact ⟨ret_bool hr.out.symm, hbE⟩
    · have hr : Hid (rb = false) := Lib.hid (by rw [← HRB.out]; simp [plV, plainB, hn])
      have hnb : (n == 0) = false := by simpa using hn
      clear hse hnil
      go_enter Tryd.func66, Tryd.ntmps66
      go_wp2_with fail
      go_ret
      exact ⟨ret_bool hr.out.symm, hbE⟩
  · have hr : Hid (rb = false) := Lib.hid (by rw [← HRB.out]; simp [plV, plainB, hk0, hk1, hk2])
    have hkb0 : (k == 0) = false := by simpa using hk0
    have hkb1 : (k == 1) = false := by simpa using hk1
    have hkb2 : (k == 2) = false := by simpa using hk2
    clear hse hnil
    go_enter Tryd.func66, Tryd.ntmps66
    go_wp2_with fail
    go_ret
    exact ⟨ret_bool hr.out.symm, hbE⟩
theorem plain_ok (D : Nat) : PlainOk D := by
  induction D with
  | zero => intro _ _ _ _ h; exact absurd h (Nat.not_lt_zero _)
  | succ D ih => exact plain_step D ih
end Go.Proofs.YtpkkdjmcabefbaaDoor.Cod
namespace Go.Proofs.YtpkkdjmcabefbaaDoor.Cod
open Go.RowKit

theorem right20 (x : Nd) : x.right 20 = (decide ((x.kids.deep : Int) + 1 ≤ 20) && plV x.k x.n x.s x.kids) := by
  unfold Nd.right plV
  rw [right_iff, Bool.eq_iff_iff]
  simp only [Bool.and_eq_true, decide_eq_true_eq]
  constructor
  · rintro ⟨h1, _, h2, h3⟩; exact ⟨by omega, h1, h3⟩
  · rintro ⟨h1, h2, h3⟩; exact ⟨h2, by omega, by omega, h3⟩
set_option maxRecDepth 30000 in
set_option maxHeartbeats 1000000 in
theorem rright_prog (x : Nd) (xv : Value) (w : World) (hok : x.ok) (hd : x.kids.deep ≤ 1000000) (hx : KidsAt w (· < w.heap.size) x.kids xv) :
    Calls Tryd.prog 44 #[nodeV x.k x.n x.s xv] w fun e w' => e = .returned (.bool (x.right 20)) ∧ Below w.heap.size w w' := by
  rw [right20]
  obtain ⟨xa, xc, rfl⟩ := hx.shape
  obtain ⟨w1, hw1⟩ : ∃ w1, w1 = w.alloc (.cells #[.int .i64 x.k, .int .u64 x.n, .string x.s, .slice xa x.kids.len xc] 46) := ⟨_, rfl⟩
  have hbl : w1.heap[w.heap.size]? = some (.cells #[.int .i64 x.k, .int .u64 x.n, .string x.s, .slice xa x.kids.len xc] 46 (0, 0)) := by rw [hw1]; exact heap_alloc_new w _
  have hb1 : Hid (Below w.heap.size w w1) := Lib.hid (by rw [hw1]; exact (Below.refl _ w).alloc (Nat.le_refl _) _)
  have hx1 : Hid (KidsAt w1 (· < w.heap.size) x.kids (.slice xa x.kids.len xc)) := Lib.hid (hx.below hb1.out)
  have hcall := Lib.hid (deep_ok (x.kids.deep + 1) x (.slice xa x.kids.len xc) w.heap.size w1 (by omega) hd hok.2.2.2 hok.2.2.1 hb1.out.size hx1.out)
  have hdI : (x.kids.deep : Int) ≤ 1000000 := by omega
  have hd0 : (0 : Int) ≤ (x.kids.deep : Int) := by omega
  have HOK := Lib.hid hok
  have hl1 : w.heap.size < w1.heap.size := by rw [hw1]; simp
  obtain ⟨p, hp⟩ : ∃ p, plV x.k x.n x.s x.kids = p := ⟨_, rfl⟩
  have HP := Lib.hid hp
  rw [hp]
  unfold nodeV at hcall ⊢
  clear hx hok hp
  by_cases hle : (x.kids.deep : Int) + 1 ≤ 20
  · have hdec : decide ((x.kids.deep : Int) + 1 ≤ 20) = true := by simpa using hle
    rw [hdec]
    go_enter Tryd.func44, Tryd.ntmps44
    go_wp2_with fail
    rw [← hw1]
    clear hw1
    refine hcall.out.mono ?_
    rintro e w2 ⟨rfl, hb2⟩
    obtain ⟨x0, x1, x2, x3, _, _, _, _⟩ := block4' (blockP hb2 hbl)
    have hpl := Lib.hid (plain_ok (x.kids.deep + 1) x (.slice xa x.kids.len xc) w.heap.size w2 (by omega) HOK.out.2.2.2 HOK.out.2.2.1 (by have := hb1.out.size; have := hb2.size; omega) (hx1.out.below (hb2.mono (by have := hb1.out.size; omega))))
    rw [HP.out] at hpl
    have HB2 := Lib.hid (hb1.out.trans (hb2.mono hb1.out.size))
    unfold nodeV at hpl
    clear hcall hb2
    go_wp2_with fail
    refine hpl.out.mono ?_
    rintro e w3 ⟨rfl, hb3⟩
    have HB3 := Lib.hid (HB2.out.trans (hb3.mono HB2.out.size))
    clear hb3 hpl
    go_wp2_with fail
    go_ret
    exact ⟨ret_bool (by simp), HB3.out⟩
  · have hdec : decide ((x.kids.deep : Int) + 1 ≤ 20) = false := by simpa using hle
    rw [hdec]
    go_enter Tryd.func44, Tryd.ntmps44
    go_wp2_with fail
    rw [← hw1]
    clear hw1
    refine hcall.out.mono ?_
    rintro e w2 ⟨rfl, hb2⟩
    have HB2 := Lib.hid (hb1.out.trans (hb2.mono hb1.out.size))
    clear hcall hb2
    go_wp2_with fail
    go_ret
    exact ⟨ret_bool (by simp), HB2.out⟩

theorem conv1 (W : World) (g c : Nat) (hg : g = W.heap.size) (hc : c < 256) : (convert 57 9 (.slice (some ⟨g, 0, none⟩) 1 1)).run Tryd.prog (W.alloc (.cells #[.int .u8 (c : Int)] 5)) = .ok (.string ⟨#[UInt8.ofNat c]⟩) (W.alloc (.cells #[.int .u8 (c : Int)] 5)) := by
  subst hg
  have hmc : (c : Int) = ((UInt8.ofNat c).toNat : Int) := by simp; omega
  exact run_string_block (w := (W.alloc (.cells #[.int .u8 (c : Int)] 5))) (src := 57) (dst := 9) Tryd.underlying57 Tryd.underlying5 Tryd.underlying9 W.heap.size 1 [UInt8.ofNat c] (by rw [heap_at_alloc, hmc]; simp [byteV])

def SzRl2 (N : Nat) (w1 : World) (n s : Value) (wr : World) : Prop :=
  ∃ (m : Nat) (A : ByteArray), n = .int .i64 m ∧ m ≤ N ∧ s = .string A ∧ A.size ≤ 4 ∧ Hid (A.data.toList ++ szL m = szL N) ∧ Below w1.heap.size w1 wr

set_option maxRecDepth 30000 in
set_option maxHeartbeats 1000000 in
theorem sizeS_ref (N : Nat) (w : World) (hN : N < 268435456) :
    Calls Tryd.prog 68 #[.int .i64 N] w fun e w' => e = .returned (.string ⟨(szL N).toArray⟩) ∧ Below w.heap.size w w' := by
  have hN' := Lib.hid (szL_len N hN)
  have HN := Lib.hid hN
  clear hN
  go_enter Tryd.func68, Tryd.ntmps68
  go_wp2_with fail
  go_loopw [0, 3] (SzRl2 N w) (fun n _ _ => (intOf n).toNat)
  case atStart => exact ⟨N, ⟨#[]⟩, rfl, by omega, rfl, by show 0 ≤ 4; omega, Lib.hid (by simp), Below.refl _ _⟩
  case round =>
    obtain ⟨m, A, rfl, hm, rfl, hA, hAm, hb⟩ := hrel
    have hm0 : (0 : Int) ≤ (m : Int) := by omega
    have hmI : (m : Int) ≤ 268435456 := by have := HN.out; omega
    have hAI : (A.size : Int) ≤ 4 := by omega
    by_cases hge : 128 ≤ m
    · have hgI : (128 : Int) ≤ (m : Int) := by omega
      obtain ⟨c, hc, hcl, hcm⟩ : ∃ c : Nat, (m : Int) % 128 + 128 = (c : Int) ∧ c < 256 ∧ c = m % 128 + 128 := ⟨m % 128 + 128, by omega, by omega, rfl⟩
      obtain ⟨d, hd, hdl⟩ : ∃ d : Nat, (m : Int) / 128 = (d : Int) ∧ d = m / 128 := ⟨m / 128, by omega, rfl⟩
      have hcv := conv1 wr wr.heap.size c rfl hcl
      have hcI : (c : Int) ≤ 255 := by omega
      have hc0 : (0 : Int) ≤ (c : Int) := by omega
      have hd0 : (0 : Int) ≤ (d : Int) := by omega
      have HCM := Lib.hid hcm
      have HDL := Lib.hid hdl
      have HA2 : Hid ((A ++ ⟨#[UInt8.ofNat c]⟩).data.toList ++ szL d = szL N) := Lib.hid (by
        have := hAm.out
        rw [szL_ge hge] at this
        rw [ByteArray.data_append, Array.toList_append, hdl, hcm, ← this]; simp)
      have HL : Hid ((A ++ ⟨#[UInt8.ofNat c]⟩).size ≤ 4) := Lib.hid (by
        have h1 := congrArg List.length HA2.out
        rw [List.length_append] at h1
        have h2 := hN'.out
        simp only [Array.length_toList, ByteArray.size_data] at h1
        omega)
      clear hcm hdl hcl
      go_wp2_with fail
      go_roundw
      case rel => exact ⟨d, _, rfl, by have := HDL.out; omega, rfl, HL.out, HA2, hb.alloc hb.size _⟩
      case measure => rw [intOf_int, intOf_int]; have := HDL.out; omega
    · have hgI : ¬ (128 : Int) ≤ (m : Int) := by omega
      have hcv := conv1 wr wr.heap.size m rfl (by omega)
      have hmI2 : (m : Int) ≤ 255 := by omega
      have HE : Hid ((A ++ ⟨#[UInt8.ofNat m]⟩ : ByteArray) = ⟨(szL N).toArray⟩) := Lib.hid (by
        apply ByteArray.ext; apply Array.toList_inj.1
        rw [ByteArray.data_append, Array.toList_append, ← hAm.out, szL_lt (by omega)])
      go_wp2_with fail
      rw [HE.out]
      go_ret
      exact ⟨rfl, hb.alloc hb.size _⟩

def NmRl2 (N : Nat) (w1 : World) (n s : Value) (wr : World) : Prop :=
  ∃ (m : Nat) (A : ByteArray), n = .int .u64 m ∧ m ≤ N ∧ s = .string A ∧ A.size ≤ 8 ∧ Hid (numL m ++ A.data.toList = numL N) ∧ Below w1.heap.size w1 wr

set_option maxRecDepth 30000 in
set_option maxHeartbeats 1000000 in
theorem numberS_ref (N : Nat) (w : World) (hN : N < 18446744073709551616) :
    Calls Tryd.prog 67 #[.int .u64 N] w fun e w' => e = .returned (.string ⟨(numL N).toArray⟩) ∧ Below w.heap.size w w' := by
  have hN' := Lib.hid (numL_len N 8 (by omega))
  have HN := Lib.hid hN
  clear hN
  go_enter Tryd.func67, Tryd.ntmps67
  go_wp2_with fail
  go_loopw [0, 3] (NmRl2 N w) (fun n _ _ => (intOf n).toNat)
  case atStart => exact ⟨N, ⟨#[]⟩, rfl, by omega, rfl, by show 0 ≤ 8; omega, Lib.hid (by simp), Below.refl _ _⟩
  case round =>
    obtain ⟨m, A, rfl, hm, rfl, hA, hAm, hb⟩ := hrel
    have hm0 : (0 : Int) ≤ (m : Int) := by omega
    have hmI : (m : Int) ≤ 18446744073709551615 := by have := HN.out; omega
    have hAI : (A.size : Int) ≤ 8 := by omega
    by_cases hge : 0 < m
    · have hgI : (0 : Int) < (m : Int) := by omega
      obtain ⟨c, hc, hcl, hcm⟩ : ∃ c : Nat, (m : Int) % 256 = (c : Int) ∧ c < 256 ∧ c = m % 256 := ⟨m % 256, by omega, by omega, rfl⟩
      obtain ⟨d, hd, hdl⟩ : ∃ d : Nat, (m : Int) / 256 = (d : Int) ∧ d = m / 256 := ⟨m / 256, by omega, rfl⟩
      have hcv := conv1 wr wr.heap.size c rfl hcl
      have hcI : (c : Int) ≤ 255 := by omega
      have hc0 : (0 : Int) ≤ (c : Int) := by omega
      have hd0 : (0 : Int) ≤ (d : Int) := by omega
      have HDL := Lib.hid hdl
      have HA2 : Hid (numL d ++ ((⟨#[UInt8.ofNat c]⟩ : ByteArray) ++ A).data.toList = numL N) := Lib.hid (by
        have := hAm.out
        rw [numL_pos hge] at this
        rw [ByteArray.data_append, Array.toList_append, hdl, hcm, ← this]; simp)
      have HL : Hid (((⟨#[UInt8.ofNat c]⟩ : ByteArray) ++ A).size ≤ 8) := Lib.hid (by
        have h1 := congrArg List.length HA2.out
        rw [List.length_append] at h1
        have h2 := hN'.out
        simp only [Array.length_toList, ByteArray.size_data] at h1
        omega)
      clear hdl hcl hcm
      go_wp2_with fail
      go_roundw
      case rel => exact ⟨d, _, rfl, by have := HDL.out; omega, rfl, HL.out, HA2, hb.alloc hb.size _⟩
      case measure => rw [intOf_int, intOf_int]; have := HDL.out; omega
    · have hgI : ¬ (0 : Int) < (m : Int) := by omega
      have HE : Hid (A = ⟨(numL N).toArray⟩) := Lib.hid (by
        apply ByteArray.ext; apply Array.toList_inj.1
        rw [← hAm.out, show m = 0 by omega, numL_zero]; rfl)
      go_wp2_with fail
      rw [HE.out]
      go_ret
      exact ⟨rfl, hb⟩
end Go.Proofs.YtpkkdjmcabefbaaDoor.Cod
namespace Go.Proofs.YtpkkdjmcabefbaaDoor.Cod
open Go.RowKit

def BtRel (c : F) (B0 : List UInt8) (w1 : World) (al i : Value) (wr : World) : Prop :=
  ∃ (j : Nat) (A : ByteArray), i = .int .i64 j ∧ j ≤ c.len ∧ al = .string A ∧ A.size ≤ B0.length ∧ Hid (A.data.toList ++ (c.drop j).bytes = B0) ∧ Below w1.heap.size w1 wr
def BytesOk (D : Nat) : Prop := ∀ (x : Nd) (xv : Value) (B : Nat) (w : World), x.kids.deep < D → x.ok → B ≤ w.heap.size → KidsAt w (· < B) x.kids xv → (nodeL x.k x.n x.s x.kids.len x.kids.bytes).length ≤ 16777216 →
  Calls Tryd.prog 45 #[nodeV x.k x.n x.s xv] w fun e w' => e = .returned (.string ⟨(nodeL x.k x.n x.s x.kids.len x.kids.bytes).toArray⟩) ∧ Below w.heap.size w w'

theorem bytes3 (c : UInt8) (l m : List UInt8) : ((⟨#[c]⟩ : ByteArray) ++ ⟨l.toArray⟩) ++ ⟨m.toArray⟩ = ⟨(c :: (l ++ m)).toArray⟩ := by
  apply ByteArray.ext; apply Array.toList_inj.1
  simp [ByteArray.data_append]
theorem bytes2 (c : UInt8) (l : List UInt8) : ((⟨#[c]⟩ : ByteArray) ++ ⟨l.toArray⟩) = ⟨(c :: l).toArray⟩ := by
  apply ByteArray.ext; apply Array.toList_inj.1
  simp [ByteArray.data_append]
theorem sz_list (l : List UInt8) : (⟨l.toArray⟩ : ByteArray).size = l.length := by simp [ByteArray.size]

set_option maxRecDepth 30000 in
set_option maxHeartbeats 2000000 in
theorem bytes_step (D : Nat) (IH : BytesOk D) : BytesOk (D + 1) := by
  rintro ⟨k, n, s, c⟩ xv B w hD hok hB hx hlen
  simp only at hD hok hx hlen ⊢
  have HIH := Lib.hid IH
  have HX := Lib.hid hx
  have HOK := Lib.hid hok
  obtain ⟨xa, xc, rfl⟩ := hx.shape
  have hn := hok.1
  have hcl := hok.2.2.1
  have hsl := hok.2.1
  simp only at hn hcl hsl
  have hlI : (c.len : Int) ≤ 268435456 := by omega
  have hsI : (s.size : Int) ≤ 268435456 := by omega
  obtain ⟨w1, hw1⟩ : ∃ w1, w1 = w.alloc (.cells #[.int .i64 k, .int .u64 n, .string s, .slice xa c.len xc] 46) := ⟨_, rfl⟩
  have hbl := Lib.hid (show w1.heap[w.heap.size]? = some (.cells #[.int .i64 k, .int .u64 n, .string s, .slice xa c.len xc] 46 (0, 0)) by rw [hw1]; exact heap_alloc_new w _)
  have hb1 : Hid (Below w.heap.size w w1) := Lib.hid (by rw [hw1]; exact (Below.refl _ w).alloc (Nat.le_refl _) _)
  have hl1 : Hid (w.heap.size < w1.heap.size) := Lib.hid (by rw [hw1]; simp)
  clear IH hx hok
  unfold nodeV
  by_cases hk0 : k = 0
  · subst hk0
    obtain ⟨N, rfl⟩ : ∃ N : Nat, n = (N : Int) := ⟨n.toNat, by omega⟩
    have hNl : N < 18446744073709551616 := by omega
    have hnl := numL_len N 8 (by omega)
    have hs4 := szL_len (numL N).length (by omega)
    have hnum := Lib.hid (numberS_ref N w1 hNl)
    obtain ⟨A, hA⟩ : ∃ A : ByteArray, A = ⟨(numL N).toArray⟩ := ⟨_, rfl⟩
    have hAs : A.size = (numL N).length := by rw [hA, sz_list]
    rw [← hA] at hnum
    obtain ⟨Z, hZ⟩ : ∃ Z : ByteArray, Z = ⟨(szL A.size).toArray⟩ := ⟨_, rfl⟩
    have hZs : Z.size ≤ 4 := by rw [hZ, sz_list, hAs]; exact hs4
    have hsz := Lib.hid (fun w => sizeS_ref A.size w (by omega))
    rw [← hZ] at hsz
    have hAI : (A.size : Int) ≤ 8 := by omega
    have hZI : (Z.size : Int) ≤ 4 := by omega
    have HE : Hid (((⟨#[110]⟩ : ByteArray) ++ Z) ++ A = ⟨(nodeL 0 (N : Int) s c.len c.bytes).toArray⟩) := Lib.hid (by
      rw [hZ, hA, bytes3, sz_list]; simp [nodeL])
    clear hNl hnl hs4 hA hAs hZ hn hlen
    go_enter Tryd.func45, Tryd.ntmps45
    go_wp2_with fail
    rw [← hw1]
    clear hw1
    refine hnum.out.mono ?_
    rintro e w2 ⟨rfl, hb2⟩
    have HB2 := Lib.hid (hb1.out.trans (hb2.mono hb1.out.size))
    clear hb2 hnum
    go_wp2_with fail
    refine (hsz.out w2).mono ?_
    rintro e w3 ⟨rfl, hb3⟩
    have HB3 := Lib.hid (HB2.out.trans (hb3.mono HB2.out.size))
    clear hb3 hsz
    go_wp2_with fail
    rw [HE.out]
    go_ret
    exact ⟨rfl, HB3.out⟩
  by_cases hk1 : k = 1
  · subst hk1
    have hs4 := szL_len s.size hsl
    obtain ⟨Z, hZ⟩ : ∃ A : ByteArray, A = ⟨(szL s.size).toArray⟩ := ⟨_, rfl⟩
    have hZs : Z.size ≤ 4 := by rw [hZ, sz_list]; exact hs4
    have hsz := Lib.hid (sizeS_ref s.size w1.drew hsl)
    rw [← hZ] at hsz
    have hZI : (Z.size : Int) ≤ 4 := by omega
    have HE : Hid (((⟨#[115]⟩ : ByteArray) ++ Z) ++ s = ⟨(nodeL 1 n s c.len c.bytes).toArray⟩) := Lib.hid (by
      apply ByteArray.ext; apply Array.toList_inj.1
      rw [hZ]; simp [nodeL, ByteArray.data_append])
    obtain ⟨_, _, x2, _, _, _, _, _⟩ := block4' hbl.out
    clear hs4 hZ hlen
    go_enter Tryd.func45, Tryd.ntmps45
    go_upto_region 6 with (fail)
    rw [← hw1]
    clear hw1
    go_region_with ((go_at_call 68; refine hsz.out.mono ?_; rintro e w4 ⟨rfl, hb4⟩; have x4 := cellB hb4 x2))
    all_goals
      have HB4 := Lib.hid (hb1.out.trans ((Below.refl w1.heap.size w1).drew.trans hb4 |>.mono hb1.out.size))
      go_wp2_with fail
      rw [HE.out]
      go_ret
      exact ⟨rfl, HB4.out⟩
  · have hkb0 : (k == 0) = false := by simpa using hk0
    have hkb1 : (k == 1) = false := by simpa using hk1
    have hs4 := szL_len c.len hcl
    obtain ⟨L0, hL0⟩ : ∃ L0, nodeL k n s c.len c.bytes = L0 := ⟨_, rfl⟩
    rw [hL0] at hlen ⊢
    have hL1 : 108 :: (szL c.len ++ c.bytes) = L0 := by rw [← hL0, nodeL, if_neg hk0, if_neg hk1]
    obtain ⟨Z, hZ⟩ : ∃ A : ByteArray, A = ⟨(szL c.len).toArray⟩ := ⟨_, rfl⟩
    have hZs : Z.size ≤ 4 := by rw [hZ, sz_list]; exact hs4
    have hsz := Lib.hid (sizeS_ref c.len w1 hcl)
    rw [← hZ] at hsz
    have hZI : (Z.size : Int) ≤ 4 := by omega
    have HS0 : Hid (((⟨#[108]⟩ : ByteArray) ++ Z).data.toList ++ (c.drop 0).bytes = L0) := Lib.hid (by
      rw [hZ, bytes2, ← hL1]; simp [F.drop])
    have HZL : Hid (((⟨#[108]⟩ : ByteArray) ++ Z).size ≤ L0.length) := Lib.hid (by
      have := congrArg List.length HS0.out
      rw [List.length_append] at this
      simp only [Array.length_toList, ByteArray.size_data] at this
      omega)
    clear hs4 hZ hL1 hL0
    go_enter Tryd.func45, Tryd.ntmps45
    go_wp2_with fail
    rw [← hw1]
    clear hw1
    refine hsz.out.mono ?_
    rintro e w2 ⟨rfl, hb2⟩
    have HB2 := Lib.hid hb2
    clear hb2 hsz
    go_wp2_with fail
    go_loopw [4, 5] (BtRel c L0 w1) (fun _ i _ => c.len - (intOf i).toNat)
    case atStart => exact ⟨0, _, rfl, by omega, rfl, HZL.out, HS0, HB2.out⟩
    case round =>
      obtain ⟨j, A, rfl, hj, rfl, hA, hAm, hb⟩ := hrel
      obtain ⟨_, _, _, x3, _, _, _, _⟩ := block4' (blockB hbl.out hl1.out hb)
      have hbw : Below w.heap.size w wr := hb1.out.trans (hb.mono hb1.out.size)
      have hAI : (A.size : Int) ≤ 16777216 := by omega
      by_cases hlt : j < c.len
      · have hj0 : (0 : Int) ≤ (j : Int) := by omega
        have hjI : (j : Int) < (c.len : Int) := by omega
        obtain ⟨g, o, cap, hkv, hgB, hlx⟩ := HX.out.lies (by omega)
        injection hkv with e1 _ e2
        subst e1 e2
        obtain ⟨k1, n1, s1, c1, hd1⟩ := F.drop_at c j hlt
        have hlx2 := (Lies.drop j c g o hlx).below hgB (hbw.mono hB)
        rw [hd1] at hlx2
        obtain ⟨⟨v1, p0, p1, p2, p3, hkk⟩, _⟩ := lies_cons.1 hlx2
        obtain ⟨a1, b1, rfl⟩ := hkk.shape
        have hdp : c1.deep + 1 ≤ c.deep := by
          have e1 := F.drop_deep c j
          rw [hd1] at e1
          simp only [F.deep] at e1
          omega
        have hokd := F.drop_ok c j HOK.out.2.2.2
        rw [hd1] at hokd
        have hst : A.data.toList ++ (nodeL k1 n1 s1 c1.len c1.bytes ++ (c.drop (j + 1)).bytes) = L0 := by
          rw [← hAm.out, hd1]; rfl
        have hl2 := congrArg List.length hst
        simp only [List.length_append, Array.length_toList, ByteArray.size_data] at hl2
        have hcall := Lib.hid (HIH.out ⟨k1, n1, s1, c1⟩ (.slice a1 c1.len b1) B wr (by simp only; omega) ⟨hokd.1, hokd.2.1, hokd.2.2.1, hokd.2.2.2.1⟩ (by have := hbw.size; omega) hkk (by simp only; omega))
        simp only at hcall
        obtain ⟨T, hT⟩ : ∃ T : ByteArray, T = ⟨(nodeL k1 n1 s1 c1.len c1.bytes).toArray⟩ := ⟨_, rfl⟩
        rw [← hT] at hcall
        have HST : Hid ((A ++ T).data.toList ++ (c.drop (j + 1)).bytes = L0) := Lib.hid (by
          rw [hT, ByteArray.data_append, Array.toList_append, ← hst]; simp)
        have hTs : A.size + T.size ≤ L0.length := by
          have h1 := congrArg List.length HST.out
          rw [List.length_append] at h1
          simp only [Array.length_toList, ByteArray.size_data, ByteArray.size_append] at h1
          omega
        have hTI : (T.size : Int) ≤ 16777216 := by omega
        unfold nodeV at hcall
        clear hlx hlx2 hkk hd1 hokd hdp hst hl2 hT
        go_wp2_with fail
        refine hcall.out.mono ?_
        rintro e w4 ⟨rfl, hb4⟩
        have HB4 := Lib.hid (hb.trans (hb4.mono hb.size))
        clear hcall hb4
        go_wp2_with fail
        go_roundw
        case rel => exact ⟨j + 1, A ++ T, by go_num, by omega, rfl, by rw [ByteArray.size_append]; exact hTs, HST, HB4.out⟩
        case measure => rw [intOf_int, intOf_int]; omega
      · have hge : ¬ ((j : Int) < (c.len : Int)) := by omega
        have HE : Hid (A = ⟨L0.toArray⟩) := Lib.hid (by
          have := hAm.out
          rw [show j = c.len by omega, F.drop_end, F.bytes, List.append_nil] at this
          apply ByteArray.ext; apply Array.toList_inj.1
          rw [← this])
        go_wp2_with fail
        rw [HE.out]
        go_ret
        exact ⟨rfl, hbw⟩
theorem bytes_ok (D : Nat) : BytesOk D := by
  induction D with
  | zero => intro _ _ _ _ h; exact absurd h (Nat.not_lt_zero _)
  | succ D ih => exact bytes_step D ih
end Go.Proofs.YtpkkdjmcabefbaaDoor.Cod
namespace Go.Proofs.YtpkkdjmcabefbaaDoor.Cod
open Go.RowKit

set_option maxRecDepth 30000 in
set_option maxHeartbeats 1000000 in
theorem write_ref (x : Nd) (xv : Value) (w : World) (hok : x.ok) (hd : x.kids.deep ≤ 1000000) (hx : KidsAt w (· < w.heap.size) x.kids xv) (hlen : (nodeL x.k x.n x.s x.kids.len x.kids.bytes).length ≤ 16777216)
    (r : Bool) (S : ByteArray) (hr : x.right 20 = r) (hS : S = if r then ⟨(nodeL x.k x.n x.s x.kids.len x.kids.bytes).toArray⟩ else ⟨#[]⟩) :
    Calls Tryd.prog 25 #[nodeV x.k x.n x.s xv] w fun e w' => e = .returned (.tuple #[.string S, .bool r]) ∧ Below w.heap.size w w' := by
  obtain ⟨xa, xc, rfl⟩ := hx.shape
  obtain ⟨w1, hw1⟩ : ∃ w1, w1 = w.alloc (.cells #[.int .i64 x.k, .int .u64 x.n, .string x.s, .slice xa x.kids.len xc] 46) := ⟨_, rfl⟩
  have hbl : w1.heap[w.heap.size]? = some (.cells #[.int .i64 x.k, .int .u64 x.n, .string x.s, .slice xa x.kids.len xc] 46 (0, 0)) := by rw [hw1]; exact heap_alloc_new w _
  have hb1 : Hid (Below w.heap.size w w1) := Lib.hid (by rw [hw1]; exact (Below.refl _ w).alloc (Nat.le_refl _) _)
  have hl1 : w.heap.size < w1.heap.size := by rw [hw1]; simp
  have hx1 : Hid (KidsAt w1 (· < w.heap.size) x.kids (.slice xa x.kids.len xc)) := Lib.hid (hx.below hb1.out)
  have hcall := Lib.hid (rright_prog x (.slice xa x.kids.len xc) w1 hok hd (hx1.out.mono (fun b hb => by omega) (fun _ _ => rfl)))
  rw [hr] at hcall
  have HOK := Lib.hid hok
  have HS := Lib.hid hS
  have HLE := Lib.hid hlen
  unfold nodeV at hcall ⊢
  clear hx hok hr hS hlen
  cases r with
  | false =>
    have hse : Hid (S = ⟨#[]⟩) := Lib.hid (by rw [HS.out]; rfl)
    rw [hse.out]
    go_enter Tryd.func25, Tryd.ntmps25
    go_wp2_with fail
    rw [← hw1]
    clear hw1
    refine hcall.out.mono ?_
    rintro e w2 ⟨rfl, hb2⟩
    have HB2 := Lib.hid (hb1.out.trans (hb2.mono hb1.out.size))
    clear hcall hb2
    go_wp2_with fail
    go_ret2
    exact ⟨rfl, HB2.out⟩
  | true =>
    go_enter Tryd.func25, Tryd.ntmps25
    go_wp2_with fail
    rw [← hw1]
    clear hw1
    refine hcall.out.mono ?_
    rintro e w2 ⟨rfl, hb2⟩
    obtain ⟨x0, x1, x2, x3, _, _, _, _⟩ := block4' (blockP hb2 hbl)
    have hby := Lib.hid (bytes_ok (x.kids.deep + 1) x (.slice xa x.kids.len xc) w.heap.size w2 (by omega) HOK.out (by have := hb2.size; omega) (hx1.out.below (hb2.mono (by omega))) HLE.out)
    have hse : Hid (S = ⟨(nodeL x.k x.n x.s x.kids.len x.kids.bytes).toArray⟩) := Lib.hid (by rw [HS.out]; rfl)
    rw [← hse.out] at hby
    have hSs : S.size ≤ 16777216 := by rw [hse.out, sz_list]; exact HLE.out
    have hSI : ¬ (16777216 : Int) < (S.size : Int) := by omega
    have HB2 := Lib.hid (hb1.out.trans (hb2.mono hb1.out.size))
    unfold nodeV at hby
    clear hcall hb2 hSs
    go_wp2_with fail
    refine hby.out.mono ?_
    rintro e w3 ⟨rfl, hb3⟩
    have HB3 := Lib.hid (HB2.out.trans (hb3.mono HB2.out.size))
    clear hb3 hby
    go_wp2_with fail
    go_ret2
    exact ⟨rfl, HB3.out⟩
end Go.Proofs.YtpkkdjmcabefbaaDoor.Cod
