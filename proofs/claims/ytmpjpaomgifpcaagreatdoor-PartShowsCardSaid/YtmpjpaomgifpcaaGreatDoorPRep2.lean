/- part's leads, leaf, fork, joined. -/
import Derived.Test.YtmpjpaomgifpcaaGreatDoorPRep
namespace Go.Proofs.YtmpjpaomgifpcaaGreatDoor
open Go.RowKit

set_option maxRecDepth 30000 in
set_option maxHeartbeats 2000000 in
theorem leads_prog (k : ByteArray) (n : Nat) (b : Nat) (fk : ByteArray) (p : Nat) (s : Bool) (w : World) (hk : k.size = 32) (hf : fk.size = 32) (hp : p < 256)
    (c2 : w.cell? ⟨b, 2, none⟩ = some (.string fk)) (c4 : w.cell? ⟨b, 4, none⟩ = some (.int .i64 p)) :
    Calls Tryz.prog 83 #[askV k n, pp b, .int .u8 (bitN s)] w fun e w' => e = .returned (.bool (leadB (ks k) n (ks fk) p s)) ∧ Below w.heap.size w w' := by
  have hcom := Lib.hid (fun W => com_prog k fk W hk hf)
  have hbit := Lib.hid (fun W => bit_prog k p W hp (by omega))
  obtain ⟨C, hC⟩ : ∃ C, C = comL (ks k) (ks fk) := ⟨_, rfl⟩
  obtain ⟨r, hr⟩ : ∃ r, r = bitL (ks k) p := ⟨_, rfl⟩
  unfold leadB askV pp
  rw [← hC] at hcom ⊢
  rw [← hr] at hbit ⊢
  clear hC hr hk hf
  have a2 := cellA (.cells #[.string k, .int .i64 n] 46) c2
  have a4 := cellA (.cells #[.string k, .int .i64 n] 46) c4
  have hb1 : Below w.heap.size w (w.alloc (.cells #[.string k, .int .i64 n] 46)) := (Below.refl _ _).alloc (Nat.le_refl _) _
  have HB1 := Lib.hid hb1
  clear hb1 c2 c4
  by_cases hnp : n ≤ p
  · have hI1 : ¬ (p : Int) < (n : Int) := by omega
    have hI2 : (n : Int) ≤ (p : Int) := by omega
    have hI3 : decide ((n : Int) ≤ (p : Int)) = true := decide_eq_true hI2
    rw [show min n p = n by omega, show decide (n ≤ p) = true from decide_eq_true hnp, Bool.true_or, Bool.and_true]
    cases hc : decide (C < n) with
    | true =>
      have hcI : (C : Int) < (n : Int) := by have := of_decide_eq_true hc; omega
      go_enter Tryz.func83, Tryz.ntmps83
      go_wp2_with fail
      go_quiet ((go_at_call 82; exact quietS (hcom.out _)))
      all_goals (
        go_wp2
        go_ret
        exact ⟨rfl, HB1.out.trans ((drewN_below _ _).mono HB1.out.size)⟩)
    | false =>
      have hcI : ¬ (C : Int) < (n : Int) := by have := of_decide_eq_false hc; omega
      go_enter Tryz.func83, Tryz.ntmps83
      go_wp2_with fail
      go_quiet ((go_at_call 82; exact quietS (hcom.out _)))
      all_goals (
        go_wp2_with fail
        go_quiet (fail)
        go_wp2
        go_ret
        exact ⟨rfl, HB1.out.trans ((Same.below (Same.trans ⟨_, rfl⟩ ⟨_, rfl⟩) _).mono HB1.out.size)⟩)
  · have hI1 : (p : Int) < (n : Int) := by omega
    have hI2 : ¬ (n : Int) ≤ (p : Int) := by omega
    have hI3 : decide ((n : Int) ≤ (p : Int)) = false := decide_eq_false hI2
    have hI4 : decide (n ≤ p) = false := decide_eq_false hnp
    rw [show min n p = p by omega, hI4, Bool.false_or]
    cases hc : decide (C < p) with
    | true =>
      have hcI : (C : Int) < (p : Int) := by have := of_decide_eq_true hc; omega
      go_enter Tryz.func83, Tryz.ntmps83
      go_wp2_with fail
      go_quiet ((go_at_call 82; exact quietS (hcom.out _)))
      all_goals (
        go_wp2
        go_ret
        exact ⟨rfl, HB1.out.trans ((drewN_below _ _).mono HB1.out.size)⟩)
    | false =>
      have hcI : ¬ (C : Int) < (p : Int) := by have := of_decide_eq_false hc; omega
      have hrs : (bitN r == bitN s) = (r == s) := by cases r <;> cases s <;> rfl
      go_enter Tryz.func83, Tryz.ntmps83
      go_wp2_with fail
      go_quiet ((go_at_call 82; exact quietS (hcom.out _)))
      all_goals (
        go_wp2_with fail
        go_quiet ((go_at_call 95; exact quietE2 (hbit.out _)))
        go_wp2
        go_ret
        exact ⟨by rw [← hrs]; rfl, HB1.out.trans ((Same.below (Same.trans ⟨_, rfl⟩ ⟨_, rfl⟩) _).mono HB1.out.size)⟩)

theorem put_bad (k v : ByteArray) (m : Option Tr) (x : Value) (w : World) (h : MAt w m x) (hk : k.size ≠ 32) :
    Calls Tryz.prog 26 #[x, .string k, .string v] w fun e w' => e = .returned x ∧ w = w' := by
  have hkI : ((k.size : Int) != 32) = true := by simp; omega
  obtain ⟨q, rfl⟩ : ∃ q, x = .pointer q := by
    rcases h with ⟨h, _⟩ | ⟨b, _, h, _⟩
    · exact ⟨_, h⟩
    · exact ⟨_, h⟩
  clear h hk
  go_enter Tryz.func26, Tryz.ntmps26
  go_wp2
  go_ret
  exact ⟨rfl, rfl⟩

set_option maxHeartbeats 1000000 in
/-- A leaf by a map of one pair. -/
theorem leaf_part (k v : ByteArray) (w : World) (hk : k.size = 32) (hv : v.size ≤ 5000) (hst : Start w) :
    Calls Tryz.prog 62 #[.string k, .string v] w (TrRes w (.leaf k v)) := by
  have HP := Lib.hid (fun (W : World) (x : Value) (h : MAt W none x) (hb : Below w.heap.size w W) => put_prog k v none x W (by omega) hv trivial (Nat.zero_le _) h (hst.later hb))
  have he : MT.put k v none = some (.leaf k v) := by unfold MT.put; rw [if_pos hk]; rfl
  rw [he] at HP
  clear he hst hk
  go_enter Tryz.func62, Tryz.ntmps62
  go_wp2_with fail
  refine (new_trie _).mono ?_
  rintro e w1 ⟨x1, rfl, h1, hb1⟩
  have H1 := Lib.hid h1
  have B1 := Lib.hid hb1
  clear h1 hb1
  go_wp2_with fail
  refine (HP.out w1 x1 H1.out B1.out).mono ?_
  rintro e w2 ⟨x2, rfl, h2, hb2⟩
  have H2 := Lib.hid h2
  have B2 := Lib.hid (B1.out.trans (hb2.mono B1.out.size))
  clear h2 hb2
  go_wp2_with fail
  refine (top_trie H2.out).mono ?_
  rintro e w3 ⟨v3, rfl, hr3, hb3⟩
  obtain ⟨d, rfl, hd⟩ := hr3
  have HD := Lib.hid hd
  have B3 := Lib.hid (B2.out.trans (hb3.mono B2.out.size))
  clear hd hb3
  unfold pp
  go_wp2
  go_ret
  exact ⟨d, rfl, HD.out, B3.out⟩
set_option maxHeartbeats 1000000 in
theorem leaf_none (k v : ByteArray) (w : World) (hk : k.size ≠ 32) :
    Calls Tryz.prog 62 #[.string k, .string v] w fun e w' => e = .returned (.pointer none) ∧ Below w.heap.size w w' := by
  have HP := Lib.hid (fun (W : World) (x : Value) (h : MAt W none x) => put_bad k v none x W h hk)
  clear hk
  go_enter Tryz.func62, Tryz.ntmps62
  go_wp2_with fail
  refine (new_trie _).mono ?_
  rintro e w1 ⟨x1, rfl, h1, hb1⟩
  have H1 := Lib.hid h1
  have B1 := Lib.hid hb1
  clear h1 hb1
  go_wp2_with fail
  refine (HP.out w1 x1 H1.out).mono ?_
  rintro e w2 ⟨rfl, rfl⟩
  go_wp2_with fail
  refine (top_trie H1.out).mono ?_
  rintro e w3 ⟨v3, rfl, hr3, hb3⟩
  have hv3 : v3 = .pointer none := hr3
  subst hv3
  have B3 := Lib.hid (B1.out.trans (hb3.mono B1.out.size))
  clear hb3 hr3
  go_wp2
  go_ret
  exact ⟨rfl, B3.out⟩

def PtRes (w : World) (t : PT) (e : Ending) (w' : World) : Prop := ∃ d, e = .returned (pp d) ∧ PRep w' t d ∧ Below w.heap.size w w'
set_option maxRecDepth 30000 in
set_option maxHeartbeats 1000000 in
theorem fork_part (p : Nat) (k : ByteArray) (z o : PT) (bz bo : Nat) (w : World) (hp : p < 256) (hk : k.size = 32) (hzh : z.hash.size ≤ 1000) (hoh : o.hash.size ≤ 1000) (hz : PRep w z bz) (ho : PRep w o bo) (hst : Start w) :
    Calls Tryz.prog 81 #[.int .i64 p, .string k, pp bz, pp bo] w (PtRes w (.fork p k z o)) := by
  unfold pp
  obtain ⟨_, cz⟩ := PRep.cells hz
  obtain ⟨_, co⟩ := PRep.cells ho
  have HS := Lib.hid hst
  have HZ := Lib.hid hz
  have HO := Lib.hid ho
  clear hst hz ho
  go_enter Tryz.func81, Tryz.ntmps81
  go_wp2_with fail
  go_region_held3 (fun w' => w'.cell? ⟨bz, 7, none⟩ = some (.string z.hash) ∧ w'.cell? ⟨bo, 7, none⟩ = some (.string o.hash))
    (first | exact ⟨cz, co⟩ | exact ⟨cellD hb4 cz, cellD hb4 co⟩ | exact ⟨cellA _ (cellD hb4 cz), cellA _ (cellD hb4 co)⟩)
    ((go_at_call 113; refine (forkHash_prog p k z.hash o.hash _ (by omega) (by omega) (by omega) (by omega) (HS.out.later (Below.refl _ w).drew)).mono ?_; rintro e w4 ⟨rfl, hb4⟩))
  have hb5 : Below w.heap.size w w4 := (Below.refl w.heap.size w).drew.trans hb4
  go_wp2
  go_ret
  exact ⟨_, rfl, ⟨bz, bo, node_new w4 false k ⟨#[]⟩ p _ _ _, ((HZ.out.later hb5).later ((Below.refl _ w4).alloc (Nat.le_refl _) _)), ((HO.out.later hb5).later ((Below.refl _ w4).alloc (Nat.le_refl _) _))⟩, hb5.alloc hb5.size _⟩

set_option maxRecDepth 30000 in
set_option maxHeartbeats 1000000 in
theorem joined_part (p : Nat) (s t : PT) (b c : Nat) (w : World) (hp : p < 256) (hks : s.key.size = 32) (hkt : t.key.size = 32) (hsh : s.hash.size ≤ 1000) (hth : t.hash.size ≤ 1000) (hb : PRep w s b) (hc : PRep w t c) (hst : Start w) :
    Calls Tryz.prog 100 #[.int .i64 p, pp b, pp c] w (PtRes w (joinP p s t)) := by
  obtain ⟨cs, _⟩ := PRep.cells hb
  obtain ⟨ct, _⟩ := PRep.cells hc
  have HS := Lib.hid hst
  have HB := Lib.hid hb
  have HC := Lib.hid hc
  have HFST := Lib.hid (fun (k : ByteArray) (w : World) (hk : k.size = 32) (h1 : PRep w s b) (h2 : PRep w t c) (h3 : Start w) => fork_part p k s t b c w hp hk hsh hth h1 h2 h3)
  have HFTS := Lib.hid (fun (k : ByteArray) (w : World) (hk : k.size = 32) (h1 : PRep w t c) (h2 : PRep w s b) (h3 : Start w) => fork_part p k t s c b w hp hk hth hsh h1 h2 h3)
  have hbit := Lib.hid (fun W => bit_prog s.key p W hp (by omega))
  have hfs := Lib.hid (fun W => first_prog s.key p W hks (by omega))
  have hft := Lib.hid (fun W => first_prog t.key p W hkt (by omega))
  have Hz1 := Lib.hid (show (firstB s.key p).size = 32 by rw [firstB_size]; exact hks)
  have Hz2 := Lib.hid (show (firstB t.key p).size = 32 by rw [firstB_size]; exact hkt)
  clear hst hb hc hks hkt hsh hth
  obtain ⟨r, hr⟩ : ∃ r, r = bitL (ks s.key) p := ⟨_, rfl⟩
  unfold joinP
  rw [← hr] at hbit ⊢
  clear hr
  have h1 := bitN_one r
  unfold pp
  cases r with
  | true =>
    go_enter Tryz.func100, Tryz.ntmps100
    go_wp2_with fail
    refine (hbit.out _).mono ?_
    rintro e w1 ⟨rfl, rfl⟩
    go_wp2_with fail
    refine (hft.out _).mono ?_
    rintro e w2 ⟨rfl, hb2⟩
    go_wp2_with fail
    refine (HFTS.out _ w2 Hz2.out (HC.out.later hb2) (HB.out.later hb2) (HS.out.later hb2)).mono ?_
    rintro e w3 ⟨d, rfl, hd, hb3⟩
    unfold pp
    go_wp2
    go_ret
    exact ⟨d, rfl, hd, hb2.trans (hb3.mono hb2.size)⟩
  | false =>
    go_enter Tryz.func100, Tryz.ntmps100
    go_wp2_with fail
    refine (hbit.out _).mono ?_
    rintro e w1 ⟨rfl, rfl⟩
    go_wp2_with fail
    refine (hfs.out _).mono ?_
    rintro e w2 ⟨rfl, hb2⟩
    go_wp2_with fail
    refine (HFST.out _ w2 Hz1.out (HB.out.later hb2) (HC.out.later hb2) (HS.out.later hb2)).mono ?_
    rintro e w3 ⟨d, rfl, hd, hb3⟩
    unfold pp
    go_wp2
    go_ret
    exact ⟨d, rfl, hd, hb2.trans (hb3.mono hb2.size)⟩
end Go.Proofs.YtmpjpaomgifpcaaGreatDoor
