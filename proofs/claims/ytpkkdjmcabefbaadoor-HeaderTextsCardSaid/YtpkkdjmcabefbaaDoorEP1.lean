/- The program: headers' bytes, hashes and seals. -/
import Derived.Test.YtpkkdjmcabefbaaDoorELib
namespace Go.Proofs.YtpkkdjmcabefbaaDoor
open Go.RowKit
open Cod (F Nd nodeL nodeV KidsAt)
theorem pmacAt (H : SumOk) (key s : ByteArray) (w : World) (hk : key.size ≤ 10000) (hs : s.size ≤ 10000) (hst : Start w) (S : ByteArray) (hS : (⟨(macL key.data.toList s.data.toList).toArray⟩ : ByteArray) = S) :
    Calls Tryd.prog 47 #[.string key, .string s] w fun e w' => e = .returned (.string S) ∧ Below w.heap.size w w' := by subst hS; exact mac_prog H key s w hk hs hst
theorem psumAt (H : SumOk) (s : ByteArray) (w : World) (hs : s.size ≤ 100000) (hst : Start w) (S : ByteArray) (hS : (⟨(sumL s.data.toList).toArray⟩ : ByteArray) = S) :
    Calls Tryd.prog 48 #[.string s] w fun e w' => e = .returned (.string S) ∧ Below w.heap.size w w' := by subst hS; exact H s w hs hst
/-- The nodes of a header's fields, as a call leaves them. -/
def FldAt (w : World) (B : Nat) (h : Hd) (v : Value) : Prop := ∃ G, v = .slice (some ⟨G, 0, none⟩) 6 6 ∧ B ≤ G ∧ w.heap[G]? = some (.cells #[.int .i64 0, .int .u64 h.shard, .string ⟨#[]⟩, .slice none 0 0, .int .i64 0, .int .u64 h.seq, .string ⟨#[]⟩, .slice none 0 0, .int .i64 1, .int .u64 0, .string h.prev, .slice none 0 0, .int .i64 1, .int .u64 0, .string h.root, .slice none 0 0, .int .i64 0, .int .u64 h.who, .string ⟨#[]⟩, .slice none 0 0, .int .i64 0, .int .u64 h.stamp, .string ⟨#[]⟩, .slice none 0 0] 46 (0, 0))
theorem FldAt.kids {w : World} {B : Nat} {h : Hd} {v : Value} (k : FldAt w B h v) : KidsAt w (fun b => B ≤ b ∧ b < w.heap.size) (hdF h) v := by
  obtain ⟨G, rfl, hB, e⟩ := k
  refine .inr ⟨G, 0, 6, rfl, ⟨hB, (Array.getElem?_eq_some_iff.1 e).1⟩, ⟨_, _, e⟩, Nat.le_refl 6, ?_⟩
  unfold hdF hdR
  refine Cod.lies_cons.2 ⟨⟨_, ?_, ?_, ?_, ?_, Cod.KidsAt.nil _ _⟩, ?_⟩
  iterate 4 (· simp [World.cell?, e])
  refine Cod.lies_cons.2 ⟨⟨_, ?_, ?_, ?_, ?_, Cod.KidsAt.nil _ _⟩, ?_⟩
  iterate 4 (· simp [World.cell?, e])
  refine Cod.lies_cons.2 ⟨⟨_, ?_, ?_, ?_, ?_, Cod.KidsAt.nil _ _⟩, ?_⟩
  iterate 4 (· simp [World.cell?, e])
  refine Cod.lies_cons.2 ⟨⟨_, ?_, ?_, ?_, ?_, Cod.KidsAt.nil _ _⟩, ?_⟩
  iterate 4 (· simp [World.cell?, e])
  refine Cod.lies_cons.2 ⟨⟨_, ?_, ?_, ?_, ?_, Cod.KidsAt.nil _ _⟩, ?_⟩
  iterate 4 (· simp [World.cell?, e])
  refine Cod.lies_cons.2 ⟨⟨_, ?_, ?_, ?_, ?_, Cod.KidsAt.nil _ _⟩, trivial⟩
  all_goals simp [World.cell?, e]
set_option maxRecDepth 100000 in
theorem pis_prog (h : Hd) (m : Nat) (hok : h.Ok m) (hm : m ≤ 1000000) (w : World) : Calls Tryd.prog 17 #[hdV h] w fun e w' => e = .returned (.bool h.is) ∧ Below w.heap.size w w' := by
  have a1 : h.prev.size ≤ 1000000 := Nat.le_trans hok.2.2.1 hm
  have a2 : h.root.size ≤ 1000000 := Nat.le_trans hok.2.2.2.1 hm
  unfold hdV Hd.is
  by_cases h1 : h.prev.size = 32
  · by_cases h2 : h.root.size = 32
    · rw [decide_eq_true h1, decide_eq_true h2]
      have e1 : ((h.prev.size : Int) == 32) = true := by simp; omega
      have e2 : ((h.root.size : Int) == 32) = true := by simp; omega
      clear hok
      go_enter Tryd.func17, Tryd.ntmps17
      go_wp2
      go_ret
      exact ⟨rfl, (Below.refl _ _).alloc (Nat.le_refl _) _⟩
    · rw [decide_eq_true h1, decide_eq_false h2]
      have e1 : ((h.prev.size : Int) == 32) = true := by simp; omega
      have e2 : ((h.root.size : Int) == 32) = false := by simp; omega
      clear hok
      go_enter Tryd.func17, Tryd.ntmps17
      go_wp2
      go_ret
      exact ⟨rfl, (Below.refl _ _).alloc (Nat.le_refl _) _⟩
  · rw [decide_eq_false h1, Bool.false_and]
    have e1 : ((h.prev.size : Int) == 32) = false := by simp; omega
    clear hok
    go_enter Tryd.func17, Tryd.ntmps17
    go_wp2
    go_ret
    exact ⟨rfl, (Below.refl _ _).alloc (Nat.le_refl _) _⟩
set_option maxHeartbeats 2000000 in
set_option maxRecDepth 100000 in
theorem pfields_prog (h : Hd) (w : World) : Calls Tryd.prog 38 #[hdV h] w fun e w' => (∃ v, e = .returned v ∧ FldAt w' w.heap.size h v) ∧ Below w.heap.size w w' := by
  unfold hdV
  obtain ⟨W0, hW0⟩ : ∃ W0, W0 = w.alloc (.cells #[.int .u64 h.shard, .int .u64 h.seq, .string h.prev, .string h.root, .int .u64 h.who, .int .u64 h.stamp] 33) := ⟨_, rfl⟩
  have hb0 : Below w.heap.size w W0 := by rw [hW0]; exact (Below.refl _ _).alloc (Nat.le_refl _) _
  have hz0 : W0.heap[w.heap.size]? = some (.cells #[.int .u64 h.shard, .int .u64 h.seq, .string h.prev, .string h.root, .int .u64 h.who, .int .u64 h.stamp] 33 (0, 0)) := by rw [hW0]; exact heap_alloc_new _ _
  obtain ⟨c0, c1, c2, c3, c4, c5⟩ := cells6 hz0
  have HC0 : Hid (W0.cell? ⟨w.heap.size, 0, none⟩ = some (.int .u64 h.shard) ∧ W0.cell? ⟨w.heap.size, 1, none⟩ = some (.int .u64 h.seq) ∧ W0.cell? ⟨w.heap.size, 2, none⟩ = some (.string h.prev) ∧ W0.cell? ⟨w.heap.size, 3, none⟩ = some (.string h.root) ∧ W0.cell? ⟨w.heap.size, 4, none⟩ = some (.int .u64 h.who) ∧ W0.cell? ⟨w.heap.size, 5, none⟩ = some (.int .u64 h.stamp)) := Lib.hid ⟨c0, c1, c2, c3, c4, c5⟩
  have HC1 : Hid (W0.drew.cell? ⟨w.heap.size, 0, none⟩ = some (.int .u64 h.shard) ∧ W0.drew.cell? ⟨w.heap.size, 1, none⟩ = some (.int .u64 h.seq) ∧ W0.drew.cell? ⟨w.heap.size, 2, none⟩ = some (.string h.prev) ∧ W0.drew.cell? ⟨w.heap.size, 3, none⟩ = some (.string h.root) ∧ W0.drew.cell? ⟨w.heap.size, 4, none⟩ = some (.int .u64 h.who) ∧ W0.drew.cell? ⟨w.heap.size, 5, none⟩ = some (.int .u64 h.stamp)) := Lib.hid ⟨c0, c1, c2, c3, c4, c5⟩
  have HZc : Hid (W0.drew.heap[w.heap.size]? = some (.cells #[.int .u64 h.shard, .int .u64 h.seq, .string h.prev, .string h.root, .int .u64 h.who, .int .u64 h.stamp] 33 (0, 0))) := Lib.hid hz0
  have HBc : Hid (Below w.heap.size w W0.drew) := Lib.hid hb0.drew
  clear hb0 hz0
  go_enter Tryd.func38, Tryd.ntmps38
  go_wp2_with fail
  simp only [← hW0]
  clear hW0
  go_region_held3 (fun w' => w'.cell? ⟨w.heap.size, 0, none⟩ = some (.int .u64 h.shard) ∧ w'.cell? ⟨w.heap.size, 1, none⟩ = some (.int .u64 h.seq) ∧ w'.cell? ⟨w.heap.size, 2, none⟩ = some (.string h.prev) ∧ w'.cell? ⟨w.heap.size, 3, none⟩ = some (.string h.root) ∧ w'.cell? ⟨w.heap.size, 4, none⟩ = some (.int .u64 h.who) ∧ w'.cell? ⟨w.heap.size, 5, none⟩ = some (.int .u64 h.stamp))
    (first | with_reducible exact HC0.out | with_reducible exact HC1.out | with_reducible exact hcs | exact cells6A HZc.out _)
    (first
      | (go_at_call 56; refine (Cod.n_prog _ _).mono ?_; unfold nodeV; rintro e w3 ⟨rfl, hb3⟩; have HZc := Lib.hid ((hb3.block _ (block_lt HZc.out)).trans HZc.out); have hcs := cells6 HZc.out; have HBc := Lib.hid (HBc.out.trans (hb3.mono HBc.out.size)))
      | (go_at_call 39; refine (Cod.s_prog _ _).mono ?_; unfold nodeV; rintro e w3 ⟨rfl, hb3⟩; have HZc := Lib.hid ((hb3.block _ (block_lt HZc.out)).trans HZc.out); have hcs := cells6 HZc.out; have HBc := Lib.hid (HBc.out.trans (hb3.mono HBc.out.size)))
      | fail)
  go_wp2_with fail
  go_ret
  exact ⟨⟨_, rfl, _, rfl, HBc.out.size, heap_alloc_new _ _⟩, HBc.out.alloc HBc.out.size _⟩
set_option maxHeartbeats 2000000 in
set_option maxRecDepth 100000 in
theorem pbytes_prog (h : Hd) (m : Nat) (hok : h.Ok m) (hm : m ≤ 1000) (w : World) (b : Bool) (S : ByteArray) (hb : h.is = b) (hS : (if b then h.bytes else ⟨#[]⟩) = S) :
    Calls Tryd.prog 46 #[hdV h] w fun e w' => e = .returned (.tuple #[.string S, .bool b]) ∧ Below w.heap.size w w' := by
  have KI := Lib.hid (fun W => pis_prog h m hok (by omega) W)
  have KF := Lib.hid (fun W => pfields_prog h W)
  have KL := Lib.hid (fun v W (hk : KidsAt W (· < W.heap.size) (hdF h) v) => Cod.l_prog (hdF h) v (· < W.heap.size) W (by simp [hdF, hdR, F.deep]) (by rw [hdF_len]; unfold Cod.Lim; omega) (hok.nd (by omega)).2.2.2 hk (fun _ h => h))
  unfold Cod.LRes at KL
  rw [hdF_len] at KL
  have KW := Lib.hid (fun v W (hv : KidsAt W (· < W.heap.size) (hdF h) v) => Cod.write_prog 2 0 ⟨#[]⟩ (hdF h) v W (hok.nd (by omega)) hv (by have := hok.hlen (by omega); unfold hdB at this; rw [hdF_len]; unfold Cod.Fits; omega) true h.bytes (hd_right h) rfl)
  unfold nodeV at KW
  rw [hb] at KI
  unfold hdV at KI KF ⊢
  obtain ⟨W0, hW0⟩ : ∃ W0, W0 = w.alloc (.cells #[.int .u64 h.shard, .int .u64 h.seq, .string h.prev, .string h.root, .int .u64 h.who, .int .u64 h.stamp] 33) := ⟨_, rfl⟩
  have HB0 := Lib.hid (show Below w.heap.size w W0 by rw [hW0]; exact (Below.refl _ _).alloc (Nat.le_refl _) _)
  have HZ0 : Hid (W0.heap[w.heap.size]? = some (.cells #[.int .u64 h.shard, .int .u64 h.seq, .string h.prev, .string h.root, .int .u64 h.who, .int .u64 h.stamp] 33 (0, 0))) := Lib.hid (by rw [hW0]; exact heap_alloc_new _ _)
  obtain ⟨c0, c1, c2, c3, c4, c5⟩ := cells6 HZ0.out
  clear hok hm hb
  go_enter Tryd.func46, Tryd.ntmps46
  go_upto_region 1 with fail
  simp only [← hW0]
  clear hW0
  go_wp2_with fail
  refine (KI.out _).mono ?_
  rintro e w1 ⟨rfl, hb1⟩
  have HZ1 := Lib.hid ((hb1.block _ (block_lt HZ0.out)).trans HZ0.out)
  have HB1 := Lib.hid (HB0.out.trans (hb1.mono HB0.out.size))
  clear c0 c1 c2 c3 c4 c5 hb1
  obtain ⟨c0, c1, c2, c3, c4, c5⟩ := cells6 HZ1.out
  cases b with
  | false =>
    rw [if_neg (by decide)] at hS
    subst hS
    go_wp2_with fail
    go_ret2
    exact ⟨rfl, HB1.out⟩
  | true =>
    rw [if_pos rfl] at hS
    have HS := Lib.hid hS
    clear hS
    go_wp2_with fail
    refine (KF.out _).mono ?_
    rintro e w2 ⟨⟨v, rfl, hf⟩, hb2⟩
    have HB2 := Lib.hid (HB1.out.trans (hb2.mono HB1.out.size))
    have hk := hf.kids.mono (S' := fun b => b < w2.heap.size) (fun _ h => h.2) (fun _ _ => rfl)
    obtain ⟨G, rfl, _, _⟩ := hf
    have HK := Lib.hid hk
    clear hk hb2
    go_wp2_with fail
    refine (KL.out _ _ HK.out).mono ?_
    rintro e w3 ⟨a3, c3, rfl, hb3, hk3⟩
    have HB3 := Lib.hid (HB2.out.trans (hb3.mono HB2.out.size))
    have HK3 := Lib.hid (hk3.mono (S' := fun b => b < w3.heap.size) (fun _ h => h.2) (fun _ _ => rfl))
    clear hb3 hk3
    go_wp2_with fail
    refine (KW.out _ _ HK3.out).mono ?_
    rintro e w4 ⟨rfl, hb4⟩
    have HB4 := Lib.hid (HB3.out.trans (hb4.mono HB3.out.size))
    clear hb4
    go_wp2_with fail
    go_ret2
    exact ⟨by rw [← HS.out]; rfl, HB4.out⟩
set_option maxHeartbeats 2000000 in
set_option maxRecDepth 100000 in
theorem phash_prog (H : SumOk) (h : Hd) (m : Nat) (hok : h.Ok m) (hm : m ≤ 1000) (w : World) (hst : Start w) : Calls Tryd.prog 28 #[hdV h] w fun e w' => e = .returned (.string h.hash) ∧ Below w.heap.size w w' := by
  have hsz : (h.bytes).size ≤ 5000 := by unfold Hd.bytes; rw [mk_size]; have := hok.hlen (by omega); omega
  obtain ⟨b, hb⟩ : ∃ b, h.is = b := ⟨_, rfl⟩
  obtain ⟨S, hS⟩ : ∃ S, (if b then h.bytes else ⟨#[]⟩) = S := ⟨_, rfl⟩
  have KB := Lib.hid (fun W => pbytes_prog h m hok hm W b S hb hS)
  obtain ⟨R, hR⟩ : ∃ R, h.hash = R := ⟨_, rfl⟩
  rw [hR]
  have HR := Lib.hid hR
  have HB := Lib.hid hb
  have HSS := Lib.hid hS
  have HSZ := Lib.hid hsz
  have HH := Lib.hid H
  have HST := Lib.hid hst
  clear H hst
  unfold hdV at KB ⊢
  obtain ⟨W0, hW0⟩ : ∃ W0, W0 = w.alloc (.cells #[.int .u64 h.shard, .int .u64 h.seq, .string h.prev, .string h.root, .int .u64 h.who, .int .u64 h.stamp] 33) := ⟨_, rfl⟩
  have HB0 := Lib.hid (show Below w.heap.size w W0 by rw [hW0]; exact (Below.refl _ _).alloc (Nat.le_refl _) _)
  have HZ0 : Hid (W0.heap[w.heap.size]? = some (.cells #[.int .u64 h.shard, .int .u64 h.seq, .string h.prev, .string h.root, .int .u64 h.who, .int .u64 h.stamp] 33 (0, 0))) := Lib.hid (by rw [hW0]; exact heap_alloc_new _ _)
  obtain ⟨c0, c1, c2, c3, c4, c5⟩ := cells6 HZ0.out
  clear hok hm hb hS hR hsz
  go_enter Tryd.func28, Tryd.ntmps28
  go_upto_region 1 with fail
  simp only [← hW0]
  clear hW0
  go_wp2_with fail
  refine (KB.out _).mono ?_
  rintro e w1 ⟨rfl, hb1⟩
  have HB1 := Lib.hid (HB0.out.trans (hb1.mono HB0.out.size))
  clear c0 c1 c2 c3 c4 c5 hb1
  cases b with
  | false =>
    have e : (⟨#[]⟩ : ByteArray) = R := by rw [← HR.out]; unfold Hd.hash; rw [HB.out]; rfl
    subst e
    go_wp2_with fail
    go_ret
    exact ⟨rfl, HB1.out⟩
  | true =>
    have e : (⟨(sumL S.data.toList).toArray⟩ : ByteArray) = R := by rw [← HR.out, ← HSS.out]; unfold Hd.hash; rw [HB.out]; rfl
    have hs : S.size ≤ 5000 := by rw [← HSS.out]; exact HSZ.out
    have E := Lib.hid e
    have HSL := Lib.hid hs
    clear e hs
    go_wp2_with fail
    refine (psumAt HH.out S _ (Nat.le_trans HSL.out (by decide)) (HST.out.later HB1.out) R E.out).mono ?_
    rintro e w2 ⟨rfl, hb2⟩
    have HB2 := Lib.hid (HB1.out.trans (hb2.mono HB1.out.size))
    clear hb2
    go_wp2_with fail
    go_ret
    exact ⟨rfl, HB2.out⟩
set_option maxHeartbeats 2000000 in
set_option maxRecDepth 100000 in
theorem psign_prog (H : SumOk) (key : ByteArray) (hkey : key.size ≤ 10000) (h : Hd) (m : Nat) (hok : h.Ok m) (hm : m ≤ 1000) (w : World) (hst : Start w) :
    Calls Tryd.prog 26 #[.string key, hdV h] w fun e w' => e = .returned (.tuple #[sgV (signS key h), .bool h.is]) ∧ Below w.heap.size w w' := by
  have hsz : (h.bytes).size ≤ 5000 := by unfold Hd.bytes; rw [mk_size]; have := hok.hlen (by omega); omega
  obtain ⟨b, hb⟩ : ∃ b, h.is = b := ⟨_, rfl⟩
  obtain ⟨S, hS⟩ : ∃ S, (if b then h.bytes else ⟨#[]⟩) = S := ⟨_, rfl⟩
  have KB := Lib.hid (fun W => pbytes_prog h m hok hm W b S hb hS)
  rw [hb]
  have HB := Lib.hid hb
  have HSS := Lib.hid hS
  have HSZ := Lib.hid hsz
  have HKY := Lib.hid hkey
  have HH := Lib.hid H
  have HST := Lib.hid hst
  clear H hst
  unfold hdV at KB ⊢
  obtain ⟨W0, hW0⟩ : ∃ W0, W0 = (w.alloc (.cells #[.int .u64 h.shard, .int .u64 h.seq, .string h.prev, .string h.root, .int .u64 h.who, .int .u64 h.stamp] 33)).alloc (.cells #[.int .u64 0, .int .u64 0, .string ⟨#[]⟩, .string ⟨#[]⟩, .int .u64 0, .int .u64 0, .string ⟨#[]⟩] 35) := ⟨_, rfl⟩
  have HB0 := Lib.hid (show Below w.heap.size w W0 by rw [hW0]; exact ((Below.refl _ _).alloc (Nat.le_refl _) _).alloc (by simp) _)
  have HZ0 : Hid (W0.heap[w.heap.size]? = some (.cells #[.int .u64 h.shard, .int .u64 h.seq, .string h.prev, .string h.root, .int .u64 h.who, .int .u64 h.stamp] 33 (0, 0))) := Lib.hid (by rw [hW0]; exact (Below.heap_alloc _ _ _ (by simp)).trans (heap_alloc_new _ _))
  have HY0 : Hid (W0.heap[w.heap.size + 1]? = some (.cells #[.int .u64 0, .int .u64 0, .string ⟨#[]⟩, .string ⟨#[]⟩, .int .u64 0, .int .u64 0, .string ⟨#[]⟩] 35 (0, 0))) := Lib.hid (by rw [hW0]; simpa using heap_alloc_new (w.alloc (.cells #[.int .u64 h.shard, .int .u64 h.seq, .string h.prev, .string h.root, .int .u64 h.who, .int .u64 h.stamp] 33)) _)
  obtain ⟨c0, c1, c2, c3, c4, c5⟩ := cells6 HZ0.out
  clear hok hm hb hS hsz hkey
  go_enter Tryd.func26, Tryd.ntmps26
  go_upto_region 1 with fail
  simp only [← hW0]
  clear hW0
  go_wp2_with fail
  refine (KB.out _).mono ?_
  rintro e w1 ⟨rfl, hb1⟩
  have HB1 := Lib.hid (HB0.out.trans (hb1.mono HB0.out.size))
  have HZ1 := Lib.hid ((hb1.block _ (block_lt HZ0.out)).trans HZ0.out)
  have HY1 := Lib.hid ((hb1.block _ (block_lt HY0.out)).trans HY0.out)
  clear c0 c1 c2 c3 c4 c5 hb1
  obtain ⟨c0, c1, c2, c3, c4, c5⟩ := cells6 HZ1.out
  obtain ⟨d0, d1, d2, d3, d4, d5, d6⟩ := cells7 HY1.out
  obtain ⟨f0, f1, f2, f3, f4, f5, f6⟩ := free7 HY1.out
  cases b with
  | false =>
    have e : signS key h = zeroS := by unfold signS; rw [HB.out]; rfl
    have HE := Lib.hid e
    clear e
    go_wp2_with fail
    exact bodyPost_ret (results_sgb rfl rfl rfl (set7_heap HY1.out _ _ _ _ _ _ _) rfl) rfl ⟨by rw [HE.out]; rfl, HB1.out.trans (set7_below (Nat.le_succ _) _ _ _ _ _ _ _)⟩
  | true =>
    obtain ⟨M, hM⟩ : ∃ M, h.sealB key = M := ⟨_, rfl⟩
    have e : (⟨(macL key.data.toList S.data.toList).toArray⟩ : ByteArray) = M := by rw [← hM, ← HSS.out]; rfl
    have e2 : signS key h = ⟨h, M⟩ := by unfold signS; rw [HB.out, hM]; rfl
    have HE := Lib.hid e2
    have hs : S.size ≤ 5000 := by rw [← HSS.out]; exact HSZ.out
    have E := Lib.hid e
    have HSL := Lib.hid hs
    clear e e2 hs hM
    go_upto_region 4 with fail
    go_region_with ((go_at_call 47; refine (pmacAt HH.out key S _ HKY.out (Nat.le_trans HSL.out (by decide)) (HST.out.later HB1.out.drew) M E.out).mono ?_; rintro e w2 ⟨rfl, hb2⟩; have HB2 := Lib.hid (HB1.out.drew.trans (hb2.mono HB1.out.size)); have HY2 := Lib.hid ((hb2.block _ (block_lt HY1.out)).trans HY1.out); obtain ⟨d0, d1, d2, d3, d4, d5, d6⟩ := cells7 HY2.out; obtain ⟨f0, f1, f2, f3, f4, f5, f6⟩ := free7 HY2.out; obtain ⟨c0, c1, c2, c3, c4, c5⟩ := cells6 ((hb2.block _ (block_lt HZ1.out)).trans HZ1.out)))
    all_goals
      go_wp2_with fail
      exact bodyPost_ret (results_sgb rfl rfl rfl (set7_heap HY2.out _ _ _ _ _ _ _) rfl) rfl ⟨by rw [HE.out]; rfl, HB2.out.trans (set7_below (Nat.le_succ _) _ _ _ _ _ _ _)⟩
end Go.Proofs.YtpkkdjmcabefbaaDoor
