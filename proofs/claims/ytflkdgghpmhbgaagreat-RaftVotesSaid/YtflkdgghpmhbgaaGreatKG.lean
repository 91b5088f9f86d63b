/- log in general: a log whose disk is up and without a limit: all is done. -/
import Derived.Test.YtflkdgghpmhbgaaGreatKF
namespace Go.Proofs.YtflkdgghpmhbgaaGreat
open Go.RowKit

/-- What Open finds: a content or none, its answer, the disk behind it. -/
def openO (d : DS) : Option CT × Int × DS := if d.dn = true then (none, 3, d) else match readC d.T with
  | none => (none, 6, d)
  | some c => if d.n < d.T.size then (if d.ok = true then (some c, 0, d.sync) else (none, 3, d.sync)) else (some c, 0, d)
/-- What is answered. -/
def OpenAns (w : World) (db : Nat) (oc : Option CT) (q : Int) (e : Ending) (w' : World) : Prop := match oc with
  | none => e = .returned (.tuple #[.pointer none, .int .i64 q])
  | some c => ∃ lb v, e = .returned (.tuple #[.pointer (some ⟨lb, 0, none⟩), .int .i64 q]) ∧ w.heap.size ≤ lb ∧ LgAt w' lb db false 0 v c ∧ ∀ k, v.ownBlock = some k → w.heap.size ≤ k
section
variable {w w' : World} {lb db : Nat} {v dv : Value} {d : DS}
theorem kwaits_prog (h : DkS w db dv d) (hn : d.n ≤ d.T.size) (hT : d.T.size ≤ 400000000) : Calls Tryz.prog 58 #[.pointer (some ⟨db, 0, none⟩)] w fun e w' => e = .returned (.int .i64 ((d.T.size : Int) - (d.n : Int))) ∧ Below w.heap.size w w' ∧ w'.heap.size = w.heap.size ∧ (∀ j : Nat, w'.heap[j]? = w.heap[j]?) := by
  refine (waits_prog h hn (by omega)).mono ?_
  rintro e w' ⟨he, q, rfl⟩
  exact ⟨he, (Same.of _ q).below _, rfl, fun _ => rfl⟩
theorem dsync_prog (h : DkS w db dv d) (hk : d.k ≤ 9223372036854775807) :
    Calls Tryz.prog 59 #[.pointer (some ⟨db, 0, none⟩)] w fun e w' => e = .returned (.int .i64 (errOf d.ok)) ∧ DkS w' db dv d.sync ∧ Ch db dv w w' dv := sync_prog h hk
set_option maxHeartbeats 2000000 in
set_option maxRecDepth 100000 in
theorem hopen_prog (hd : DkS w db dv d) (hk : d.k ≤ 9223372036854775807) (hn : d.n ≤ d.T.size) (hT : d.T.size ≤ 400000000) :
    Calls Tryz.prog 13 #[.pointer (some ⟨db, 0, none⟩)] w fun e w' => OpenAns w db (openO d).1 (openO d).2.1 e w' ∧ DkS w' db dv (openO d).2.2 ∧ Ch db dv w w' dv := by
  have K1 := Lib.hid (read_prog hd)
  have K2 := Lib.hid (read_prog' d.T w hT)
  have K3 := Lib.hid (fun W (hW : DkS W db dv d) => kwaits_prog hW hn hT)
  have K4 := Lib.hid (fun W (hW : DkS W db dv d) => dsync_prog hW hk)
  have HD := Lib.hid hd
  obtain ⟨o, ho⟩ : ∃ o, readC d.T = o := ⟨_, rfl⟩
  have e1 : openO d = if d.dn = true then (none, (3 : Int), d) else match readC d.T with
    | none => (none, 6, d)
    | some c => if d.n < d.T.size then (if d.ok = true then (some c, 0, d.sync) else (none, 3, d.sync)) else (some c, 0, d) := rfl
  rw [e1, ho]
  rw [ho] at K2
  have hlt := hd.lt
  obtain ⟨T, hTT⟩ : ∃ T, d.T = T := ⟨_, rfl⟩
  rw [hTT] at K1 K2 K3 hn ⊢
  obtain ⟨dn, hdn⟩ : ∃ dn, d.dn = dn := ⟨_, rfl⟩
  rw [hdn] at K1 ⊢
  clear hd hk e1 ho
  cases dn
  · simp only [Bool.false_eq_true, if_false] at K1 ⊢
    cases o with
    | none =>
      clear K3 K4
      go_enter Tryz.func13, Tryz.ntmps13
      go_wp2_with fail
      refine K1.out.mono ?_
      rintro e w1 ⟨rfl, rfl⟩
      go_wp2_with fail
      refine K2.out.mono ?_
      rintro e w2 ⟨⟨c2, v2, rfl, ⟨a, n, cp, rfl⟩, hgot⟩, hb2⟩
      have HB2 := Lib.hid hb2
      clear hgot hb2 K1 K2
      unfold ctC
      go_wp2_with fail
      go_ret2
      exact ⟨rfl, HD.out.later (HB2.out.alloc HB2.out.size _), Ch.ofBelow dv (HB2.out.alloc HB2.out.size _)⟩
    | some c =>
      dsimp only
      have HLT := Lib.hid hlt
      have HDL : Hid (∀ j, dv.ownBlock = some j → j < w.heap.size) := Lib.hid (fun j hj => HD.out.2.1.lt j hj)
      by_cases hw : d.n < T.size
      · have hwI : (0 : Int) < (T.size : Int) - (d.n : Int) := by omega
        rw [if_pos hw]
        obtain ⟨ok, hok⟩ : ∃ ok, d.ok = ok := ⟨_, rfl⟩
        rw [hok] at K4 ⊢
        clear hw hn hT hok hlt
        cases ok
        · rw [errOf_f] at K4
          simp only [Bool.false_eq_true, if_false]
          go_enter Tryz.func13, Tryz.ntmps13
          go_wp2_with fail
          refine K1.out.mono ?_
          rintro e w1 ⟨rfl, rfl⟩
          go_wp2_with fail
          refine K2.out.mono ?_
          rintro e w2 ⟨⟨c2, v2, rfl, ⟨a, n, cp, rfl⟩, hgot⟩, hb2⟩
          obtain ⟨rfl, ho⟩ := hgot c rfl
          have HO := Lib.hid ho
          have HB2 := Lib.hid hb2
          clear hgot ho hb2 K1 K2
          unfold ctC
          go_wp2_with fail
          obtain ⟨G, hG⟩ : ∃ G, w2.heap.size = G := ⟨_, rfl⟩
          obtain ⟨W3, hW3⟩ : ∃ W3, W3 = w2.alloc (.cells #[.int .u64 (c.term : Int), .int .i64 c.vote, .int .u64 (c.base : Int), .int .u64 (c.bterm : Int), .string c.state, .slice a n cp] 116) := ⟨_, rfl⟩
          have ha3 : Below w2.heap.size w2 W3 := by rw [hW3]; exact (Below.refl _ _).alloc (Nat.le_refl _) _
          have hz3 : W3.heap[G]? = some (.cells #[.int .u64 (c.term : Int), .int .i64 c.vote, .int .u64 (c.base : Int), .int .u64 (c.bterm : Int), .string c.state, .slice a n cp] 116 (0, 0)) := by rw [hW3, ← hG]; exact heap_alloc_new _ _
          have hs3 : W3.heap.size = G + 1 := by rw [hW3, ← hG]; simp
          have hb3 := HB2.out.trans (ha3.mono HB2.out.size)
          have ho3 := HO.out.later ha3
          have hGw : w1.heap.size ≤ G := by rw [← hG]; exact HB2.out.size
          rw [← hW3, hG]
          have hd3 := HD.out.later hb3
          have K3' := Lib.hid (K3.out W3 hd3)
          have HD3 := Lib.hid hd3
          have HZ3 := Lib.hid hz3
          have HS3 := Lib.hid hs3
          have HB3 := Lib.hid hb3
          have HO3 := Lib.hid ho3
          have HGW := Lib.hid hGw
          clear hW3 ha3 hz3 hs3 hb3 ho3 hGw hG HO HB2 K3 hd3
          refine K3'.out.mono ?_
          rintro e w4 ⟨rfl, hb4, hs4, hj4⟩
          have hz4 : w4.heap[G]? = some (.cells #[.int .u64 (c.term : Int), .int .i64 c.vote, .int .u64 (c.base : Int), .int .u64 (c.bterm : Int), .string c.state, .slice a n cp] 116 (0, 0)) := by rw [hj4]; exact HZ3.out
          have hb4' := HB3.out.trans (hb4.mono HB3.out.size)
          have ho4 := HO3.out.later hb4
          have hd4 := HD3.out.later hb4
          have hs4' : w4.heap.size = G + 1 := by rw [hs4]; exact HS3.out
          have K4' := Lib.hid (K4.out w4 hd4)
          have HB4 := Lib.hid hb4'
          have HO4 := Lib.hid ho4
          have HS4 := Lib.hid hs4'
          have HZ4 := Lib.hid hz4
          have HD4 := Lib.hid hd4
          clear hz4 hb4' ho4 hs4 hs4' hb4 hd4 hj4 HZ3 HS3 HB3 HO3 HD3 K3' K4
          go_wp2_with fail
          refine K4'.out.mono ?_
          rintro e w5 ⟨rfl, hd5, hc5⟩
          have HD5 := Lib.hid hd5
          have HC5 := Lib.hid ((Ch.ofBelow dv HB4.out).trans hc5)
          clear hd5 hc5 K4'
          go_wp2_with fail
          go_ret2
          exact ⟨rfl, HD5.out, HC5.out⟩
        · rw [errOf_t] at K4
          simp only [if_true]
          go_enter Tryz.func13, Tryz.ntmps13
          go_wp2_with fail
          refine K1.out.mono ?_
          rintro e w1 ⟨rfl, rfl⟩
          go_wp2_with fail
          refine K2.out.mono ?_
          rintro e w2 ⟨⟨c2, v2, rfl, ⟨a, n, cp, rfl⟩, hgot⟩, hb2⟩
          obtain ⟨rfl, ho⟩ := hgot c rfl
          have HO := Lib.hid ho
          have HB2 := Lib.hid hb2
          clear hgot ho hb2 K1 K2
          unfold ctC
          go_wp2_with fail
          obtain ⟨G, hG⟩ : ∃ G, w2.heap.size = G := ⟨_, rfl⟩
          obtain ⟨W3, hW3⟩ : ∃ W3, W3 = w2.alloc (.cells #[.int .u64 (c.term : Int), .int .i64 c.vote, .int .u64 (c.base : Int), .int .u64 (c.bterm : Int), .string c.state, .slice a n cp] 116) := ⟨_, rfl⟩
          have ha3 : Below w2.heap.size w2 W3 := by rw [hW3]; exact (Below.refl _ _).alloc (Nat.le_refl _) _
          have hz3 : W3.heap[G]? = some (.cells #[.int .u64 (c.term : Int), .int .i64 c.vote, .int .u64 (c.base : Int), .int .u64 (c.bterm : Int), .string c.state, .slice a n cp] 116 (0, 0)) := by rw [hW3, ← hG]; exact heap_alloc_new _ _
          have hs3 : W3.heap.size = G + 1 := by rw [hW3, ← hG]; simp
          have hb3 := HB2.out.trans (ha3.mono HB2.out.size)
          have ho3 := HO.out.later ha3
          have hGw : w1.heap.size ≤ G := by rw [← hG]; exact HB2.out.size
          rw [← hW3, hG]
          have hd3 := HD.out.later hb3
          have K3' := Lib.hid (K3.out W3 hd3)
          have HD3 := Lib.hid hd3
          have HZ3 := Lib.hid hz3
          have HS3 := Lib.hid hs3
          have HB3 := Lib.hid hb3
          have HO3 := Lib.hid ho3
          have HGW := Lib.hid hGw
          clear hW3 ha3 hz3 hs3 hb3 ho3 hGw hG HO HB2 K3 hd3
          refine K3'.out.mono ?_
          rintro e w4 ⟨rfl, hb4, hs4, hj4⟩
          have hz4 : w4.heap[G]? = some (.cells #[.int .u64 (c.term : Int), .int .i64 c.vote, .int .u64 (c.base : Int), .int .u64 (c.bterm : Int), .string c.state, .slice a n cp] 116 (0, 0)) := by rw [hj4]; exact HZ3.out
          have hb4' := HB3.out.trans (hb4.mono HB3.out.size)
          have ho4 := HO3.out.later hb4
          have hd4 := HD3.out.later hb4
          have hs4' : w4.heap.size = G + 1 := by rw [hs4]; exact HS3.out
          have K4' := Lib.hid (K4.out w4 hd4)
          have HB4 := Lib.hid hb4'
          have HO4 := Lib.hid ho4
          have HS4 := Lib.hid hs4'
          have HZ4 := Lib.hid hz4
          have HD4 := Lib.hid hd4
          clear hz4 hb4' ho4 hs4 hs4' hb4 hd4 hj4 HZ3 HS3 HB3 HO3 HD3 K3' K4
          go_wp2_with fail
          refine K4'.out.mono ?_
          rintro e w5 ⟨rfl, hd5, hc5⟩
          have hlt2 := HLT.out
          have hgw2 := HGW.out
          have hz5 := HZ4.out
          rw [← hc5.block G (by have := HS4.out; omega) (by omega) (fun e => by have := HDL.out G e; omega)] at hz5
          have ho5 := HO4.out.mv (w' := w5) fun k hk => hc5.block k (HO4.out.lt k hk) (by have := HO4.out.low k hk; omega) (fun e => by have := HO4.out.low k hk; have := HDL.out k e; omega)
          obtain ⟨m0, m1, m2, m3, m4, m5⟩ := cells6 hz5
          have HD5 := Lib.hid hd5
          have HC5 := Lib.hid ((Ch.ofBelow dv HB4.out).trans hc5)
          have HO5 := Lib.hid ho5
          have HSZ : Hid (w1.heap.size ≤ w5.heap.size) := Lib.hid (by have := hc5.size; have := HS4.out; omega)
          clear hd5 hc5 hz5 ho5 K4' hlt2 hgw2 HZ4 HO4 HB4
          go_wp2_with fail
          go_ret2
          exact ⟨⟨w5.heap.size, .slice a n cp, rfl, HSZ.out, ⟨heap_alloc_new _ _, (HO5.out.base (fun _ _ => Nat.zero_le _)).later ((Below.refl _ _).alloc (Nat.le_refl _) _), fun e => by have := HO5.out.lt _ e; omega⟩, HO5.out.low⟩, HD5.out.later ((Below.refl _ _).alloc (Nat.le_refl _) _), HC5.out.trans (Ch.ofBelow dv ((Below.refl _ _).alloc (Nat.le_refl _) _))⟩
      · have hwI : (T.size : Int) - (d.n : Int) = 0 := by omega
        rw [if_neg hw]
        rw [hwI] at K3
        clear hw hn hT hlt K4 hwI
        go_enter Tryz.func13, Tryz.ntmps13
        go_wp2_with fail
        refine K1.out.mono ?_
        rintro e w1 ⟨rfl, rfl⟩
        go_wp2_with fail
        refine K2.out.mono ?_
        rintro e w2 ⟨⟨c2, v2, rfl, ⟨a, n, cp, rfl⟩, hgot⟩, hb2⟩
        obtain ⟨rfl, ho⟩ := hgot c rfl
        have HO := Lib.hid ho
        have HB2 := Lib.hid hb2
        clear hgot ho hb2 K1 K2
        unfold ctC
        go_wp2_with fail
        obtain ⟨G, hG⟩ : ∃ G, w2.heap.size = G := ⟨_, rfl⟩
        obtain ⟨W3, hW3⟩ : ∃ W3, W3 = w2.alloc (.cells #[.int .u64 (c.term : Int), .int .i64 c.vote, .int .u64 (c.base : Int), .int .u64 (c.bterm : Int), .string c.state, .slice a n cp] 116) := ⟨_, rfl⟩
        have ha3 : Below w2.heap.size w2 W3 := by rw [hW3]; exact (Below.refl _ _).alloc (Nat.le_refl _) _
        have hz3 : W3.heap[G]? = some (.cells #[.int .u64 (c.term : Int), .int .i64 c.vote, .int .u64 (c.base : Int), .int .u64 (c.bterm : Int), .string c.state, .slice a n cp] 116 (0, 0)) := by rw [hW3, ← hG]; exact heap_alloc_new _ _
        have hs3 : W3.heap.size = G + 1 := by rw [hW3, ← hG]; simp
        have hb3 := HB2.out.trans (ha3.mono HB2.out.size)
        have ho3 := HO.out.later ha3
        have hGw : w1.heap.size ≤ G := by rw [← hG]; exact HB2.out.size
        rw [← hW3, hG]
        have hd3 := HD.out.later hb3
        have K3' := Lib.hid (K3.out W3 hd3)
        have HD3 := Lib.hid hd3
        have HZ3 := Lib.hid hz3
        have HS3 := Lib.hid hs3
        have HB3 := Lib.hid hb3
        have HO3 := Lib.hid ho3
        have HGW := Lib.hid hGw
        clear hW3 ha3 hz3 hs3 hb3 ho3 hGw hG HO HB2 K3 hd3
        refine K3'.out.mono ?_
        rintro e w4 ⟨rfl, hb4, hs4, hj4⟩
        have hz4 : w4.heap[G]? = some (.cells #[.int .u64 (c.term : Int), .int .i64 c.vote, .int .u64 (c.base : Int), .int .u64 (c.bterm : Int), .string c.state, .slice a n cp] 116 (0, 0)) := by rw [hj4]; exact HZ3.out
        have hb4' := HB3.out.trans (hb4.mono HB3.out.size)
        have ho4 := HO3.out.later hb4
        have hd4 := HD3.out.later hb4
        have hs4' : w4.heap.size = G + 1 := by rw [hs4]; exact HS3.out
        obtain ⟨m0, m1, m2, m3, m4, m5⟩ := cells6 hz4
        have HB4 := Lib.hid hb4'
        have HO4 := Lib.hid ho4
        have HS4 := Lib.hid hs4'
        have HD4 := Lib.hid hd4
        clear hz4 hb4' ho4 hs4 hs4' hb4 hd4 hj4 HZ3 HS3 HB3 HO3 HD3 K3'
        go_wp2_with fail
        go_ret2
        have hsz := HS4.out
        have hgw := HGW.out
        exact ⟨⟨w4.heap.size, .slice a n cp, rfl, by omega, ⟨heap_alloc_new _ _, (HO4.out.base (fun _ _ => Nat.zero_le _)).later ((Below.refl _ _).alloc (Nat.le_refl _) _), fun e => by have := HO4.out.lt _ e; omega⟩, HO4.out.low⟩, HD4.out.later ((Below.refl _ _).alloc (Nat.le_refl _) _), Ch.ofBelow dv (HB4.out.alloc (by omega) _)⟩
  · simp only [if_true] at K1 ⊢
    clear K2 K3 K4
    go_enter Tryz.func13, Tryz.ntmps13
    go_wp2_with fail
    refine K1.out.mono ?_
    rintro e w1 ⟨rfl, rfl⟩
    go_wp2_with fail
    go_ret2
    exact ⟨rfl, HD.out, Ch.refl _ _ _⟩
end
end Go.Proofs.YtflkdgghpmhbgaaGreat
namespace Go.Proofs.YtflkdgghpmhbgaaGreat
open Go.RowKit

/-- No more than M bytes anywhere. -/
structure LgS.Sm (s : LgS) (M : Nat) : Prop where
  k : s.d.k ≤ 9223372036854775807
  ok : s.c.Ok
  whole : (wholeB s.c).size ≤ M
  T : s.d.T.size ≤ M
  room : s.room ≤ M
section
variable {s : LgS} {M : Nat}
theorem LgS.Sm.fit (h : s.Sm M) (hM : M ≤ 100000000) : s.Fit := ⟨h.k, h.ok, Nat.le_trans h.whole hM, by have := h.T; omega, by have := h.room; omega⟩
theorem LgS.Sm.mono {M2 : Nat} (h : s.Sm M) (hM : M ≤ M2) : s.Sm M2 := ⟨h.k, h.ok, Nat.le_trans h.whole hM, Nat.le_trans h.T hM, Nat.le_trans h.room hM⟩
theorem LgS.Sm.down (h : s.Sm M) : s.down.Sm M := ⟨h.k, h.ok, h.whole, h.T, h.room⟩
theorem LgS.Sm.dn (h : s.Sm M) (b : Bool) : LgS.Sm { s with dn := b } M := ⟨h.k, h.ok, h.whole, h.T, h.room⟩
theorem DS.swap_T {d : DS} {b : ByteArray} (h : d.T.size ≤ M) (hb : b.size ≤ M) : (d.swap b).T.size ≤ M := by
  unfold DS.swap
  simp only
  split <;> assumption
theorem DS.app_T {d : DS} {b : ByteArray} (h : d.T.size ≤ M) : (d.app b).T.size ≤ M + b.size := by
  unfold DS.app
  simp only
  split
  · rw [ByteArray.size_append]; omega
  · omega
theorem LgS.Sm.swap (h : s.Sm M) (b : ByteArray) (hb : b.size ≤ M) : (s.swap b).1.Sm M :=
  ⟨Nat.le_trans (stK_le _ _ _) h.k, h.ok, h.whole, DS.swap_T h.T hb, hb⟩
theorem LgS.Sm.write (h : s.Sm M) (r : ByteArray) : (s.write r).1.Sm (M + r.size) := by
  unfold LgS.write
  by_cases h1 : s.room < r.size
  · rw [if_pos h1]
    exact (h.mono (Nat.le_add_right _ _)).swap _ (by have := h.whole; rw [ByteArray.size_append]; omega)
  · rw [if_neg h1]
    have hr := h.room
    by_cases h2 : s.d.ok = true
    · rw [if_pos h2]
      exact ⟨Nat.le_trans (stK_le _ _ _) (Nat.le_trans (stK_le _ _ _) h.k), h.ok, by have := h.whole; simp only; omega, DS.app_T h.T, by simp only; omega⟩
    · rw [if_neg h2]
      exact ⟨Nat.le_trans (stK_le _ _ _) h.k, h.ok, by have := h.whole; simp only; omega, DS.app_T h.T, by simp only; omega⟩
theorem LgS.Sm.change (h : s.Sm M) {k : UInt8} {body : ByteArray} {c : CT} {M2 : Nat} (hr : redoC s.c k body = some c) (hc : c.Ok) (hw : (wholeB c).size ≤ M2) (hM : M + (body.size + 25) ≤ M2) : (s.change k body).1.Sm M2 := by
  have h1 := (h.write (recB k body)).mono (M2 := M2) (by rw [recB_size]; omega)
  unfold LgS.change
  split
  · exact ⟨h1.k, by rw [hr]; exact hc, by rw [hr]; exact hw, h1.T, h1.room⟩
  · exact h1.dn true
/-- The content with these entries behind that index. -/
def CT.addE (c : CT) (behind : Nat) (E : List Ent) : CT := { c with ents := c.ents.take (behind - c.base) ++ E }
theorem takes_in {c : CT} {behind n : Nat} (hc : c.base + c.ents.length < m64) (h : c.takes behind n = true) : c.base ≤ behind ∧ behind ≤ c.base + c.ents.length ∧ behind + n < m64 := by
  unfold CT.takes at h
  rw [lastN_of hc] at h
  simp only [Bool.and_eq_true, decide_eq_true_eq] at h
  unfold m64 at *
  omega
theorem addE_ok {c : CT} {behind : Nat} {E : List Ent} (h : c.Ok) (hE : EntsOk E) (ht : c.takes behind E.length = true) : (c.addE behind E).Ok := by
  obtain ⟨h1, h2, h3⟩ := takes_in h.base ht
  refine ⟨h.term, h.vote, h.votet, ?_, h.bterm, h.state, fun x hx => ?_⟩
  · simp only [CT.addE, List.length_append, List.length_take]; omega
  · rcases List.mem_append.1 hx with h5 | h6
    · exact h.ents x (List.mem_of_mem_take h5)
    · exact hE x h6
theorem addE_size (c : CT) (behind : Nat) (E : List Ent) : (wholeB (c.addE behind E)).size ≤ (wholeB c).size + (entsL E).length := by
  rw [wholeB_len, wholeB_len]
  have := entsL_part c.ents (behind - c.base)
  simp only [CT.addE, entsL_append, List.length_append]
  omega
theorem term_ok {c : CT} {t : Nat} {x : Int} (h : c.Ok) (ht : t < m64) (hx : x < 9223372036854775808) (hv : c.votes t x = true) : CT.Ok { c with term := t, vote := x } := by
  have : -1 ≤ x := by simp only [CT.votes, Bool.and_eq_true, decide_eq_true_eq] at hv; exact hv.2
  exact ⟨ht, this, hx, h.base, h.bterm, h.state, h.ents⟩
theorem LgS.Sm.add (h : s.Sm M) (behind : Nat) (E : List Ent) (hb : behind < m64) (hE : EntsOk E) : (s.add behind E).1.Sm (M + (entsL E).length + 33) := by
  have hab : (addB behind E).size = 8 + (entsL E).length := by rw [addB, ofL_size, List.length_append, numL_len]
  unfold LgS.add
  split
  · exact h.down.mono (by omega)
  · split
    · rename_i ht
      exact h.down.change (redo_add s.c behind E hb hE ht) (addE_ok h.ok hE ht) (by have := addE_size s.c behind E; have := h.whole; unfold CT.addE at *; omega) (by omega)
    · exact h.down.mono (by omega)
theorem LgS.Sm.setTerm (h : s.Sm M) (t : Nat) (x : Int) (ht : t < m64) (hx : x < 9223372036854775808) : (s.setTerm t x).1.Sm (M + 41) := by
  have hsz : (voteB t x).size = 16 := by rw [voteB, ofL_size, List.length_append, numL_len, numL_len]
  unfold LgS.setTerm
  split
  · exact h.down.mono (by omega)
  · split
    · rename_i hv
      exact h.down.change (redo_vote s.c t x ht hx hv) (term_ok h.ok ht hx hv) (by have := h.whole; rw [wholeB_len] at *; simp only; omega) (by omega)
    · exact h.down.mono (by omega)
theorem LgS.Sm.rebase (h : s.Sm M) (i t : Nat) (st : ByteArray) (hi : i < m64) (ht : t < m64) (hst : st.size < m64) : (s.rebase i t st).1.Sm (M + st.size) := by
  have hsz : (wholeB (s.c.rebase i t st)).size ≤ M + st.size := by have := rebase_size s.c i t st; have := h.whole; omega
  have h1 := (h.mono (Nat.le_add_right M st.size)).swap (wholeB (s.c.rebase i t st)) hsz
  unfold LgS.rebase
  split
  · exact ⟨h1.k, rebase_ok h.ok hi ht hst, hsz, h1.T, h1.room⟩
  · exact h1.dn true
theorem LgS.Sm.compact (h : s.Sm M) (i : Nat) (st : ByteArray) (hi : i < m64) (hst : st.size < m64) : (s.compact i st).1.Sm (M + st.size) := by
  unfold LgS.compact
  split
  · exact h.down.mono (by omega)
  · cases hx : s.c.termAt i with
    | none => exact h.down.mono (by omega)
    | some t => exact h.down.rebase i t st hi (termAt_lt h.ok hx) hst
theorem LgS.Sm.install (h : s.Sm M) (i t : Nat) (st : ByteArray) (hi : i < m64) (ht : t < m64) (hst : st.size < m64) : (s.install i t st).1.Sm (M + st.size) := by
  unfold LgS.install
  split
  · exact h.down.mono (by omega)
  · split
    · exact h.down.mono (by omega)
    · exact h.down.rebase i t st hi ht hst
end
end Go.Proofs.YtflkdgghpmhbgaaGreat
namespace Go.Proofs.YtflkdgghpmhbgaaGreat
open Go.RowKit

theorem rBytes_cut (r : RS) (n : Nat) (h : r.short = true ∨ r.rest.size < n) : (rBytes r n).2.short = true := by
  unfold rBytes
  have : (r.short || decide (r.rest.size < n)) = true := by rcases h with h | h <;> simp [h]
  rw [if_pos this]
theorem rSealed_few (r : RS) (n : Nat) (h : r.rest.size < n + 8) : (rSealed r n).2.short = true := by
  unfold rSealed rNumber
  simp only
  by_cases h1 : (rBytes r n).2.short = true
  · exact rBytes_cut _ _ (.inl h1)
  · refine rBytes_cut _ _ (.inr ?_)
    have h2 : (r.short || decide (r.rest.size < n)) = false := by
      cases h3 : (r.short || decide (r.rest.size < n)) with
      | false => rfl
      | true => exact absurd (rBytes_cut r n (by simpa using h3)) h1
    unfold rBytes
    rw [if_neg (by rw [h2]; simp)]
    simp only [ByteArray.size_extract]
    simp only [Bool.or_eq_false_iff, decide_eq_false_iff_not] at h2
    omega
theorem recL_len (k : UInt8) (body : ByteArray) : (recL k body).length = body.size + 25 := by
  simp only [recL, List.length_append, sealL_len, headB_size]; omega
/-- A record that is cut is read as short. -/
theorem rRecord_torn (k : UInt8) (body : ByteArray) (hb : body.size < m64) (m : Nat) (hm : m < body.size + 25) : (rRecord ⟨ofL ((recL k body).take m), false, false⟩).2.short = true := by
  have hl : (ofL ((recL k body).take m)).size = m := by rw [ofL_size, List.length_take, recL_len]; omega
  by_cases h1 : m < 17
  · have h2 := rSealed_few ⟨ofL ((recL k body).take m), false, false⟩ 9 (by show (ofL ((recL k body).take m)).size < 17; omega)
    unfold rRecord
    rw [if_pos (by rw [h2]; rfl)]
    exact h2
  · have e0 : (recL k body).take m = sealL (headB k body.size) ++ (sealL body).take (m - 17) := by
      unfold recL
      have h17 : (sealL (headB k body.size)).length = 17 := by rw [sealL_len, headB_size]
      rw [List.take_append, h17, List.take_of_length_le (by omega)]
    have e1 : rSealed ⟨ofL ((recL k body).take m), false, false⟩ 9 = (headB k body.size, ⟨ofL ((sealL body).take (m - 17)), false, false⟩) := by
      rw [e0]
      exact rSealed_app _ _ _ (headB_size _ _).symm
    have e2 : (headB k body.size).extract 1 (headB k body.size).size = ofL (numL body.size ++ []) := by
      rw [headB_size, headB, ofL_extract, List.append_nil]; rfl
    have e3 : (rNumber ⟨(headB k body.size).extract 1 (headB k body.size).size, false, false⟩).1 = body.size := by
      rw [e2, rNumber_app _ hb]
    unfold rRecord
    rw [e1]
    simp only [Bool.or_self, Bool.false_eq_true, if_false, e3]
    refine rSealed_few _ _ ?_
    show (ofL ((sealL body).take (m - 17))).size < body.size + 8
    rw [ofL_size, List.length_take, sealL_len]
    omega
theorem recL_head (k : UInt8) (body : ByteArray) (m : Nat) (hm : 0 < m) : (ofL ((recL k body).take m)).data.getD 0 0 = k := by
  obtain ⟨m, rfl⟩ : ∃ q, m = q + 1 := ⟨m - 1, by omega⟩
  simp [recL, sealL, headB, ofL]
theorem readLoop_torn : ∀ (R : List Rc) (f : Nat) (c c' : CT) (k : UInt8) (body : ByteArray) (m : Nat), (∀ x ∈ R, x.2.size < m64) → R.length ≤ f → redoAll c R = some c' → (k = 249 ∨ k = 250) → body.size < m64 → m < body.size + 25 →
    readLoop f c ⟨ofL (recsL R ++ (recL k body).take m), false, false⟩ = some c'
  | [], f, c, c', k, body, m, _, _, h, hk, hb, hm => by
    have hcc : c = c' := by simpa [redoAll] using h
    subst hcc
    have e0 : recsL [] ++ (recL k body).take m = (recL k body).take m := rfl
    rw [e0]
    have hl : (ofL ((recL k body).take m)).size = m := by rw [ofL_size, List.length_take, recL_len]; omega
    cases f with
    | zero => rfl
    | succ f =>
      by_cases h0 : m = 0
      · exact readLoop_end _ _ _ (by show (ofL ((recL k body).take m)).size = 0; omega)
      · rw [readLoop_short f c _ (by show ¬ (ofL ((recL k body).take m)).size = 0; omega) (rRecord_torn k body hb m hm)]
        show (if (ofL ((recL k body).take m)).data.getD 0 0 = 249 ∨ (ofL ((recL k body).take m)).data.getD 0 0 = 250 then some c else none) = some c
        rw [recL_head k body m (by omega), if_pos hk]
  | x :: R, f, c, c', k, body, m, hs, hf, h, hk, hb, hm => by
    obtain ⟨f, rfl⟩ : ∃ g, f = g + 1 := ⟨f - 1, by simp at hf; omega⟩
    have hx := hs x (List.mem_cons_self ..)
    have e1 : recsL (x :: R) ++ (recL k body).take m = recL x.1 x.2 ++ (recsL R ++ (recL k body).take m) := by simp [recsL]
    have h0 : ¬ (ofL (recsL (x :: R) ++ (recL k body).take m)).size = 0 := by rw [e1, ofL_size, List.length_append, recL_len]; omega
    have er := rRecord_app x.1 x.2 hx (recsL R ++ (recL k body).take m)
    rw [← e1] at er
    simp only [redoAll] at h
    cases hr : redoC c x.1 x.2 with
    | none => rw [hr] at h; cases h
    | some c2 =>
      rw [hr] at h
      rw [readLoop_some f c c2 _ h0 (by rw [er]) (by rw [er]) (by rw [er]; exact hr), er]
      exact readLoop_torn R f c2 c' k body m (fun y hy => hs y (List.mem_cons_of_mem _ hy)) (by simp at hf; omega) (by simpa using h) hk hb hm
/-- What stands behind a crash amid an append is read as what stood before. -/
theorem Left.torn {T : ByteArray} {c : CT} (h : Left T c) (k : UInt8) (body : ByteArray) (m : Nat) (hk : k = 249 ∨ k = 250) (hb : body.size < m64) (hm : m < body.size + 25) : readC (T ++ ofL ((recL k body).take m)) = some c := by
  obtain ⟨c0, R, h1, h2, rfl, h3, h4⟩ := h
  have e1 : wholeB c0 ++ ofL (recsL R) ++ ofL ((recL k body).take m) = ofL (recL 248 (ofL (bodyL c0)) ++ (recsL R ++ (recL k body).take m)) := by rw [ofL_append, ofL_append, ByteArray.append_assoc]; rfl
  have hsz : ¬ (ofL (recL 248 (ofL (bodyL c0)) ++ (recsL R ++ (recL k body).take m))).size = 0 := by
    rw [ofL_size, List.length_append, recL_len]; omega
  have hf : R.length ≤ (ofL (recL 248 (ofL (bodyL c0)) ++ (recsL R ++ (recL k body).take m))).size + 1 := by
    rw [ofL_size, List.length_append, List.length_append]; have := recsL_len R; omega
  rw [e1]
  simp only [readC, hsz, if_false]
  rw [rRecord_app _ _ (by rw [ofL_size]; exact h2)]
  simp only [Bool.false_or, decide_true, Bool.not_true, Bool.false_eq_true, if_false, readAll_body c0 h1]
  exact readLoop_torn R _ c0 c k body m (fun x hx => (h3 x hx).1) hf h4 hk hb hm
end Go.Proofs.YtflkdgghpmhbgaaGreat
namespace Go.Proofs.YtflkdgghpmhbgaaGreat
open Go.RowKit

/-- All that the log tells is sure. -/
structure LgS.Sure (s : LgS) : Prop where
  all : s.d.n = s.d.T.size
  read : readC s.d.T = some s.c
  left : s.room = 0 ∨ Left s.d.T s.c
/-- A change failed: whatever a crash leaves is read as what stood before or as what was to stand. -/
structure LgS.Hurt (s : LgS) (c c' : CT) : Prop where
  dn : s.dn = true
  same : s.c = c
  n : s.d.n ≤ s.d.T.size
  read : ∀ j, s.d.n ≤ j → j ≤ s.d.T.size → readC (s.d.T.extract 0 j) = some c ∨ readC (s.d.T.extract 0 j) = some c'
theorem extract_all (T : ByteArray) : T.extract 0 T.size = T := by simp
theorem extract_app (T r : ByteArray) (j : Nat) (h : T.size ≤ j) : (T ++ r).extract 0 j = T ++ ofL (r.data.toList.take (j - T.size)) := by
  have h1 : T ++ r = ofL (T.data.toList ++ r.data.toList) := by rw [ofL_append, ofL_data, ofL_data]
  rw [h1, ofL_extract, List.drop_zero, List.take_append, ofL_append]
  have h2 : T.data.toList.length = T.size := data_len T
  rw [h2, List.take_of_length_le (by omega), ofL_data]
section
variable {s : LgS} {c' : CT} {k : UInt8} {body : ByteArray}
theorem body_lt {c : CT} {M : Nat} (h : (wholeB c).size ≤ M) (hM : M ≤ 100000000) : (bodyL c).length < m64 := by
  rw [wholeB_len] at h
  rw [bodyL_len]
  unfold m64; omega
theorem LgS.Sure.change (h : s.Sure) (hc : s.c.Ok) (hw : (bodyL s.c).length < m64) (hk : k = 249 ∨ k = 250) (hb : body.size < m64) (hr : redoC s.c k body = some c') :
    ((s.change k body).2 = 0 ∧ (s.change k body).1.Sure ∧ (s.change k body).1.c = c' ∧ (s.change k body).1.dn = s.dn) ∨ ((s.change k body).2 = 3 ∧ (s.change k body).1.Hurt s.c c') := by
  have hrl := recB_size k body
  have hg : (redoC s.c k body).getD s.c = c' := by rw [hr]; rfl
  have hd := h.all
  by_cases h1 : s.room < (recB k body).size
  · have e1 : s.write (recB k body) = s.swap (wholeB s.c ++ recB k body) := if_pos h1
    cases hok : s.d.ok with
    | true =>
      refine .inl ?_
      have e2 : s.change k body = ({ (s.swap (wholeB s.c ++ recB k body)).1 with c := c' }, 0) := by
        unfold LgS.change
        rw [e1, hg]
        exact if_pos hok
      have hT : (s.d.swap (wholeB s.c ++ recB k body)).T = wholeB s.c ++ recB k body := if_pos hok
      have hn : (s.d.swap (wholeB s.c ++ recB k body)).n = (wholeB s.c ++ recB k body).size := if_pos hok
      have hl : Left (wholeB s.c ++ recB k body) c' := (Left.whole hc hw).add hk hb hr
      rw [e2]
      exact ⟨rfl, ⟨by show (s.d.swap _).n = (s.d.swap _).T.size; rw [hn, hT], by show readC (s.d.swap _).T = _; rw [hT]; exact hl.read, .inr (by show Left (s.d.swap _).T _; rw [hT]; exact hl)⟩, rfl, rfl⟩
    | false =>
      refine .inr ?_
      have e2 : s.change k body = ({ (s.swap (wholeB s.c ++ recB k body)).1 with dn := true }, 3) := by
        unfold LgS.change
        rw [e1]
        exact if_neg (by show ¬ s.d.ok = true; rw [hok]; simp)
      have hT : (s.d.swap (wholeB s.c ++ recB k body)).T = s.d.T := if_neg (by rw [hok]; simp)
      have hn : (s.d.swap (wholeB s.c ++ recB k body)).n = s.d.n := if_neg (by rw [hok]; simp)
      rw [e2]
      refine ⟨rfl, rfl, rfl, by show (s.d.swap _).n ≤ (s.d.swap _).T.size; rw [hn, hT]; omega, fun j hj1 hj2 => .inl ?_⟩
      have hj1 : (s.d.swap (wholeB s.c ++ recB k body)).n ≤ j := hj1
      have hj2 : j ≤ (s.d.swap (wholeB s.c ++ recB k body)).T.size := hj2
      show readC ((s.d.swap (wholeB s.c ++ recB k body)).T.extract 0 j) = some s.c
      rw [hn] at hj1
      rw [hT] at hj2 ⊢
      obtain rfl : j = s.d.T.size := by omega
      rw [extract_all]
      exact h.read
  · have hleft : Left s.d.T s.c := by
      rcases h.left with h2 | h2
      · omega
      · exact h2
    cases hok : s.d.ok with
    | false =>
      refine .inr ?_
      have e1 : s.write (recB k body) = ({ s with room := s.room - (recB k body).size, d := s.d.app (recB k body) }, false) := by
        unfold LgS.write
        rw [if_neg h1, if_neg (by rw [hok]; simp)]
      have e2 : s.change k body = ({ s with room := s.room - (recB k body).size, d := s.d.app (recB k body), dn := true }, 3) := by
        unfold LgS.change
        rw [e1]
        exact if_neg (by simp)
      have hT : (s.d.app (recB k body)).T = s.d.T := if_neg (by rw [hok]; simp)
      have hn : (s.d.app (recB k body)).n = s.d.n := rfl
      rw [e2]
      refine ⟨rfl, rfl, rfl, by show (s.d.app _).n ≤ (s.d.app _).T.size; rw [hn, hT]; omega, fun j hj1 hj2 => .inl ?_⟩
      have hj1 : s.d.n ≤ j := hj1
      have hj2 : j ≤ (s.d.app (recB k body)).T.size := hj2
      show readC ((s.d.app (recB k body)).T.extract 0 j) = some s.c
      rw [hT] at hj2 ⊢
      obtain rfl : j = s.d.T.size := by omega
      rw [extract_all]
      exact h.read
    | true =>
      have hT : (s.d.app (recB k body)).T = s.d.T ++ recB k body := if_pos hok
      have hn : (s.d.app (recB k body)).n = s.d.n := rfl
      have e1 : s.write (recB k body) = ({ s with room := s.room - (recB k body).size, d := (s.d.app (recB k body)).sync }, (s.d.app (recB k body)).ok) := by
        unfold LgS.write
        rw [if_neg h1, if_pos hok]
      have hl : Left (s.d.T ++ recB k body) c' := hleft.add hk hb hr
      cases hok2 : (s.d.app (recB k body)).ok with
      | true =>
        refine .inl ?_
        have e2 : s.change k body = ({ s with c := c', room := s.room - (recB k body).size, d := (s.d.app (recB k body)).sync }, 0) := by
          unfold LgS.change
          rw [e1, hg]
          exact if_pos hok2
        have hT2 : (s.d.app (recB k body)).sync.T = s.d.T ++ recB k body := hT
        have hn2 : (s.d.app (recB k body)).sync.n = (s.d.T ++ recB k body).size := by rw [← hT]; exact if_pos hok2
        rw [e2]
        exact ⟨rfl, ⟨by show (DS.sync _).n = (DS.sync _).T.size; rw [hn2, hT2], by show readC (DS.sync _).T = _; rw [hT2]; exact hl.read, .inr (by show Left (DS.sync _).T _; rw [hT2]; exact hl)⟩, rfl, rfl⟩
      | false =>
        refine .inr ?_
        have e2 : s.change k body = ({ s with room := s.room - (recB k body).size, d := (s.d.app (recB k body)).sync, dn := true }, 3) := by
          unfold LgS.change
          rw [e1]
          exact if_neg (by show ¬ (s.d.app (recB k body)).ok = true; rw [hok2]; simp)
        have hT2 : (s.d.app (recB k body)).sync.T = s.d.T ++ recB k body := hT
        have hn2 : (s.d.app (recB k body)).sync.n = s.d.n := by rw [← hn]; exact if_neg (by rw [hok2]; simp)
        rw [e2]
        refine ⟨rfl, rfl, rfl, by show (DS.sync _).n ≤ (DS.sync _).T.size; rw [hn2, hT2, ByteArray.size_append]; omega, fun j hj1 hj2 => ?_⟩
        have hj1 : (s.d.app (recB k body)).sync.n ≤ j := hj1
        have hj2 : j ≤ (s.d.app (recB k body)).sync.T.size := hj2
        show readC ((s.d.app (recB k body)).sync.T.extract 0 j) = some s.c ∨ readC ((s.d.app (recB k body)).sync.T.extract 0 j) = some c'
        rw [hn2] at hj1
        rw [hT2] at hj2 ⊢
        rw [ByteArray.size_append] at hj2
        have hx : (s.d.T ++ recB k body).extract 0 j = s.d.T ++ ofL ((recL k body).take (j - s.d.T.size)) := by
          rw [extract_app _ _ _ (by omega)]
          unfold recB
          rw [ofL_list]
        rw [hx]
        by_cases hj : j - s.d.T.size < body.size + 25
        · exact .inl (hleft.torn k body _ hk hb hj)
        · refine .inr ?_
          rw [List.take_of_length_le (by rw [recL_len]; omega)]
          exact hl.read
/-- The like of a base that is laid anew. -/
theorem LgS.Sure.rebase (h : s.Sure) {i t : Nat} {st : ByteArray} (hc : (s.c.rebase i t st).Ok) (hw : (bodyL (s.c.rebase i t st)).length < m64) :
    ((s.rebase i t st).2 = 0 ∧ (s.rebase i t st).1.Sure ∧ (s.rebase i t st).1.c = s.c.rebase i t st ∧ (s.rebase i t st).1.dn = s.dn) ∨ ((s.rebase i t st).2 = 3 ∧ (s.rebase i t st).1.Hurt s.c (s.c.rebase i t st)) := by
  have hd := h.all
  have hl := Left.whole hc hw
  obtain ⟨nx, hnx⟩ : ∃ nx, s.c.rebase i t st = nx := ⟨_, rfl⟩
  have e1 : s.rebase i t st = if (s.swap (wholeB (s.c.rebase i t st))).2 = true then ({ (s.swap (wholeB (s.c.rebase i t st))).1 with c := s.c.rebase i t st }, 0) else ({ (s.swap (wholeB (s.c.rebase i t st))).1 with dn := true }, 3) := rfl
  rw [e1]
  rw [hnx] at hl ⊢
  cases hok : s.d.ok with
  | true =>
    refine .inl ?_
    have hT : (s.d.swap (wholeB nx)).T = wholeB nx := if_pos hok
    have hn : (s.d.swap (wholeB nx)).n = (wholeB nx).size := if_pos hok
    rw [if_pos (show (s.swap (wholeB nx)).2 = true from hok)]
    exact ⟨rfl, ⟨by show (s.d.swap _).n = (s.d.swap _).T.size; rw [hn, hT], by show readC (s.d.swap _).T = _; rw [hT]; exact hl.read, .inr (by show Left (s.d.swap _).T _; rw [hT]; exact hl)⟩, rfl, rfl⟩
  | false =>
    refine .inr ?_
    have hT : (s.d.swap (wholeB nx)).T = s.d.T := if_neg (by rw [hok]; simp)
    have hn : (s.d.swap (wholeB nx)).n = s.d.n := if_neg (by rw [hok]; simp)
    rw [if_neg (show ¬ (s.swap (wholeB nx)).2 = true by show ¬ s.d.ok = true; rw [hok]; simp)]
    refine ⟨rfl, rfl, rfl, by show (s.d.swap _).n ≤ (s.d.swap _).T.size; rw [hn, hT]; omega, fun j hj1 hj2 => .inl ?_⟩
    have hj1 : (s.d.swap (wholeB nx)).n ≤ j := hj1
    have hj2 : j ≤ (s.d.swap (wholeB nx)).T.size := hj2
    show readC ((s.d.swap (wholeB nx)).T.extract 0 j) = some s.c
    rw [hn] at hj1
    rw [hT] at hj2 ⊢
    obtain rfl : j = s.d.T.size := by omega
    rw [extract_all]
    exact h.read
end
end Go.Proofs.YtflkdgghpmhbgaaGreat
namespace Go.Proofs.YtflkdgghpmhbgaaGreat
open Go.RowKit

structure LgS.Free (s : LgS) : Prop where
  up : s.dn = false
  disk : s.d.dn = false
  lim : s.d.lim = false
section
variable {s : LgS}
theorem LgS.Free.ok (h : s.Free) : s.d.ok = true := by unfold DS.ok stOk; rw [h.disk, h.lim]; rfl
theorem LgS.Free.down (h : s.Free) : s.down = s := by
  have h1 := h.up
  have h2 := h.disk
  cases s
  simp only at h1 h2
  subst h1
  simp [LgS.down, h2]
theorem LgS.Free.notdn (h : s.Free) : (s.dn || s.d.dn) = false := by rw [h.up, h.disk]; rfl
theorem app_free {d : DS} (b : ByteArray) (h1 : d.dn = false) (h2 : d.lim = false) : (d.app b).dn = false ∧ (d.app b).lim = false ∧ (d.app b).ok = true := by
  have e1 : (d.app b).dn = false := by show stDn d.dn d.lim d.k = false; rw [h1, h2]; rfl
  have e2 : (d.app b).lim = false := h2
  exact ⟨e1, e2, by unfold DS.ok stOk; rw [e1, e2]; rfl⟩
theorem sync_free2 {d : DS} (h1 : d.dn = false) (h2 : d.lim = false) : d.sync.dn = false ∧ d.sync.lim = false :=
  ⟨by show stDn d.dn d.lim d.k = false; rw [h1, h2]; rfl, h2⟩
theorem swap_free2 {d : DS} (b : ByteArray) (h1 : d.dn = false) (h2 : d.lim = false) : (d.swap b).dn = false ∧ (d.swap b).lim = false :=
  ⟨by show stDn d.dn d.lim d.k = false; rw [h1, h2]; rfl, h2⟩
theorem LgS.Free.write (h : s.Free) (r : ByteArray) : (s.write r).2 = true ∧ (s.write r).1.Free := by
  unfold LgS.write
  split
  · obtain ⟨h1, h2⟩ := swap_free2 (wholeB s.c ++ r) h.disk h.lim
    exact ⟨h.ok, h.up, h1, h2⟩
  · rw [if_pos h.ok]
    obtain ⟨h1, h2, h3⟩ := app_free r h.disk h.lim
    obtain ⟨h4, h5⟩ := sync_free2 h1 h2
    exact ⟨h3, h.up, h4, h5⟩
theorem LgS.Free.change (h : s.Free) (k : UInt8) (body : ByteArray) : (s.change k body).2 = 0 ∧ (s.change k body).1.Free := by
  obtain ⟨h1, h2⟩ := h.write (recB k body)
  unfold LgS.change
  rw [if_pos h1]
  exact ⟨rfl, h2.up, h2.disk, h2.lim⟩
theorem LgS.Free.rebase (h : s.Free) (i t : Nat) (st : ByteArray) : (s.rebase i t st).2 = 0 ∧ (s.rebase i t st).1.Free := by
  unfold LgS.rebase
  rw [if_pos (show (s.swap (wholeB (s.c.rebase i t st))).2 = true from h.ok)]
  obtain ⟨h1, h2⟩ := swap_free2 (wholeB (s.c.rebase i t st)) h.disk h.lim
  exact ⟨rfl, h.up, h1, h2⟩
/-- What a call that is done leaves. -/
structure LgS.Done (s : LgS) (r : LgS × Int) (c' : CT) : Prop where
  ans : r.2 = 0
  sure : r.1.Sure
  c : r.1.c = c'
  free : r.1.Free
theorem LgS.Sure.doneC (h : s.Sure) (hf : s.Free) {k : UInt8} {body : ByteArray} {c' : CT} (hc : s.c.Ok) (hw : (bodyL s.c).length < m64) (hk : k = 249 ∨ k = 250) (hb : body.size < m64) (hr : redoC s.c k body = some c') : LgS.Done s (s.change k body) c' := by
  obtain ⟨h1, h2⟩ := hf.change k body
  rcases h.change hc hw hk hb hr with ⟨_, h3, h4, _⟩ | ⟨h3, _⟩
  · exact ⟨h1, h3, h4, h2⟩
  · rw [h1] at h3; cases h3
theorem LgS.Sure.doneR (h : s.Sure) (hf : s.Free) {i t : Nat} {st : ByteArray} (hc : (s.c.rebase i t st).Ok) (hw : (bodyL (s.c.rebase i t st)).length < m64) : LgS.Done s (s.rebase i t st) (s.c.rebase i t st) := by
  obtain ⟨h1, h2⟩ := hf.rebase i t st
  rcases h.rebase hc hw with ⟨_, h3, h4, _⟩ | ⟨h3, _⟩
  · exact ⟨h1, h3, h4, h2⟩
  · rw [h1] at h3; cases h3
theorem LgS.Sure.doneT (h : s.Sure) (hf : s.Free) {t : Nat} {x : Int} (hc : s.c.Ok) (hw : (bodyL s.c).length < m64) (ht : t < m64) (hx : x < 9223372036854775808) (hv : s.c.votes t x = true) : LgS.Done s (s.setTerm t x) { s.c with term := t, vote := x } := by
  have hsz : (voteB t x).size = 16 := by rw [voteB, ofL_size, List.length_append, numL_len, numL_len]
  have e : s.setTerm t x = s.change 249 (voteB t x) := by
    unfold LgS.setTerm
    rw [hf.notdn, if_neg (by simp), if_pos hv, hf.down]
  rw [e]
  exact h.doneC hf hc hw (.inl rfl) (by unfold m64; omega) (redo_vote s.c t x ht hx hv)
theorem LgS.Sure.doneA (h : s.Sure) (hf : s.Free) {behind : Nat} {E : List Ent} (hc : s.c.Ok) (hw : (bodyL s.c).length < m64) (hb : behind < m64) (hE : EntsOk E) (hl : (entsL E).length ≤ 100000000) (ht : s.c.takes behind E.length = true) : LgS.Done s (s.add behind E) (s.c.addE behind E) := by
  have hab : (addB behind E).size = 8 + (entsL E).length := by rw [addB, ofL_size, List.length_append, numL_len]
  have e : s.add behind E = s.change 250 (addB behind E) := by
    unfold LgS.add
    rw [hf.notdn, if_neg (by simp), if_pos ht, hf.down]
  rw [e]
  exact h.doneC hf hc hw (.inr rfl) (by unfold m64; omega) (redo_add s.c behind E hb hE ht)
theorem LgS.Free.setTerm_no (hf : s.Free) {t : Nat} {x : Int} (hv : s.c.votes t x = false) : s.setTerm t x = (s, 1) := by
  unfold LgS.setTerm
  rw [hf.notdn, if_neg (by simp), if_neg (by rw [hv]; simp), hf.down]
theorem LgS.Free.add_no (hf : s.Free) {behind : Nat} {E : List Ent} (hv : s.c.takes behind E.length = false) : s.add behind E = (s, 1) := by
  unfold LgS.add
  rw [hf.notdn, if_neg (by simp), if_neg (by rw [hv]; simp), hf.down]
theorem LgS.Free.compact_eq (hf : s.Free) (i : Nat) (st : ByteArray) : s.compact i st = match s.c.termAt i with
    | none => (s, 1)
    | some t => s.rebase i t st := by
  unfold LgS.compact
  rw [hf.notdn, if_neg (by simp), hf.down]
  cases s.c.termAt i <;> rfl
theorem LgS.Free.install_eq (hf : s.Free) (i t : Nat) (st : ByteArray) : s.install i t st = if i < s.c.base ∨ (i = s.c.base ∧ t ≠ s.c.bterm) then (s, 1) else s.rebase i t st := by
  unfold LgS.install
  rw [hf.notdn, if_neg (by simp), hf.down]
end
end Go.Proofs.YtflkdgghpmhbgaaGreat
