/- log: change, Add, SetTerm, Open, what is told. -/
import Derived.Test.YtfocljmjejniiaaGLog
namespace Go.Proofs.Ytfocljmjejniiaa
open Go.RowKit

section
variable {w : World} {lb db room : Nat} {v dv : Value} {c : CT} {T : ByteArray}
set_option maxHeartbeats 1000000 in
set_option maxRecDepth 100000 in
theorem lchange_prog (hl : LgAt w lb db false room v c) (hd : Dk w db dv T T.size false false 0) (k : UInt8) (body : ByteArray) (hc : c.Ok) (hs : (wholeB c).size + (body.size + 25) ≤ 40000) (hT : T.size + room ≤ 90000) (hE : c.ents.length ≤ 10000) :
    Calls Try.prog 24 #[.pointer (some ⟨lb, 0, none⟩), .int .u8 (k.toNat : Int), .string body] w fun e w' => e = .returned (.int .i64 0) ∧ ∃ v' dv', LgAt w' lb db false (nextR c room (recB k body)) v' ((redoC c k body).getD c) ∧
      Dk w' db dv' (nextT c T room (recB k body)) (nextT c T room (recB k body)).size false false 0 ∧ LCh lb db v dv w w' v' dv' := by
  have K1 := Lib.hid (record_prog k body w (by omega))
  have K2 := Lib.hid (fun W (hW : LgAt W lb db false room v c) (hW2 : Dk W db dv T T.size false false 0) => lwrite_prog hW hW2 (recB k body) hc (by rw [recB_size]; omega) hT)
  have K3 := Lib.hid (fun (x : Nat) W (hW : LgAt W lb db false x v c) => redo_prog lb v c k body W hW (by omega) hc.base)
  have HL := Lib.hid hl
  have HD := Lib.hid hd
  obtain ⟨R, hR⟩ : ∃ R, recB k body = R := ⟨_, rfl⟩
  obtain ⟨o, ho⟩ : ∃ o, redoC c k body = o := ⟨_, rfl⟩
  rw [hR] at K1 K2
  rw [ho] at K3
  rw [hR, ho]
  clear hl hd hc hs hT hE hR ho
  go_enter Try.func24, Try.ntmps24
  go_wp2_with fail
  refine K1.out.mono ?_
  rintro e w1 ⟨rfl, hb1⟩
  have K2' := Lib.hid (K2.out w1 (HL.out.later hb1) (HD.out.later hb1))
  have HB1 := Lib.hid hb1
  clear hb1 K1 K2
  go_wp2_with fail
  refine K2'.out.mono ?_
  rintro e w2 ⟨rfl, dv2, hl2, hd2, hc2⟩
  have K3' := Lib.hid (K3.out _ w2 hl2)
  have HT2 := Lib.hid (two_of hl2 hd2)
  have HD2 := Lib.hid hd2
  have HC2 := Lib.hid ((LCh.ofBelow lb db v dv HB1.out).trans hc2)
  clear hl2 hd2 hc2 K3 K2'
  go_wp2_with fail
  refine K3'.out.mono ?_
  rintro e w3 ⟨rfl, v3, hl3, hc3⟩
  have HL3 := Lib.hid hl3
  have HD3 := Lib.hid (HD2.out.byLog HT2.out hc3)
  have HC3 := Lib.hid (HC2.out.trans (LCh.ofLog db dv2 hc3))
  clear hl3 hc3 K3'
  go_wp2_with fail
  go_ret
  exact ⟨rfl, v3, dv2, HL3.out, HD3.out, HC3.out⟩

/-- The log with these entries behind that index. -/
def CT.add (c : CT) (behind : Nat) (E : List Ent) : CT := { c with ents := c.ents.take (behind - c.base) ++ E }
set_option maxHeartbeats 1000000 in
set_option maxRecDepth 100000 in
theorem ladd_prog (hl : LgAt w lb db false room v c) (hd : Dk w db dv T T.size false false 0) (behind : Nat) (sv : Value) (E : List Ent) (hsv : ESl w sv E) (hap : E ≠ [] → Apart lb v sv) (hE : EntsOk E) (hk : c.takes behind E.length = true) (hb : behind < m64)
    (hc : c.Ok) (hs : (wholeB c).size + ((addB behind E).size + 25) ≤ 40000) (hT : T.size + room ≤ 90000) (hEl : c.ents.length ≤ 10000) :
    Calls Try.prog 8 #[.pointer (some ⟨lb, 0, none⟩), .int .u64 (behind : Int), sv] w fun e w' => e = .returned (.int .i64 0) ∧ ∃ v' dv', LgAt w' lb db false (nextR c room (recB 250 (addB behind E))) v' (c.add behind E) ∧
      Dk w' db dv' (nextT c T room (recB 250 (addB behind E))) (nextT c T room (recB 250 (addB behind E))).size false false 0 ∧ LCh lb db v dv w w' v' dv' := by
  have hab : (addB behind E).size = 8 + (entsL E).length := by rw [addB, ofL_size, List.length_append, numL_len]
  have hEn := entsL_len E
  have K1 := Lib.hid (ldown_prog hl hd)
  have K2 := Lib.hid (fun W (hW : LgAt W lb db false room v c) => takes_prog lb v c behind E.length W hW (by omega) hb (by omega))
  have K3 := Lib.hid (fun W (hW : ESl W sv E) => addBody_prog behind sv E W hb hW hE (by omega))
  have K4 := Lib.hid (fun W (hW : LgAt W lb db false room v c) (hW2 : Dk W db dv T T.size false false 0) => lchange_prog hW hW2 250 (addB behind E) hc hs hT hEl)
  rw [redo_add c behind E hb hE hk] at K4
  rw [hk] at K2
  have HT := Lib.hid (two_of hl hd)
  have HD := Lib.hid hd
  have HS := Lib.hid hsv
  have HA := Lib.hid hap
  obtain ⟨B, hB⟩ : ∃ B, addB behind E = B := ⟨_, rfl⟩
  rw [hB] at K3 K4
  rw [hB]
  obtain ⟨sa, sc, rfl, _⟩ := id hsv
  have hlenI : (E.length : Int) ≤ 40000 := by omega
  clear hl hd hsv hap hE hk hb hc hs hT hEl hab hEn hB
  go_enter Try.func8, Try.ntmps8
  go_wp2_with fail
  refine K1.out.mono ?_
  rintro e w1 ⟨rfl, hl1, hc1⟩
  have K2' := Lib.hid (K2.out w1 hl1)
  have HL1 := Lib.hid hl1
  have HD1 := Lib.hid (HD.out.byLog HT.out hc1)
  have HS1 := Lib.hid (HS.out.ch HA.out hc1).1
  have HC1 := Lib.hid hc1
  clear hl1 hc1 K1 K2 HS HD
  go_wp2_with fail
  refine K2'.out.mono ?_
  rintro e w2 ⟨rfl, hs2⟩
  have hb2 := hs2.below w1.heap.size
  have K3' := Lib.hid (K3.out w2 (HS1.out.later hb2))
  have HL2 := Lib.hid (HL1.out.later hb2)
  have HD2 := Lib.hid (HD1.out.later hb2)
  have HC2 := Lib.hid ((LCh.ofLog db dv HC1.out).trans (LCh.ofBelow lb db v dv hb2))
  clear hs2 hb2 K2' K3 HL1 HD1 HC1 HS1
  go_wp2_with fail
  refine K3'.out.mono ?_
  rintro e w3 ⟨rfl, hb3⟩
  have K4' := Lib.hid (K4.out w3 (HL2.out.later hb3) (HD2.out.later hb3))
  have HC3 := Lib.hid (HC2.out.trans (LCh.ofBelow lb db v dv hb3))
  clear hb3 K3' K4 HL2 HD2 HC2
  go_wp2_with fail
  refine K4'.out.mono ?_
  rintro e w4 ⟨rfl, v4, dv4, hl4, hd4, hc4⟩
  have HL4 := Lib.hid hl4
  have HD4 := Lib.hid hd4
  have HC4 := Lib.hid (HC3.out.trans hc4)
  clear hl4 hd4 hc4 K4'
  go_wp2_with fail
  go_ret
  exact ⟨rfl, v4, dv4, HL4.out, HD4.out, HC4.out⟩

set_option maxHeartbeats 1000000 in
set_option maxRecDepth 100000 in
theorem lterm_prog (hl : LgAt w lb db false room v c) (hd : Dk w db dv T T.size false false 0) (t : Nat) (x : Int) (hk : c.votes t x = true) (ht : t < m64) (hx : x < 9223372036854775808)
    (hc : c.Ok) (hs : (wholeB c).size + ((voteB t x).size + 25) ≤ 40000) (hT : T.size + room ≤ 90000) (hEl : c.ents.length ≤ 10000) :
    Calls Try.prog 13 #[.pointer (some ⟨lb, 0, none⟩), .int .u64 (t : Int), .int .i64 x] w fun e w' => e = .returned (.int .i64 0) ∧ ∃ v' dv', LgAt w' lb db false (nextR c room (recB 249 (voteB t x))) v' { c with term := t, vote := x } ∧
      Dk w' db dv' (nextT c T room (recB 249 (voteB t x))) (nextT c T room (recB 249 (voteB t x))).size false false 0 ∧ LCh lb db v dv w w' v' dv' := by
  have K1 := Lib.hid (ldown_prog hl hd)
  have K2 := Lib.hid (fun W (hW : LgAt W lb db false room v c) => votes_prog lb v c t x W hW)
  have K3 := Lib.hid (fun W => voteBody_prog t x W ht)
  have K4 := Lib.hid (fun W (hW : LgAt W lb db false room v c) (hW2 : Dk W db dv T T.size false false 0) => lchange_prog hW hW2 249 (voteB t x) hc hs hT hEl)
  rw [redo_vote c t x ht hx hk] at K4
  rw [hk] at K2
  have HT := Lib.hid (two_of hl hd)
  have HD := Lib.hid hd
  obtain ⟨B, hB⟩ : ∃ B, voteB t x = B := ⟨_, rfl⟩
  rw [hB] at K3 K4
  rw [hB]
  clear hl hd hk ht hx hc hs hT hEl hB
  go_enter Try.func13, Try.ntmps13
  go_wp2_with fail
  refine K1.out.mono ?_
  rintro e w1 ⟨rfl, hl1, hc1⟩
  have K2' := Lib.hid (K2.out w1 hl1)
  have HL1 := Lib.hid hl1
  have HD1 := Lib.hid (HD.out.byLog HT.out hc1)
  have HC1 := Lib.hid hc1
  clear hl1 hc1 K1 K2 HD
  go_wp2_with fail
  refine K2'.out.mono ?_
  rintro e w2 ⟨rfl, rfl⟩
  have K3' := Lib.hid (K3.out w2)
  clear K2' K3
  go_wp2_with fail
  refine K3'.out.mono ?_
  rintro e w3 ⟨rfl, hb3⟩
  have K4' := Lib.hid (K4.out w3 (HL1.out.later hb3) (HD1.out.later hb3))
  have HC3 := Lib.hid ((LCh.ofLog db dv HC1.out).trans (LCh.ofBelow lb db v dv hb3))
  clear hb3 K3' K4
  go_wp2_with fail
  refine K4'.out.mono ?_
  rintro e w4 ⟨rfl, v4, dv4, hl4, hd4, hc4⟩
  have HL4 := Lib.hid hl4
  have HD4 := Lib.hid hd4
  have HC4 := Lib.hid (HC3.out.trans hc4)
  clear hl4 hd4 hc4 K4'
  go_wp2_with fail
  go_ret
  exact ⟨rfl, v4, dv4, HL4.out, HD4.out, HC4.out⟩

set_option maxHeartbeats 1000000 in
set_option maxRecDepth 100000 in
theorem open_prog (hd : Dk w db dv T T.size false false 0) (hT : T.size ≤ 40000) (hR : readC T = some c) :
    Calls Try.prog 7 #[.pointer (some ⟨db, 0, none⟩)] w fun e w' => ∃ lb v, e = .returned (.tuple #[.pointer (some ⟨lb, 0, none⟩), .int .i64 0]) ∧ w.heap.size ≤ lb ∧ LgAt w' lb db false 0 v c ∧ (∀ k, v.ownBlock = some k → w.heap.size ≤ k) ∧ Below w.heap.size w w' := by
  have K1 := Lib.hid (read_free hd)
  have K2 := Lib.hid (read_prog' T w hT)
  rw [hR] at K2
  have K3 := Lib.hid (fun W (hW : Dk W db dv T T.size false false 0) => waits_prog hW (Nat.le_refl _) (by omega))
  have e0 : (T.size : Int) - ((T.size : Nat) : Int) = 0 := by omega
  rw [e0] at K3
  have HD := Lib.hid hd
  clear hd hT hR e0
  go_enter Try.func7, Try.ntmps7
  go_wp2_with fail
  refine K1.out.mono ?_
  rintro e w1 ⟨rfl, rfl⟩
  go_wp2_with fail
  refine K2.out.mono ?_
  rintro e w2 ⟨⟨c2, v2, rfl, ⟨a, n, cp, rfl⟩, hgot⟩, hb2⟩
  obtain ⟨rfl, ho⟩ := hgot c rfl
  have HO := Lib.hid ho
  have HB2 := Lib.hid hb2
  clear hgot ho hb2 K1 K2
  unfold ctC
  go_wp2_with fail
  obtain ⟨G, hG⟩ : ∃ G, w2.heap.size = G := ⟨_, rfl⟩
  obtain ⟨W3, hW3⟩ : ∃ W3, W3 = w2.alloc (.cells #[.int .u64 (c.term : Int), .int .i64 c.vote, .int .u64 (c.base : Int), .int .u64 (c.bterm : Int), .string c.state, .slice a n cp] 58) := ⟨_, rfl⟩
  have ha3 : Below w2.heap.size w2 W3 := by rw [hW3]; exact (Below.refl _ _).alloc (Nat.le_refl _) _
  have hz3 : W3.heap[G]? = some (.cells #[.int .u64 (c.term : Int), .int .i64 c.vote, .int .u64 (c.base : Int), .int .u64 (c.bterm : Int), .string c.state, .slice a n cp] 58 (0, 0)) := by rw [hW3, ← hG]; exact heap_alloc_new _ _
  have hs3 : W3.heap.size = G + 1 := by rw [hW3, ← hG]; simp
  have hb3 := HB2.out.trans (ha3.mono HB2.out.size)
  have ho3 := HO.out.later ha3
  have hGw : w1.heap.size ≤ G := by rw [← hG]; exact HB2.out.size
  rw [← hW3, hG]
  have K3' := Lib.hid (K3.out W3 (HD.out.later (hb3.mono (Nat.le_refl _))))
  have HZ3 := Lib.hid hz3
  have HS3 := Lib.hid hs3
  have HB3 := Lib.hid hb3
  have HO3 := Lib.hid ho3
  have HGW := Lib.hid hGw
  clear hW3 ha3 hz3 hs3 hb3 ho3 hGw hG HO HB2 K3
  refine K3'.out.mono ?_
  rintro e w4 ⟨rfl, hs4⟩
  have hz4 : w4.heap[G]? = some (.cells #[.int .u64 (c.term : Int), .int .i64 c.vote, .int .u64 (c.base : Int), .int .u64 (c.bterm : Int), .string c.state, .slice a n cp] 58 (0, 0)) := by
    obtain ⟨q, rfl⟩ := hs4; exact HZ3.out
  have hb4 := HB3.out.trans (hs4.below _)
  have ho4 := HO3.out.later (hs4.below _)
  have hs4' : w4.heap.size = G + 1 := by rw [hs4.size]; exact HS3.out
  obtain ⟨m0, m1, m2, m3, m4, m5⟩ := cells6 hz4
  have HB4 := Lib.hid hb4
  have HO4 := Lib.hid ho4
  have HS4 := Lib.hid hs4'
  clear hz4 hb4 ho4 hs4 hs4' HZ3 HS3 HB3 HO3 K3'
  go_wp2_with fail
  go_ret2
  have hsz := HS4.out
  have hgw := HGW.out
  refine ⟨w4.heap.size, .slice a n cp, rfl, by omega, ⟨heap_alloc_new _ _, (HO4.out.base (fun _ _ => Nat.zero_le _)).later ((Below.refl _ _).alloc (Nat.le_refl _) _), fun e => by have := HO4.out.lt _ e; omega⟩, HO4.out.low, HB4.out.alloc (by omega) _⟩
end
end Go.Proofs.Ytfocljmjejniiaa
