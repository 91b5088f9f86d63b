/- log: a log and its disk in memory; Down, swap, write. -/
import Derived.Test.YtfocljmjejniiaaGRead
import Derived.Test.YtfocljmjejniiaaDCrash
namespace Go.Proofs.Ytfocljmjejniiaa
open Go.RowKit

/-- Block lb is a log over the disk db. -/
def LgAt (w : World) (lb db : Nat) (dn : Bool) (room : Nat) (v : Value) (c : CT) : Prop := CtAt w lb 63 [.pointer (some ⟨db, 0, none⟩), .bool dn, .int .i64 (room : Int)] v c
section
variable {w w' : World} {lb db room : Nat} {dn : Bool} {v dv : Value} {c : CT} {T : ByteArray}
theorem LgAt.more (h : LgAt w lb db dn room v c) : w.cell? ⟨lb, 6, none⟩ = some (.pointer (some ⟨db, 0, none⟩)) ∧ w.cell? ⟨lb, 7, none⟩ = some (.bool dn) ∧ w.cell? ⟨lb, 8, none⟩ = some (.int .i64 (room : Int)) := by
  have h1 := h.1
  simp [World.cell?, h1, ctL]
theorem LgAt.set7 (h : LgAt w lb db dn room v c) (x : Bool) : LgAt (w.setCell ⟨lb, 7, none⟩ (.bool x)) lb db x room v c :=
  ⟨by have := heap_setCell_same w lb 7 _ _ (.bool x) h.1; simpa [ctL] using this, h.2.1.mv fun k hk => heap_setCell_other w ⟨lb, 7, none⟩ k _ (fun e => h.2.2 (by rw [hk, e])), h.2.2⟩
theorem LgAt.set8 (h : LgAt w lb db dn room v c) (x : Nat) : LgAt (w.setCell ⟨lb, 8, none⟩ (.int .i64 (x : Int))) lb db dn x v c :=
  ⟨by have := heap_setCell_same w lb 8 _ _ (.int .i64 (x : Int)) h.1; simpa [ctL] using this, h.2.1.mv fun k hk => heap_setCell_other w ⟨lb, 8, none⟩ k _ (fun e => h.2.2 (by rw [hk, e])), h.2.2⟩
/-- The log's blocks are not the disk's: their types are others. -/
structure Two (lb db : Nat) (v dv : Value) : Prop where
  ne : lb ≠ db
  v_db : v.ownBlock ≠ some db
  dv_lb : dv.ownBlock ≠ some lb
  v_dv : ∀ k, v.ownBlock = some k → dv.ownBlock ≠ some k
theorem BRow.typ {e : TypeId} (h : BRow w e dv T) : ∀ k, dv.ownBlock = some k → ∃ cur fz, w.heap[k]? = some (.cells cur e fz) := by
  intro k hk
  rcases h with ⟨rfl, _⟩ | ⟨g, cap, cur, fz, rfl, hg, _⟩
  · simp [Value.ownBlock] at hk
  · have : g = k := by simpa [Value.ownBlock] using hk
    subst this
    exact ⟨cur, fz, hg⟩
theorem EOwn.typ {B : Nat} {E : List Ent} (h : EOwn w B v E) : ∀ k, v.ownBlock = some k → ∃ cur, w.heap[k]? = some (.cells cur 37 (0, 0)) := by
  intro k hk
  rcases h.2 with ⟨rfl, _⟩ | ⟨g, cap, cur, rfl, _, hg, _⟩
  · simp [Value.ownBlock] at hk
  · have : g = k := by simpa [Value.ownBlock] using hk
    subst this
    exact ⟨cur, hg⟩
theorem two_of {n k : Nat} {d2 lim : Bool} (h : LgAt w lb db dn room v c) (hd : Dk w db dv T n d2 lim k) : Two lb db v dv := by
  have h1 := h.1
  have h2 := hd.1
  refine ⟨fun e => ?_, fun e => ?_, fun e => ?_, fun k hk e => ?_⟩
  · rw [e, h2] at h1
    injection h1 with h1
    injection h1 with _ h1 _
    exact absurd h1 (by decide)
  · obtain ⟨cur, hk⟩ := h.2.1.typ db e
    rw [hk] at h2
    injection h2 with h2
    injection h2 with _ h2 _
    exact absurd h2 (by decide)
  · obtain ⟨cur, fz, hk⟩ := hd.2.1.typ lb e
    rw [hk] at h1
    injection h1 with h1
    injection h1 with _ h1 _
    exact absurd h1 (by decide)
  · obtain ⟨cur, h3⟩ := h.2.1.typ k hk
    obtain ⟨cur2, fz2, h4⟩ := hd.2.1.typ k e
    rw [h3] at h4
    injection h4 with h4
    injection h4 with _ h4 _
    exact absurd h4 (by decide)

/-- From w to w' only the log's blocks and the disk's have turned. -/
structure LCh (lb db : Nat) (v dv : Value) (w w' : World) (v' dv' : Value) : Prop where
  os : w'.os = w.os
  tape : w'.tape = w.tape
  output : w'.output = w.output
  size : w.heap.size ≤ w'.heap.size
  block : ∀ j, j < w.heap.size → j ≠ lb → j ≠ db → v.ownBlock ≠ some j → dv.ownBlock ≠ some j → w'.heap[j]? = w.heap[j]?
  vloc : ∀ j, v'.ownBlock = some j → v.ownBlock = some j ∨ w.heap.size ≤ j
  dloc : ∀ j, dv'.ownBlock = some j → dv.ownBlock = some j ∨ w.heap.size ≤ j
theorem LCh.refl (lb db : Nat) (v dv : Value) (w : World) : LCh lb db v dv w w v dv := ⟨rfl, rfl, rfl, Nat.le_refl _, fun _ _ _ _ _ _ => rfl, fun _ h => .inl h, fun _ h => .inl h⟩
theorem LCh.trans {v1 v2 v3 d1 d2 d3 : Value} {w1 w2 w3 : World} (h : LCh lb db v1 d1 w1 w2 v2 d2) (k : LCh lb db v2 d2 w2 w3 v3 d3) : LCh lb db v1 d1 w1 w3 v3 d3 :=
  ⟨k.os.trans h.os, k.tape.trans h.tape, k.output.trans h.output, Nat.le_trans h.size k.size,
   fun j hj h1 h2 h3 h4 => (k.block j (Nat.lt_of_lt_of_le hj h.size) h1 h2 (fun e => by
     rcases h.vloc j e with e2 | e2
     · exact h3 e2
     · omega) (fun e => by
     rcases h.dloc j e with e2 | e2
     · exact h4 e2
     · omega)).trans (h.block j hj h1 h2 h3 h4),
   fun j hj => by
     rcases k.vloc j hj with e | e
     · exact h.vloc j e
     · exact .inr (Nat.le_trans h.size e),
   fun j hj => by
     rcases k.dloc j hj with e | e
     · exact h.dloc j e
     · exact .inr (Nat.le_trans h.size e)⟩
theorem LCh.ofBelow (lb db : Nat) (v dv : Value) (h : Below w.heap.size w w') : LCh lb db v dv w w' v dv := ⟨h.os, h.tape, h.output, h.size, fun j hj _ _ _ _ => h.block j hj, fun _ h => .inl h, fun _ h => .inl h⟩
theorem LCh.ofLog {v' : Value} (db : Nat) (dv : Value) (h : Ch lb v w w' v') : LCh lb db v dv w w' v' dv := ⟨h.os, h.tape, h.output, h.size, fun j hj h1 _ h3 _ => h.block j hj h1 h3, h.loc, fun _ h => .inl h⟩
theorem LCh.ofDisk {dv' : Value} (lb : Nat) (v : Value) (h : Ch db dv w w' dv') : LCh lb db v dv w w' v dv' := ⟨h.os, h.tape, h.output, h.size, fun j hj _ h2 _ h4 => h.block j hj h2 h4, fun _ h => .inl h, h.loc⟩
/-- The disk is as it was, behind a change of the log alone; and the other way round. -/
theorem Dk.byLog {n k : Nat} {d2 lim : Bool} {v' : Value} (hd : Dk w db dv T n d2 lim k) (t : Two lb db v dv) (h : Ch lb v w w' v') : Dk w' db dv T n d2 lim k :=
  hd.keep (h.block db hd.lt t.ne.symm t.v_db) (fun j hj => h.block j (hd.2.1.lt j hj) (fun e => t.dv_lb (by rw [hj, e])) (fun e => t.v_dv j e hj))
theorem LgAt.byDisk {dv' : Value} (hl : LgAt w lb db dn room v c) (t : Two lb db v dv) (h : Ch db dv w w' dv') : LgAt w' lb db dn room v c :=
  CtAt.mv hl (h.block lb (CtAt.lt hl) t.ne t.dv_lb) (fun j hj => h.block j (hl.2.1.lt j hj) (fun e => t.v_db (by rw [hj, e])) (t.v_dv j hj))
theorem LgAt.later (hl : LgAt w lb db dn room v c) (h : Below w.heap.size w w') : LgAt w' lb db dn room v c := CtAt.later hl h
end

section
variable {w : World} {lb db room : Nat} {v dv : Value} {c : CT} {T : ByteArray}
set_option maxRecDepth 100000 in
theorem ldown_prog (hl : LgAt w lb db false room v c) (hd : Dk w db dv T T.size false false 0) :
    Calls Try.prog 22 #[.pointer (some ⟨lb, 0, none⟩)] w fun e w' => e = .returned (.bool false) ∧ LgAt w' lb db false room v c ∧ Ch lb v w w' v := by
  obtain ⟨m6, m7, m8⟩ := hl.more
  have z7 := CtAt.free hl 7
  have K := Lib.hid (down_prog hd)
  have H := Lib.hid (hl.set7 false)
  clear hl hd m8
  go_enter Try.func22, Try.ntmps22
  go_wp2_with fail
  refine K.out.mono ?_
  rintro e w1 ⟨rfl, rfl⟩
  go_wp2_with fail
  go_ret
  exact ⟨rfl, H.out, Ch.set _ _ _ _ _⟩
theorem swap_free {n : Nat} (h : Dk w db dv T n false false 0) (s : ByteArray) (hlim : s.size ≤ 100000) :
    Calls Try.prog 64 #[.pointer (some ⟨db, 0, none⟩), .string s] w fun e w' => e = .returned (.int .i64 0) ∧ ∃ v', Dk w' db v' s s.size false false 0 ∧ Ch db dv w w' v' := swap_prog h (by omega) s hlim
theorem append_free {n : Nat} (h : Dk w db dv T n false false 0) (s : ByteArray) (hlim : T.size + s.size ≤ 100000) :
    Calls Try.prog 53 #[.pointer (some ⟨db, 0, none⟩), .string s] w fun e w' => e = .returned (.int .i64 0) ∧ ∃ v', Dk w' db v' (T ++ s) n false false 0 ∧ Ch db dv w w' v' := append_prog h (by omega) s hlim
theorem sync_free {n : Nat} (h : Dk w db dv T n false false 0) :
    Calls Try.prog 21 #[.pointer (some ⟨db, 0, none⟩)] w fun e w' => e = .returned (.int .i64 0) ∧ Dk w' db dv T T.size false false 0 ∧ Ch db dv w w' dv := sync_prog h (by omega)
theorem read_free {n : Nat} (h : Dk w db dv T n false false 0) : Calls Try.prog 18 #[.pointer (some ⟨db, 0, none⟩)] w fun e w' => e = .returned (.tuple #[.string T, .int .i64 0]) ∧ w' = w := read_prog h

set_option maxRecDepth 100000 in
theorem lswap_prog (hl : LgAt w lb db false room v c) (hd : Dk w db dv T T.size false false 0) (s : ByteArray) (hs : s.size ≤ 100000) :
    Calls Try.prog 51 #[.pointer (some ⟨lb, 0, none⟩), .string s] w fun e w' => e = .returned (.bool true) ∧ ∃ dv', LgAt w' lb db false s.size v c ∧ Dk w' db dv' s s.size false false 0 ∧ LCh lb db v dv w w' v dv' := by
  obtain ⟨m6, m7, m8⟩ := hl.more
  have z8 := CtAt.free hl 8
  have t := two_of hl hd
  have hc1 : Ch lb v w (w.setCell ⟨lb, 8, none⟩ (.int .i64 (s.size : Int))) v := Ch.set lb 8 v w _
  have hl1 := hl.set8 s.size
  have hd1 := hd.byLog t hc1
  have K := Lib.hid (swap_free hd1 s hs)
  have t1 := two_of hl1 hd1
  have HL1 := Lib.hid hl1
  have HT1 := Lib.hid t1
  have HC1 := Lib.hid hc1
  have hsI : (s.size : Int) ≤ 100000 := by omega
  clear hl hd m7 hc1 hl1 hd1 t1 t hs
  go_enter Try.func51, Try.ntmps51
  go_wp2_with fail
  refine K.out.mono ?_
  rintro e w2 ⟨rfl, dv2, hd2, hc2⟩
  have HL2 := Lib.hid (HL1.out.byDisk HT1.out hc2)
  have HD2 := Lib.hid hd2
  have HC2 := Lib.hid ((LCh.ofLog db dv HC1.out).trans (LCh.ofDisk lb v hc2))
  clear hd2 hc2
  go_wp2_with fail
  go_ret
  exact ⟨rfl, dv2, HL2.out, HD2.out, HC2.out⟩

/-- What stands there behind a write, and the room that is left. -/
def nextT (c : CT) (T : ByteArray) (room : Nat) (r : ByteArray) : ByteArray := if room < r.size then wholeB c ++ r else T ++ r
def nextR (c : CT) (room : Nat) (r : ByteArray) : Nat := if room < r.size then (wholeB c ++ r).size else room - r.size
set_option maxHeartbeats 1000000 in
set_option maxRecDepth 100000 in
theorem lwrite_prog (hl : LgAt w lb db false room v c) (hd : Dk w db dv T T.size false false 0) (r : ByteArray) (hc : c.Ok) (hs : (wholeB c).size + r.size ≤ 40000) (hT : T.size + room ≤ 90000) :
    Calls Try.prog 39 #[.pointer (some ⟨lb, 0, none⟩), .string r] w fun e w' => e = .returned (.bool true) ∧ ∃ dv', LgAt w' lb db false (nextR c room r) v c ∧ Dk w' db dv' (nextT c T room r) (nextT c T room r).size false false 0 ∧ LCh lb db v dv w w' v dv' := by
  obtain ⟨m0, m1, m2, m3, m4, m5⟩ := CtAt.cells hl
  obtain ⟨m6, m7, m8⟩ := hl.more
  have z8 := CtAt.free hl 8
  have hrI : (r.size : Int) ≤ 40000 := by omega
  have hroomI : (room : Int) ≤ 90000 := by omega
  have HL := Lib.hid hl
  have HD := Lib.hid hd
  by_cases hr : room < r.size
  · have hrI2 : (room : Int) < (r.size : Int) := by omega
    have e1 : nextT c T room r = wholeB c ++ r := if_pos hr
    have e2 : nextR c room r = (wholeB c ++ r).size := if_pos hr
    rw [e1, e2]
    have hwb : (wholeB c).size = (bodyL c).length + 25 := by rw [wholeB, recB_size, ofL_size]
    have K1 := whole_prog c v w hc hl.2.1.sl (by rw [bodyL_len] at hwb; omega)
    unfold ctC at K1
    have K1 := Lib.hid K1
    have hadd : ¬ (9223372036854775807 < (wholeB c).size + r.size) := by omega
    have K2 := Lib.hid (fun W (hW : LgAt W lb db false room v c) (hW2 : Dk W db dv T T.size false false 0) => lswap_prog hW hW2 (wholeB c ++ r) (by rw [ByteArray.size_append]; omega))
    obtain ⟨va, vc, rfl, _⟩ := hl.2.1.shape
    obtain ⟨Q, hQ⟩ : ∃ Q, wholeB c = Q := ⟨_, rfl⟩
    rw [hQ] at K1 K2 hadd ⊢
    clear hl hd hs hT hc e1 e2 hwb hr hQ m6 m7 z8
    go_enter Try.func39, Try.ntmps39
    go_wp2_with fail
    refine K1.out.mono ?_
    rintro e w1 ⟨rfl, hb1⟩
    have K2' := Lib.hid (K2.out w1 (HL.out.later hb1) (HD.out.later hb1))
    have HB1 := Lib.hid hb1
    clear hb1 K1 K2
    go_wp2_with fail
    refine K2'.out.mono ?_
    rintro e w2 ⟨rfl, dv2, hl2, hd2, hc2⟩
    have HL2 := Lib.hid hl2
    have HD2 := Lib.hid hd2
    have HC2 := Lib.hid ((LCh.ofBelow lb db _ dv HB1.out).trans hc2)
    clear hl2 hd2 hc2
    go_wp2_with fail
    go_ret
    exact ⟨rfl, dv2, HL2.out, HD2.out, HC2.out⟩
  · have hrI2 : ¬ (room : Int) < (r.size : Int) := by omega
    have hrI3 : (r.size : Int) ≤ (room : Int) := by omega
    have e1 : nextT c T room r = T ++ r := if_neg hr
    have e2 : nextR c room r = room - r.size := if_neg hr
    have e3 : (room : Int) - (r.size : Int) = ((room - r.size : Nat) : Int) := by omega
    rw [e1, e2]
    have t := two_of hl hd
    have hc1 : Ch lb v w (w.setCell ⟨lb, 8, none⟩ (.int .i64 ((room - r.size : Nat) : Int))) v := Ch.set lb 8 v w _
    have hl1 := hl.set8 (room - r.size)
    have hd1 := hd.byLog t hc1
    have t1 := two_of hl1 hd1
    have K1 := Lib.hid (append_free hd1 r (by omega))
    have HL1 := Lib.hid hl1
    have HT1 := Lib.hid t1
    have HC1 := Lib.hid hc1
    obtain ⟨q, hq⟩ : ∃ q, room - r.size = q := ⟨_, rfl⟩
    rw [hq] at e3 K1 HL1 HC1 ⊢
    clear hl hd hs hT hc e1 e2 hr t hc1 hl1 hd1 t1 hq m0 m1 m2 m3 m4 m5 m7
    go_enter Try.func39, Try.ntmps39
    go_wp2_with fail
    refine K1.out.mono ?_
    rintro e w2 ⟨rfl, dv2, hd2, hc2⟩
    have hl2 := HL1.out.byDisk HT1.out hc2
    have t2 := two_of hl2 hd2
    obtain ⟨m6', m7', m8'⟩ := hl2.more
    have K2 := Lib.hid (sync_free hd2)
    have HL2 := Lib.hid hl2
    have HT2 := Lib.hid t2
    have HC2 := Lib.hid ((LCh.ofLog db dv HC1.out).trans (LCh.ofDisk lb v hc2))
    clear hl2 t2 hd2 hc2 m7' m8' K1
    go_wp2_with fail
    refine K2.out.mono ?_
    rintro e w3 ⟨rfl, hd3, hc3⟩
    have HL3 := Lib.hid (HL2.out.byDisk HT2.out hc3)
    have HD3 := Lib.hid hd3
    have HC3 := Lib.hid (HC2.out.trans (LCh.ofDisk lb v hc3))
    clear hd3 hc3 K2
    go_wp2_with fail
    go_ret
    exact ⟨rfl, dv2, HL3.out, HD3.out, HC3.out⟩
end
end Go.Proofs.Ytfocljmjejniiaa
