/- log in general: SetTerm, Add. -/
import Derived.Test.YtflkdgghpmhbgaaGreatKC
import Derived.Test.YtflkdgghpmhbgaaGreatKA
import Derived.Test.YtflkdgghpmhbgaaGreatKD
namespace Go.Proofs.YtflkdgghpmhbgaaGreat
open Go.RowKit

/-- Block lb is a log over the disk db. -/
def LgAt (w : World) (lb db : Nat) (dn : Bool) (room : Nat) (v : Value) (c : CT) : Prop := CtAt w lb 121 [.pointer (some ⟨db, 0, none⟩), .bool dn, .int .i64 (room : Int)] v c
section
variable {w w' : World} {lb db room : Nat} {dn : Bool} {v dv : Value} {c : CT} {T : ByteArray}
theorem LgAt.more (h : LgAt w lb db dn room v c) : w.cell? ⟨lb, 6, none⟩ = some (.pointer (some ⟨db, 0, none⟩)) ∧ w.cell? ⟨lb, 7, none⟩ = some (.bool dn) ∧ w.cell? ⟨lb, 8, none⟩ = some (.int .i64 (room : Int)) := by
  have h1 := h.1
  simp [World.cell?, h1, ctL]
theorem LgAt.set7 (h : LgAt w lb db dn room v c) (x : Bool) : LgAt (w.setCell ⟨lb, 7, none⟩ (.bool x)) lb db x room v c :=
  ⟨by have := heap_setCell_same w lb 7 _ _ (.bool x) h.1; simpa [ctL] using this, h.2.1.mv fun k hk => heap_setCell_other w ⟨lb, 7, none⟩ k _ (fun e => h.2.2 (by rw [hk, e])), h.2.2⟩
theorem LgAt.set8 (h : LgAt w lb db dn room v c) (x : Nat) : LgAt (w.setCell ⟨lb, 8, none⟩ (.int .i64 (x : Int))) lb db dn x v c :=
  ⟨by have := heap_setCell_same w lb 8 _ _ (.int .i64 (x : Int)) h.1; simpa [ctL] using this, h.2.1.mv fun k hk => heap_setCell_other w ⟨lb, 8, none⟩ k _ (fun e => h.2.2 (by rw [hk, e])), h.2.2⟩
/-- The log's blocks are not the disk's: their types are others. -/
structure Two (lb db : Nat) (v dv : Value) : Prop where
  ne : lb ≠ db
  v_db : v.ownBlock ≠ some db
  dv_lb : dv.ownBlock ≠ some lb
  v_dv : ∀ k, v.ownBlock = some k → dv.ownBlock ≠ some k
theorem BRow.typ {e : TypeId} (h : BRow w e dv T) : ∀ k, dv.ownBlock = some k → ∃ cur fz, w.heap[k]? = some (.cells cur e fz) := by
  intro k hk
  rcases h with ⟨rfl, _⟩ | ⟨g, cap, cur, fz, rfl, hg, _⟩
  · simp [Value.ownBlock] at hk
  · have : g = k := by simpa [Value.ownBlock] using hk
    subst this
    exact ⟨cur, fz, hg⟩
theorem EOwn.typ {B : Nat} {E : List Ent} (h : EOwn w B v E) : ∀ k, v.ownBlock = some k → ∃ cur, w.heap[k]? = some (.cells cur 70 (0, 0)) := by
  intro k hk
  rcases h.2 with ⟨rfl, _⟩ | ⟨g, cap, cur, rfl, _, hg, _⟩
  · simp [Value.ownBlock] at hk
  · have : g = k := by simpa [Value.ownBlock] using hk
    subst this
    exact ⟨cur, hg⟩
theorem two_of {n k : Nat} {d2 lim : Bool} (h : LgAt w lb db dn room v c) (hd : Dk w db dv T n d2 lim k) : Two lb db v dv := by
  have h1 := h.1
  have h2 := hd.1
  refine ⟨fun e => ?_, fun e => ?_, fun e => ?_, fun k hk e => ?_⟩
  · rw [e, h2] at h1
    injection h1 with h1
    injection h1 with _ h1 _
    exact absurd h1 (by decide)
  · obtain ⟨cur, hk⟩ := h.2.1.typ db e
    rw [hk] at h2
    injection h2 with h2
    injection h2 with _ h2 _
    exact absurd h2 (by decide)
  · obtain ⟨cur, fz, hk⟩ := hd.2.1.typ lb e
    rw [hk] at h1
    injection h1 with h1
    injection h1 with _ h1 _
    exact absurd h1 (by decide)
  · obtain ⟨cur, h3⟩ := h.2.1.typ k hk
    obtain ⟨cur2, fz2, h4⟩ := hd.2.1.typ k e
    rw [h3] at h4
    injection h4 with h4
    injection h4 with _ h4 _
    exact absurd h4 (by decide)

/-- From w to w' only the log's blocks and the disk's have turned. -/
structure LCh (lb db : Nat) (v dv : Value) (w w' : World) (v' dv' : Value) : Prop where
  os : w'.os = w.os
  tape : w'.tape = w.tape
  output : w'.output = w.output
  size : w.heap.size ≤ w'.heap.size
  block : ∀ j, j < w.heap.size → j ≠ lb → j ≠ db → v.ownBlock ≠ some j → dv.ownBlock ≠ some j → w'.heap[j]? = w.heap[j]?
  vloc : ∀ j, v'.ownBlock = some j → v.ownBlock = some j ∨ w.heap.size ≤ j
  dloc : ∀ j, dv'.ownBlock = some j → dv.ownBlock = some j ∨ w.heap.size ≤ j
theorem LCh.refl (lb db : Nat) (v dv : Value) (w : World) : LCh lb db v dv w w v dv := ⟨rfl, rfl, rfl, Nat.le_refl _, fun _ _ _ _ _ _ => rfl, fun _ h => .inl h, fun _ h => .inl h⟩
theorem LCh.trans {v1 v2 v3 d1 d2 d3 : Value} {w1 w2 w3 : World} (h : LCh lb db v1 d1 w1 w2 v2 d2) (k : LCh lb db v2 d2 w2 w3 v3 d3) : LCh lb db v1 d1 w1 w3 v3 d3 :=
  ⟨k.os.trans h.os, k.tape.trans h.tape, k.output.trans h.output, Nat.le_trans h.size k.size,
   fun j hj h1 h2 h3 h4 => (k.block j (Nat.lt_of_lt_of_le hj h.size) h1 h2 (fun e => by
     rcases h.vloc j e with e2 | e2
     · exact h3 e2
     · omega) (fun e => by
     rcases h.dloc j e with e2 | e2
     · exact h4 e2
     · omega)).trans (h.block j hj h1 h2 h3 h4),
   fun j hj => by
     rcases k.vloc j hj with e | e
     · exact h.vloc j e
     · exact .inr (Nat.le_trans h.size e),
   fun j hj => by
     rcases k.dloc j hj with e | e
     · exact h.dloc j e
     · exact .inr (Nat.le_trans h.size e)⟩
theorem LCh.ofBelow (lb db : Nat) (v dv : Value) (h : Below w.heap.size w w') : LCh lb db v dv w w' v dv := ⟨h.os, h.tape, h.output, h.size, fun j hj _ _ _ _ => h.block j hj, fun _ h => .inl h, fun _ h => .inl h⟩
theorem LCh.ofLog {v' : Value} (db : Nat) (dv : Value) (h : Ch lb v w w' v') : LCh lb db v dv w w' v' dv := ⟨h.os, h.tape, h.output, h.size, fun j hj h1 _ h3 _ => h.block j hj h1 h3, h.loc, fun _ h => .inl h⟩
theorem LCh.ofDisk {dv' : Value} (lb : Nat) (v : Value) (h : Ch db dv w w' dv') : LCh lb db v dv w w' v dv' := ⟨h.os, h.tape, h.output, h.size, fun j hj _ h2 _ h4 => h.block j hj h2 h4, fun _ h => .inl h, h.loc⟩
/-- The disk is as it was, behind a change of the log alone; and the other way round. -/
theorem Dk.byLog {n k : Nat} {d2 lim : Bool} {v' : Value} (hd : Dk w db dv T n d2 lim k) (t : Two lb db v dv) (h : Ch lb v w w' v') : Dk w' db dv T n d2 lim k :=
  hd.keep (h.block db hd.lt t.ne.symm t.v_db) (fun j hj => h.block j (hd.2.1.lt j hj) (fun e => t.dv_lb (by rw [hj, e])) (fun e => t.v_dv j e hj))
theorem LgAt.byDisk {dv' : Value} (hl : LgAt w lb db dn room v c) (t : Two lb db v dv) (h : Ch db dv w w' dv') : LgAt w' lb db dn room v c :=
  CtAt.mv hl (h.block lb (CtAt.lt hl) t.ne t.dv_lb) (fun j hj => h.block j (hl.2.1.lt j hj) (fun e => t.v_db (by rw [hj, e])) (t.v_dv j hj))
theorem LgAt.later (hl : LgAt w lb db dn room v c) (h : Below w.heap.size w w') : LgAt w' lb db dn room v c := CtAt.later hl h
end

end Go.Proofs.YtflkdgghpmhbgaaGreat
namespace Go.Proofs.YtflkdgghpmhbgaaGreat
open Go.RowKit

/-- A disk: its bytes, how many are sure, whether it is down, whether its steps are limited, how many are left. -/
structure DS where
  T : ByteArray
  n : Nat
  dn : Bool
  lim : Bool
  k : Nat
def DS.ok (d : DS) : Bool := stOk d.dn d.lim d.k
def DS.app (d : DS) (s : ByteArray) : DS := ⟨if d.ok then d.T ++ s else d.T, d.n, stDn d.dn d.lim d.k, d.lim, stK d.dn d.lim d.k⟩
def DS.sync (d : DS) : DS := ⟨d.T, if d.ok then d.T.size else d.n, stDn d.dn d.lim d.k, d.lim, stK d.dn d.lim d.k⟩
def DS.swap (d : DS) (s : ByteArray) : DS := ⟨if d.ok then s else d.T, if d.ok then s.size else d.n, stDn d.dn d.lim d.k, d.lim, stK d.dn d.lim d.k⟩
def DkS (w : World) (b : Nat) (v : Value) (d : DS) : Prop := Dk w b v d.T d.n d.dn d.lim d.k
/-- A log: its content, its room, whether it was down once, its disk. -/
structure LgS where
  c : CT
  room : Nat
  dn : Bool
  d : DS
def LgS.down (s : LgS) : LgS := { s with dn := s.dn || s.d.dn }
def LgS.swap (s : LgS) (b : ByteArray) : LgS × Bool := ({ s with room := b.size, d := s.d.swap b }, s.d.ok)
def LgS.write (s : LgS) (r : ByteArray) : LgS × Bool :=
  if s.room < r.size then s.swap (wholeB s.c ++ r)
  else if s.d.ok then ({ s with room := s.room - r.size, d := (s.d.app r).sync }, (s.d.app r).ok)
  else ({ s with room := s.room - r.size, d := s.d.app r }, false)
def LgS.change (s : LgS) (k : UInt8) (body : ByteArray) : LgS × Int :=
  if (s.write (recB k body)).2 then ({ (s.write (recB k body)).1 with c := (redoC s.c k body).getD s.c }, 0)
  else ({ (s.write (recB k body)).1 with dn := true }, 3)
theorem LgS.write_c (s : LgS) (r : ByteArray) : (s.write r).1.c = s.c := by
  unfold LgS.write
  split
  · rfl
  · split <;> rfl

structure LW (w : World) (lb db : Nat) (v dv : Value) (s : LgS) : Prop where
  log : LgAt w lb db s.dn s.room v s.c
  disk : DkS w db dv s.d
/-- What a call leaves: the log and its disk are so, and nothing else has turned. -/
def LO (lb db : Nat) (v dv : Value) (w : World) (s : LgS) (w' : World) : Prop := ∃ v' dv', LW w' lb db v' dv' s ∧ LCh lb db v dv w w' v' dv'
section
variable {w w' : World} {lb db : Nat} {v dv v' dv' : Value} {s : LgS}
theorem LW.two (h : LW w lb db v dv s) : Two lb db v dv := two_of h.log h.disk
theorem LW.later (h : LW w lb db v dv s) (hb : Below w.heap.size w w') : LW w' lb db v dv s := ⟨h.log.later hb, Dk.later h.disk hb⟩
theorem LW.byDisk {d : DS} (h : LW w lb db v dv s) (hd : DkS w' db dv' d) (hc : Ch db dv w w' dv') : LW w' lb db v dv' { s with d := d } := ⟨h.log.byDisk h.two hc, hd⟩
theorem LW.byLog {b : Bool} {room : Nat} {c : CT} (h : LW w lb db v dv s) (hl : LgAt w' lb db b room v' c) (hc : Ch lb v w w' v') : LW w' lb db v' dv ⟨c, room, b, s.d⟩ := ⟨hl, Dk.byLog h.disk h.two hc⟩
theorem LW.set7 (h : LW w lb db v dv s) (x : Bool) : LW (w.setCell ⟨lb, 7, none⟩ (.bool x)) lb db v dv { s with dn := x } := h.byLog (h.log.set7 x) (Ch.set _ _ _ _ _)
theorem LW.set8 (h : LW w lb db v dv s) (x : Nat) : LW (w.setCell ⟨lb, 8, none⟩ (.int .i64 (x : Int))) lb db v dv { s with room := x } := h.byLog (h.log.set8 x) (Ch.set _ _ _ _ _)
theorem LCh.cell (lb db : Nat) (v dv : Value) (w : World) (o : Nat) (x : Value) : LCh lb db v dv w (w.setCell ⟨lb, o, none⟩ x) v dv := LCh.ofLog db dv (Ch.set _ _ _ _ _)
theorem LO.of (h : LW w' lb db v' dv' s) (hc : LCh lb db v dv w w' v' dv') : LO lb db v dv w s w' := ⟨v', dv', h, hc⟩

theorem kswap_prog (h : LW w lb db v dv s) (hk : s.d.k ≤ 9223372036854775807) (b : ByteArray) (hb : b.size ≤ 1000000000) :
    Calls Tryz.prog 190 #[.pointer (some ⟨db, 0, none⟩), .string b] w fun e w' => e = .returned (.int .i64 (errOf s.d.ok)) ∧ ∃ dv', LW w' lb db v dv' { s with d := s.d.swap b } ∧ LCh lb db v dv w w' v dv' := by
  refine (swap_prog h.disk hk b hb).mono ?_
  rintro e w' ⟨he, v', hd, hc⟩
  exact ⟨he, v', h.byDisk (d := s.d.swap b) hd hc, LCh.ofDisk lb v hc⟩
theorem kapp_prog (h : LW w lb db v dv s) (hk : s.d.k ≤ 9223372036854775807) (b : ByteArray) (hb : s.d.T.size + b.size ≤ 1000000000) :
    Calls Tryz.prog 192 #[.pointer (some ⟨db, 0, none⟩), .string b] w fun e w' => e = .returned (.int .i64 (errOf s.d.ok)) ∧ ∃ dv', LW w' lb db v dv' { s with d := s.d.app b } ∧ LCh lb db v dv w w' v dv' := by
  refine (append_prog h.disk hk b hb).mono ?_
  rintro e w' ⟨he, v', hd, hc⟩
  exact ⟨he, v', h.byDisk (d := s.d.app b) hd hc, LCh.ofDisk lb v hc⟩
theorem ksync_prog (h : LW w lb db v dv s) (hk : s.d.k ≤ 9223372036854775807) :
    Calls Tryz.prog 59 #[.pointer (some ⟨db, 0, none⟩)] w fun e w' => e = .returned (.int .i64 (errOf s.d.ok)) ∧ LW w' lb db v dv { s with d := s.d.sync } ∧ LCh lb db v dv w w' v dv := by
  refine (sync_prog h.disk hk).mono ?_
  rintro e w' ⟨he, hd, hc⟩
  exact ⟨he, h.byDisk (d := s.d.sync) hd hc, LCh.ofDisk lb v hc⟩
theorem errOf_t : errOf true = 0 := rfl
theorem errOf_f : errOf false = 3 := rfl
theorem stK_le (dn lim : Bool) (k : Nat) : stK dn lim k ≤ k := by unfold stK; split <;> omega

set_option maxRecDepth 100000 in
theorem hdown_prog (h : LW w lb db v dv s) : Calls Tryz.prog 60 #[.pointer (some ⟨lb, 0, none⟩)] w fun e w' => e = .returned (.bool (s.dn || s.d.dn)) ∧ LW w' lb db v dv s.down ∧ Ch lb v w w' v := by
  obtain ⟨m6, m7, m8⟩ := h.log.more
  have z7 := CtAt.free h.log 7
  have K := Lib.hid (down_prog h.disk)
  have H := Lib.hid (h.set7 (s.dn || s.d.dn))
  have e0 : s.down = { s with dn := s.dn || s.d.dn } := rfl
  rw [e0]
  obtain ⟨x, hx⟩ : ∃ x, s.dn = x := ⟨_, rfl⟩
  obtain ⟨y, hy⟩ : ∃ y, s.d.dn = y := ⟨_, rfl⟩
  obtain ⟨s2, hs2⟩ : ∃ s2 : LgS, { s with dn := s.dn || s.d.dn } = s2 := ⟨_, rfl⟩
  rw [hs2] at H ⊢
  rw [hx] at m7
  rw [hx, hy] at H ⊢
  rw [hy] at K
  clear h m8 e0 hs2 hx hy
  cases x
  · go_enter Tryz.func60, Tryz.ntmps60
    go_wp2_with fail
    refine K.out.mono ?_
    rintro e w1 ⟨rfl, rfl⟩
    cases y
    all_goals
      go_wp2_with fail
      go_ret
      exact ⟨rfl, H.out, Ch.set _ _ _ _ _⟩
  · go_enter Tryz.func60, Tryz.ntmps60
    go_wp2_with fail
    go_ret
    exact ⟨rfl, H.out, Ch.set _ _ _ _ _⟩

set_option maxRecDepth 100000 in
theorem hswap_prog (h : LW w lb db v dv s) (hk : s.d.k ≤ 9223372036854775807) (b : ByteArray) (hb : b.size ≤ 1000000000) :
    Calls Tryz.prog 170 #[.pointer (some ⟨lb, 0, none⟩), .string b] w fun e w' => e = .returned (.bool (s.swap b).2) ∧ ∃ dv', LW w' lb db v dv' (s.swap b).1 ∧ LCh lb db v dv w w' v dv' := by
  obtain ⟨m6, m7, m8⟩ := h.log.more
  have z8 := CtAt.free h.log 8
  have K := Lib.hid (kswap_prog (h.set8 b.size) hk b hb)
  have hsI : (b.size : Int) ≤ 1000000000 := by omega
  have e1 : (s.swap b).2 = s.d.ok := rfl
  obtain ⟨s2, hs2⟩ : ∃ s2, (s.swap b).1 = s2 := ⟨_, rfl⟩
  have e2 : { { s with room := b.size } with d := s.d.swap b } = s2 := hs2
  rw [e1, hs2]
  dsimp only at K e2
  rw [e2] at K
  obtain ⟨x, hx⟩ : ∃ x, s.d.ok = x := ⟨_, rfl⟩
  rw [hx] at K ⊢
  have HC := Lib.hid (LCh.cell lb db v dv w 8 (.int .i64 (b.size : Int)))
  clear h m7 hk hb e1 e2 hs2 hx
  cases x
  all_goals
    first | rw [errOf_t] at K | rw [errOf_f] at K
    go_enter Tryz.func170, Tryz.ntmps170
    go_wp2_with fail
    refine K.out.mono ?_
    rintro e w2 ⟨rfl, dv2, hl2, hc2⟩
    have HL2 := Lib.hid hl2
    have HC2 := Lib.hid (HC.out.trans hc2)
    clear hl2 hc2
    go_wp2_with fail
    go_ret
    exact ⟨rfl, dv2, HL2.out, HC2.out⟩
end
end Go.Proofs.YtflkdgghpmhbgaaGreat
namespace Go.Proofs.YtflkdgghpmhbgaaGreat
open Go.RowKit

section
variable {w w' : World} {lb db : Nat} {v dv v' dv' : Value} {s : LgS}
theorem wholeB_len (c : CT) : (wholeB c).size = c.state.size + (entsL c.ents).length + 65 := by rw [wholeB, recB_size, ofL_size, bodyL_len]; omega
set_option maxHeartbeats 1000000 in
set_option maxRecDepth 100000 in
theorem hwrite_prog (h : LW w lb db v dv s) (hk : s.d.k ≤ 9223372036854775807) (r : ByteArray) (hc : s.c.Ok) (hs : (wholeB s.c).size + r.size ≤ 400000000) (hT : s.d.T.size ≤ 400000000) (hroom : s.room ≤ 900000000) :
    Calls Tryz.prog 172 #[.pointer (some ⟨lb, 0, none⟩), .string r] w fun e w' => e = .returned (.bool (s.write r).2) ∧ ∃ dv', LW w' lb db v dv' (s.write r).1 ∧ LCh lb db v dv w w' v dv' := by
  obtain ⟨m0, m1, m2, m3, m4, m5⟩ := CtAt.cells h.log
  obtain ⟨m6, m7, m8⟩ := h.log.more
  have z8 := CtAt.free h.log 8
  have hrI : (r.size : Int) ≤ 400000000 := by omega
  have hroomI : (s.room : Int) ≤ 900000000 := by omega
  have H := Lib.hid h
  by_cases hr : s.room < r.size
  · have hrI2 : (s.room : Int) < (r.size : Int) := by omega
    have e1 : s.write r = s.swap (wholeB s.c ++ r) := if_pos hr
    rw [e1]
    have K1 := whole_prog s.c v w hc h.log.2.1.sl (by rw [wholeB_len] at hs; omega)
    unfold ctC at K1
    have K1 := Lib.hid K1
    have hadd : ¬ (9223372036854775807 < (wholeB s.c).size + r.size) := by omega
    have K2 := Lib.hid (fun W (hW : LW W lb db v dv s) => hswap_prog hW hk (wholeB s.c ++ r) (by rw [ByteArray.size_append]; omega))
    obtain ⟨va, vc, rfl, _⟩ := h.log.2.1.shape
    obtain ⟨Q, hQ⟩ : ∃ Q, wholeB s.c = Q := ⟨_, rfl⟩
    rw [hQ] at K1 K2 hadd ⊢
    obtain ⟨⟨s2, ok⟩, hR⟩ : ∃ R, s.swap (Q ++ r) = R := ⟨_, rfl⟩
    rw [hR] at K2 ⊢
    dsimp only at K2 ⊢
    clear h hs hT hc e1 hr hQ m6 m7 z8 hR hk
    go_enter Tryz.func172, Tryz.ntmps172
    go_wp2_with fail
    refine K1.out.mono ?_
    rintro e w1 ⟨rfl, hb1⟩
    have K2' := Lib.hid (K2.out w1 (H.out.later hb1))
    have HB1 := Lib.hid hb1
    clear hb1 K1 K2
    go_wp2_with fail
    refine K2'.out.mono ?_
    rintro e w2 ⟨rfl, dv2, hl2, hc2⟩
    have HL2 := Lib.hid hl2
    have HC2 := Lib.hid ((LCh.ofBelow lb db _ dv HB1.out).trans hc2)
    clear hl2 hc2
    go_wp2_with fail
    go_ret
    exact ⟨rfl, dv2, HL2.out, HC2.out⟩
  · have hrI2 : ¬ (s.room : Int) < (r.size : Int) := by omega
    have hrI3 : (r.size : Int) ≤ (s.room : Int) := by omega
    have e1 : s.write r = if s.d.ok then ({ s with room := s.room - r.size, d := (s.d.app r).sync }, (s.d.app r).ok) else ({ s with room := s.room - r.size, d := s.d.app r }, false) := if_neg hr
    have e3 : (s.room : Int) - (r.size : Int) = ((s.room - r.size : Nat) : Int) := by omega
    have K1 := Lib.hid (kapp_prog (h.set8 (s.room - r.size)) hk r (by dsimp only; omega))
    have hk2 : (s.d.app r).k ≤ 9223372036854775807 := Nat.le_trans (stK_le _ _ _) hk
    have K2 := Lib.hid (fun W dv2 (hW : LW W lb db v dv2 ⟨s.c, s.room - r.size, s.dn, s.d.app r⟩) => ksync_prog hW hk2)
    have HC1 := Lib.hid (LCh.cell lb db v dv w 8 (.int .i64 ((s.room - r.size : Nat) : Int)))
    rw [e1]
    dsimp only at K1 K2 ⊢
    obtain ⟨room, hrm⟩ : ∃ room, s.room = room := ⟨_, rfl⟩
    obtain ⟨c, hcc⟩ : ∃ c, s.c = c := ⟨_, rfl⟩
    obtain ⟨dn, hdn⟩ : ∃ dn, s.dn = dn := ⟨_, rfl⟩
    obtain ⟨d1, hd1⟩ : ∃ d1, s.d.app r = d1 := ⟨_, rfl⟩
    rw [hd1] at K1 K2 ⊢
    rw [hrm] at K1 K2 HC1 e3 hrI2 hrI3 hroomI m8 ⊢
    obtain ⟨q, hq⟩ : ∃ q, room - r.size = q := ⟨_, rfl⟩
    rw [hq] at e3 K1 K2 HC1 ⊢
    rw [hcc] at K2 K1 ⊢
    rw [hdn] at K2 K1 ⊢
    obtain ⟨x, hx⟩ : ∃ x, s.d.ok = x := ⟨_, rfl⟩
    obtain ⟨y, hy⟩ : ∃ y, d1.ok = y := ⟨_, rfl⟩
    obtain ⟨d2, hd2⟩ : ∃ d2, d1.sync = d2 := ⟨_, rfl⟩
    rw [hx] at K1 ⊢
    rw [hy, hd2] at K2
    rw [hd2, hy]
    clear h hs hT hc e1 hr hk hk2 H m0 m1 m2 m3 m4 m5 m7 hrm hcc hdn hd1 hx hy hd2 hroom hq
    cases x
    · rw [errOf_f] at K1
      go_enter Tryz.func172, Tryz.ntmps172
      go_wp2_with fail
      refine K1.out.mono ?_
      rintro e w2 ⟨rfl, dv2, hl2, hc2⟩
      have HL2 := Lib.hid hl2
      have HC2 := Lib.hid (HC1.out.trans hc2)
      clear hl2 hc2
      go_wp2_with fail
      go_ret
      exact ⟨rfl, dv2, HL2.out, HC2.out⟩
    · rw [errOf_t] at K1
      go_enter Tryz.func172, Tryz.ntmps172
      go_wp2_with fail
      refine K1.out.mono ?_
      rintro e w2 ⟨rfl, dv2, hl2, hc2⟩
      obtain ⟨m6', m7', m8'⟩ := hl2.log.more
      have K2' := Lib.hid (K2.out w2 dv2 hl2)
      have HC2 := Lib.hid (HC1.out.trans hc2)
      clear hl2 hc2 m7' m8' K1 K2
      go_wp2_with fail
      refine K2'.out.mono ?_
      rintro e w3 ⟨rfl, hl3, hc3⟩
      have HL3 := Lib.hid hl3
      have HC3 := Lib.hid (HC2.out.trans hc3)
      clear hl3 hc3 K2'
      cases y
      · rw [errOf_f]
        go_wp2_with fail
        go_ret
        exact ⟨rfl, dv2, HL3.out, HC3.out⟩
      · rw [errOf_t]
        go_wp2_with fail
        go_ret
        exact ⟨rfl, dv2, HL3.out, HC3.out⟩
end
end Go.Proofs.YtflkdgghpmhbgaaGreat
namespace Go.Proofs.YtflkdgghpmhbgaaGreat
open Go.RowKit

/-- What a log and its disk keep to: so that all numbers stay small. -/
structure LgS.Fit (s : LgS) : Prop where
  k : s.d.k ≤ 9223372036854775807
  ok : s.c.Ok
  whole : (wholeB s.c).size ≤ 100000000
  T : s.d.T.size ≤ 400000000
  room : s.room ≤ 900000000
section
variable {w w' : World} {lb db : Nat} {v dv v' dv' : Value} {s : LgS}
theorem ents_few {c : CT} (h : (wholeB c).size ≤ 100000000) : c.ents.length ≤ 100000000 := by
  rw [wholeB_len] at h
  have := entsL_len c.ents
  omega
set_option maxHeartbeats 1000000 in
set_option maxRecDepth 100000 in
theorem hchange_prog (h : LW w lb db v dv s) (hf : s.Fit) (k : UInt8) (body : ByteArray) (hb : body.size ≤ 100000000) :
    Calls Tryz.prog 153 #[.pointer (some ⟨lb, 0, none⟩), .int .u8 (k.toNat : Int), .string body] w fun e w' => e = .returned (.int .i64 (s.change k body).2) ∧ LO lb db v dv w (s.change k body).1 w' := by
  have hr := recB_size k body
  have K1 := Lib.hid (record_prog k body w (by omega))
  have K2 := Lib.hid (fun W (hW : LW W lb db v dv s) => hwrite_prog hW hf.k (recB k body) hf.ok (by have := hf.whole; omega) hf.T hf.room)
  have K3 := Lib.hid (fun (x : Nat) (y : Bool) W (hW : LgAt W lb db y x v s.c) => redo_prog lb v s.c k body W hW (by have := ents_few hf.whole; omega) hf.ok.base)
  have H := Lib.hid h
  have hwc := s.write_c (recB k body)
  have e1 : s.change k body = if (s.write (recB k body)).2 then ({ (s.write (recB k body)).1 with c := (redoC s.c k body).getD s.c }, 0) else ({ (s.write (recB k body)).1 with dn := true }, 3) := rfl
  rw [e1]
  obtain ⟨R, hR⟩ : ∃ R, recB k body = R := ⟨_, rfl⟩
  obtain ⟨o, ho⟩ : ∃ o, redoC s.c k body = o := ⟨_, rfl⟩
  rw [hR] at K1 K2 hwc
  rw [ho] at K3
  rw [hR, ho]
  obtain ⟨⟨s2, ok⟩, hW⟩ : ∃ W, s.write R = W := ⟨_, rfl⟩
  rw [hW] at K2 hwc ⊢
  dsimp only at K2 hwc ⊢
  rw [← hwc] at K3 ⊢
  clear h hf hr hb e1 hR ho hW hwc
  cases ok
  · go_enter Tryz.func153, Tryz.ntmps153
    go_wp2_with fail
    refine K1.out.mono ?_
    rintro e w1 ⟨rfl, hb1⟩
    have K2' := Lib.hid (K2.out w1 (H.out.later hb1))
    have HB1 := Lib.hid hb1
    clear hb1 K1 K2
    go_wp2_with fail
    refine K2'.out.mono ?_
    rintro e w2 ⟨rfl, dv2, hl2, hc2⟩
    have z7 := CtAt.free hl2.log 7
    obtain ⟨m6', m7', m8'⟩ := hl2.log.more
    have HL2 := Lib.hid (hl2.set7 true)
    have HC2 := Lib.hid (((LCh.ofBelow lb db v dv HB1.out).trans hc2).trans (LCh.cell lb db v dv2 w2 7 (.bool true)))
    clear hl2 hc2 K2'
    go_wp2_with fail
    go_ret
    exact ⟨rfl, LO.of HL2.out HC2.out⟩
  · go_enter Tryz.func153, Tryz.ntmps153
    go_wp2_with fail
    refine K1.out.mono ?_
    rintro e w1 ⟨rfl, hb1⟩
    have K2' := Lib.hid (K2.out w1 (H.out.later hb1))
    have HB1 := Lib.hid hb1
    clear hb1 K1 K2
    go_wp2_with fail
    refine K2'.out.mono ?_
    rintro e w2 ⟨rfl, dv2, hl2, hc2⟩
    have K3' := Lib.hid (K3.out _ _ w2 hl2.log)
    have HL2 := Lib.hid hl2
    have HC2 := Lib.hid ((LCh.ofBelow lb db v dv HB1.out).trans hc2)
    clear hl2 hc2 K3 K2'
    go_wp2_with fail
    refine K3'.out.mono ?_
    rintro e w3 ⟨rfl, v3, hl3, hc3⟩
    have HL3 := Lib.hid (HL2.out.byLog hl3 hc3)
    have HC3 := Lib.hid (HC2.out.trans (LCh.ofLog db dv2 hc3))
    clear hl3 hc3 K3'
    go_wp2_with fail
    go_ret
    exact ⟨rfl, LO.of HL3.out HC3.out⟩
end
end Go.Proofs.YtflkdgghpmhbgaaGreat
namespace Go.Proofs.YtflkdgghpmhbgaaGreat
open Go.RowKit

def LgS.setTerm (s : LgS) (t : Nat) (x : Int) : LgS × Int := if (s.dn || s.d.dn) = true then (s.down, 3) else if s.c.votes t x = true then s.down.change 249 (voteB t x) else (s.down, 1)
def LgS.add (s : LgS) (behind : Nat) (E : List Ent) : LgS × Int := if (s.dn || s.d.dn) = true then (s.down, 3) else if s.c.takes behind E.length = true then s.down.change 250 (addB behind E) else (s.down, 1)
theorem LgS.Fit.down {s : LgS} (h : s.Fit) : s.down.Fit := ⟨h.k, h.ok, h.whole, h.T, h.room⟩
section
variable {w w' : World} {lb db : Nat} {v dv v' dv' : Value} {s : LgS}
theorem LO.trans {s2 : LgS} {w2 : World} {v2 dv2 : Value} (hc : LCh lb db v dv w w2 v2 dv2) (h : LO lb db v2 dv2 w2 s2 w') : LO lb db v dv w s2 w' := by
  obtain ⟨v3, dv3, hl, hc3⟩ := h
  exact ⟨v3, dv3, hl, hc.trans hc3⟩

set_option maxHeartbeats 1000000 in
set_option maxRecDepth 100000 in
theorem hterm_prog (h : LW w lb db v dv s) (hf : s.Fit) (t : Nat) (x : Int) (ht : t < m64) :
    Calls Tryz.prog 119 #[.pointer (some ⟨lb, 0, none⟩), .int .u64 (t : Int), .int .i64 x] w fun e w' => e = .returned (.int .i64 (s.setTerm t x).2) ∧ LO lb db v dv w (s.setTerm t x).1 w' := by
  have hsz : (voteB t x).size = 16 := by rw [voteB, ofL_size, List.length_append, numL_len, numL_len]
  have K1 := Lib.hid (hdown_prog h)
  have K2 := Lib.hid (fun W (hW : LW W lb db v dv s.down) => votes_prog lb v s.c t x W hW.log)
  have K3 := Lib.hid (fun W => voteBody_prog t x W ht)
  have K4 := Lib.hid (fun W (hW : LW W lb db v dv s.down) => hchange_prog hW hf.down 249 (voteB t x) (by omega))
  have e1 : s.setTerm t x = if (s.dn || s.d.dn) = true then (s.down, 3) else if s.c.votes t x = true then s.down.change 249 (voteB t x) else (s.down, 1) := rfl
  rw [e1]
  obtain ⟨s1, h1⟩ : ∃ s1, s.down = s1 := ⟨_, rfl⟩
  obtain ⟨B, hB⟩ : ∃ B, voteB t x = B := ⟨_, rfl⟩
  rw [h1] at K1 K2 K4 ⊢
  rw [hB] at K3 K4 ⊢
  obtain ⟨⟨s2, q⟩, h2⟩ : ∃ R, s1.change 249 B = R := ⟨_, rfl⟩
  rw [h2] at K4 ⊢
  dsimp only at K4
  obtain ⟨dn, hdn⟩ : ∃ dn, (s.dn || s.d.dn) = dn := ⟨_, rfl⟩
  obtain ⟨ok, hok⟩ : ∃ ok, s.c.votes t x = ok := ⟨_, rfl⟩
  rw [hdn] at K1 ⊢
  rw [hok] at K2 ⊢
  clear h hf ht e1 h1 hB h2 hdn hok hsz
  cases dn
  · go_enter Tryz.func119, Tryz.ntmps119
    go_wp2_with fail
    refine K1.out.mono ?_
    rintro e w1 ⟨rfl, hl1, hc1⟩
    have K2' := Lib.hid (K2.out w1 hl1)
    have HL1 := Lib.hid hl1
    have HC1 := Lib.hid (LCh.ofLog db dv hc1)
    clear hl1 hc1 K1 K2
    go_wp2_with fail
    refine K2'.out.mono ?_
    rintro e w2 ⟨rfl, rfl⟩
    cases ok
    · clear K3 K4
      go_wp2_with fail
      go_ret
      exact ⟨rfl, LO.of HL1.out HC1.out⟩
    · have K3' := Lib.hid (K3.out w2)
      clear K2' K3
      go_wp2_with fail
      refine K3'.out.mono ?_
      rintro e w3 ⟨rfl, hb3⟩
      have K4' := Lib.hid (K4.out w3 (HL1.out.later hb3))
      have HC3 := Lib.hid (HC1.out.trans (LCh.ofBelow lb db v dv hb3))
      clear hb3 K3' K4
      go_wp2_with fail
      refine K4'.out.mono ?_
      rintro e w4 ⟨rfl, ho4⟩
      have HO4 := Lib.hid ho4
      clear ho4 K4'
      go_wp2_with fail
      go_ret
      exact ⟨rfl, LO.trans HC3.out HO4.out⟩
  · clear K2 K3 K4
    go_enter Tryz.func119, Tryz.ntmps119
    go_wp2_with fail
    refine K1.out.mono ?_
    rintro e w1 ⟨rfl, hl1, hc1⟩
    have HL1 := Lib.hid hl1
    have HC1 := Lib.hid (LCh.ofLog db dv hc1)
    clear hl1 hc1 K1
    go_wp2_with fail
    go_ret
    exact ⟨rfl, LO.of HL1.out HC1.out⟩

set_option maxHeartbeats 1000000 in
set_option maxRecDepth 100000 in
theorem hadd_prog (h : LW w lb db v dv s) (hf : s.Fit) (behind : Nat) (sv : Value) (E : List Ent) (hsv : ESl w sv E) (hap : E ≠ [] → Apart lb v sv) (hE : EntsOk E) (hb : behind < m64) (hs : (entsL E).length ≤ 90000000) :
    Calls Tryz.prog 129 #[.pointer (some ⟨lb, 0, none⟩), .int .u64 (behind : Int), sv] w fun e w' => e = .returned (.int .i64 (s.add behind E).2) ∧ LO lb db v dv w (s.add behind E).1 w' := by
  have hab : (addB behind E).size = 8 + (entsL E).length := by rw [addB, ofL_size, List.length_append, numL_len]
  have hEn := entsL_len E
  have hfew := ents_few hf.whole
  have K1 := Lib.hid (hdown_prog h)
  have K2 := Lib.hid (fun W (hW : LW W lb db v dv s.down) => takes_prog lb v s.c behind E.length W hW.log (by omega) hb (by omega))
  have K3 := Lib.hid (fun W (hW : ESl W sv E) => addBody_prog behind sv E W hb hW hE (by omega))
  have K4 := Lib.hid (fun W (hW : LW W lb db v dv s.down) => hchange_prog hW hf.down 250 (addB behind E) (by omega))
  have HS := Lib.hid hsv
  have HA := Lib.hid hap
  have e1 : s.add behind E = if (s.dn || s.d.dn) = true then (s.down, 3) else if s.c.takes behind E.length = true then s.down.change 250 (addB behind E) else (s.down, 1) := rfl
  rw [e1]
  obtain ⟨s1, h1⟩ : ∃ s1, s.down = s1 := ⟨_, rfl⟩
  obtain ⟨B, hB⟩ : ∃ B, addB behind E = B := ⟨_, rfl⟩
  rw [h1] at K1 K2 K4 ⊢
  rw [hB] at K3 K4 ⊢
  obtain ⟨⟨s2, q⟩, h2⟩ : ∃ R, s1.change 250 B = R := ⟨_, rfl⟩
  rw [h2] at K4 ⊢
  dsimp only at K4
  obtain ⟨dn, hdn⟩ : ∃ dn, (s.dn || s.d.dn) = dn := ⟨_, rfl⟩
  obtain ⟨ok, hok⟩ : ∃ ok, s.c.takes behind E.length = ok := ⟨_, rfl⟩
  rw [hdn] at K1 ⊢
  rw [hok] at K2 ⊢
  obtain ⟨sa, sc, rfl, _⟩ := id hsv
  have hlenI : (E.length : Int) ≤ 100000000 := by omega
  clear h hf hsv hap hE hb hs e1 h1 hB h2 hdn hok hab hEn hfew
  cases dn
  · go_enter Tryz.func129, Tryz.ntmps129
    go_wp2_with fail
    refine K1.out.mono ?_
    rintro e w1 ⟨rfl, hl1, hc1⟩
    have K2' := Lib.hid (K2.out w1 hl1)
    have HL1 := Lib.hid hl1
    have HS1 := Lib.hid (HS.out.ch HA.out hc1).1
    have HC1 := Lib.hid (LCh.ofLog db dv hc1)
    clear hl1 hc1 K1 K2 HS
    go_wp2_with fail
    refine K2'.out.mono ?_
    rintro e w2 ⟨rfl, hs2⟩
    have hb2 := hs2.below w1.heap.size
    have HL2 := Lib.hid (HL1.out.later hb2)
    have HC2 := Lib.hid (HC1.out.trans (LCh.ofBelow lb db v dv hb2))
    have HS2 := Lib.hid (HS1.out.later hb2)
    clear hs2 hb2 K2' HL1 HC1 HS1
    cases ok
    · clear K3 K4
      go_wp2_with fail
      go_ret
      exact ⟨rfl, LO.of HL2.out HC2.out⟩
    · have K3' := Lib.hid (K3.out w2 HS2.out)
      clear K3
      go_wp2_with fail
      refine K3'.out.mono ?_
      rintro e w3 ⟨rfl, hb3⟩
      have K4' := Lib.hid (K4.out w3 (HL2.out.later hb3))
      have HC3 := Lib.hid (HC2.out.trans (LCh.ofBelow lb db v dv hb3))
      clear hb3 K3' K4 HL2 HC2
      go_wp2_with fail
      refine K4'.out.mono ?_
      rintro e w4 ⟨rfl, ho4⟩
      have HO4 := Lib.hid ho4
      clear ho4 K4'
      go_wp2_with fail
      go_ret
      exact ⟨rfl, LO.trans HC3.out HO4.out⟩
  · clear K2 K3 K4
    go_enter Tryz.func129, Tryz.ntmps129
    go_wp2_with fail
    refine K1.out.mono ?_
    rintro e w1 ⟨rfl, hl1, hc1⟩
    have HL1 := Lib.hid hl1
    have HC1 := Lib.hid (LCh.ofLog db dv hc1)
    clear hl1 hc1 K1
    go_wp2_with fail
    go_ret
    exact ⟨rfl, LO.of HL1.out HC1.out⟩
end
end Go.Proofs.YtflkdgghpmhbgaaGreat
