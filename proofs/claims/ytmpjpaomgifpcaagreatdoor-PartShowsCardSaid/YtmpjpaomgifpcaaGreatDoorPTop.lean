/- part's Under, Get, Put, Delete, Root. -/
import Derived.Test.YtmpjpaomgifpcaaGreatDoorPWout
namespace Go.Proofs.YtmpjpaomgifpcaaGreatDoor
open Go.RowKit

/-- The part at x has that tree. -/
def PAt (w : World) (m : Option PT) (x : Value) : Prop := ∃ b tv, x = pp b ∧ w.heap[b]? = some (.cells #[tv] 87 (0, 0)) ∧ PRepM w m tv
theorem PAt.later {w w' : World} {m : Option PT} {x : Value} (h : PAt w m x) (hb : Below w.heap.size w w') : PAt w' m x := by
  obtain ⟨b, tv, h1, h2, h3⟩ := h
  exact ⟨b, tv, h1, by rw [hb.block b (block_lt h2)]; exact h2, h3.later hb⟩
theorem one_at {w : World} {b : Nat} {x : Value} {t : TypeId} (h : w.heap[b]? = some (.cells #[x] t (0, 0))) : w.cell? ⟨b, 0, none⟩ = some x := by
  simp [World.cell?, h]
theorem PRepM.ptr {w : World} {m : Option PT} {tv : Value} (h : PRepM w m tv) : ∃ q, tv = .pointer q := by
  cases m with
  | none => exact ⟨_, h⟩
  | some t => obtain ⟨d, rfl, _⟩ := h; exact ⟨_, rfl⟩
theorem part_new {w : World} {m : Option PT} {tv : Value} (h : PRepM w m tv) : PAt (w.alloc (.cells #[tv] 87)) m (pp w.heap.size) :=
  ⟨_, tv, rfl, heap_alloc_new _ _, h.later ((Below.refl _ w).alloc (Nat.le_refl _) _)⟩

set_option maxHeartbeats 1000000 in
theorem root_part {w : World} {m : Option PT} {x : Value} (h : PAt w m x) : Calls Tryz.prog 13 #[x] w (StrRes w (MP.root m)) := by
  obtain ⟨b, tv, rfl, h2, h3⟩ := h
  have c0 := one_at h2
  clear h2
  unfold pp
  cases m with
  | none =>
    obtain rfl : tv = .pointer none := h3
    go_enter Tryz.func13, Tryz.ntmps13
    go_wp2_with fail
    refine (empty_prog _).mono ?_
    rintro e w1 ⟨rfl, hb1⟩
    go_wp2
    go_ret
    exact ⟨rfl, hb1⟩
  | some t =>
    obtain ⟨d, rfl, hd⟩ := h3
    obtain ⟨_, c7⟩ := PRep.cells hd
    clear hd
    unfold pp at c0
    go_enter Tryz.func13, Tryz.ntmps13
    go_wp2
    go_ret
    exact ⟨rfl, Below.refl _ _⟩

def MP.fit : Option PT → Prop
  | none => True
  | some t => t.ok ∧ t.leaves ≤ 50000
/-- What is told under a prefix. -/
def UdRes (w : World) (o : Option (List Pr)) (e : Ending) (w' : World) : Prop := ∃ v, e = .returned (.tuple #[v, .bool o.isSome]) ∧ GP w' w.heap.size [] o v ∧ Below w.heap.size w w'
theorem GP.nil (w : World) (B : Nat) : GP w B [] (some []) (.slice none 0 0) := POwn.nil w B

theorem und_right {k : ByteArray} {n : Int} (h : rightB k n = true) (t : PT) : MP.und k n (some t) = undP (ks k) n.toNat t := if_pos (of_decide_eq_true h)
theorem und_wrong {k : ByteArray} {n : Int} (h : rightB k n = false) (t : PT) : MP.und k n (some t) = some [] := if_neg (of_decide_eq_false h)

set_option maxRecDepth 30000 in
set_option maxHeartbeats 2000000 in
theorem under_part (k : ByteArray) (n : Int) (m : Option PT) (x : Value) (w : World) (hm : MP.fit m) (h : PAt w m x) :
    Calls Tryz.prog 16 #[x, .string k, .int .i64 n] w (UdRes w (MP.und k n m)) := by
  obtain ⟨b, tv, rfl, h2, h3⟩ := h
  obtain ⟨W, hW⟩ : ∃ W, W = w.alloc (.cells #[.string k, .int .i64 n] 46) := ⟨_, rfl⟩
  have c0 := cellA (.cells #[.string k, .int .i64 n] 46) (one_at h2)
  have hbW : Below w.heap.size w W := by rw [hW]; exact (Below.refl _ _).alloc (Nat.le_refl _) _
  have HBW := Lib.hid hbW
  obtain ⟨y0, y1⟩ := ask_cells (w := W) (b := w.heap.size) (k := k) (n := n) (by rw [hW]; exact heap_alloc_new _ _)
  have HW := Lib.hid hW
  clear h2 hbW hW
  unfold pp
  cases m with
  | none =>
    obtain rfl : tv = .pointer none := h3
    unfold MP.und
    clear y0 y1
    go_enter Tryz.func16, Tryz.ntmps16
    go_wp2
    go_ret2
    exact ⟨_, rfl, GP.nil _ _, by rw [← HW.out]; exact HBW.out⟩
  | some t =>
    obtain ⟨d, rfl, hd⟩ := h3
    have HD := Lib.hid hd
    have HR := Lib.hid (right_prog k n W)
    unfold pp at c0
    unfold askV at HR
    have z0 := y0
    have z1 := y1
    rw [HW.out] at z0 z1
    cases hr : rightB k n with
    | false =>
      have e : MP.und k n (some t) = some [] := by
        exact und_wrong hr t
      rw [e]
      rw [hr] at HR
      clear hd e hr y0 y1
      go_enter Tryz.func16, Tryz.ntmps16
      go_wp2_with fail
      rw [← HW.out]
      refine HR.out.mono ?_
      rintro e w1 ⟨rfl, hb1⟩
      have HB1 := Lib.hid (HBW.out.trans (hb1.mono HBW.out.size))
      clear hb1
      go_wp2
      go_ret2
      exact ⟨_, rfl, GP.nil _ _, HB1.out⟩
    | true =>
      have hrr := of_decide_eq_true hr
      obtain ⟨hk, hn0, hn1⟩ := hrr
      obtain ⟨N, rfl⟩ := Int.eq_ofNat_of_zero_le hn0
      have e : MP.und k (N : Int) (some t) = undP (ks k) N t := by
        exact und_right hr t
      rw [e]
      rw [hr] at HR
      have HG := Lib.hid (fun (V : World) (hb : Below w.heap.size w V) => gathered_part k N hk w t d V (.slice none 0 0) [] hm.1 HD.out hb (POwn.nil _ _) (by have := hm.2; simp; omega))
      unfold pp askV at HG
      clear hd e hr hk hn0 hn1
      go_enter Tryz.func16, Tryz.ntmps16
      go_wp2_with fail
      rw [← HW.out]
      refine HR.out.mono ?_
      rintro e w1 ⟨rfl, hb1⟩
      have HB1 := Lib.hid (HBW.out.trans (hb1.mono HBW.out.size))
      have q0 := cellB hb1 (show W.cell? ⟨b, 0, none⟩ = _ by rw [HW.out]; exact c0)
      have q1 := cellB hb1 y0
      have q2 := cellB hb1 y1
      have HB1D : Hid (Below w.heap.size w w1.drew) := Lib.hid (HB1.out.trans ((Below.refl _ w1).drew.mono HB1.out.size))
      clear hb1 c0 y0 y1 z0 z1
      go_wp2_with fail
      go_region_held3 (fun w' => w'.cell? ⟨b, 0, none⟩ = some (.pointer (some ⟨d, 0, none⟩)) ∧ w'.cell? ⟨w.heap.size, 0, none⟩ = some (.string k) ∧ w'.cell? ⟨w.heap.size, 1, none⟩ = some (.int .i64 N))
        (first | exact ⟨q0, q1, q2⟩ | exact hcs)
        ((go_at_call 45; (with_reducible refine (HG.out _ HB1D.out).mono ?_); rintro e w4 ⟨v4, rfl, hgp4, hgr4⟩; have hcs := And.intro (Grew.cell hgr4 (show w1.drew.cell? _ = _ from q0) (by intro h; cases h)) (And.intro (Grew.cell hgr4 (show w1.drew.cell? _ = _ from q1) (by intro h; cases h)) (Grew.cell hgr4 (show w1.drew.cell? _ = _ from q2) (by intro h; cases h))); have HGP4 := Lib.hid hgp4; have HGR4 := Lib.hid hgr4))
      go_wp2
      go_ret2
      exact ⟨_, rfl, HGP4.out, HB1D.out.trans (HGR4.out.below HB1D.out.size (by intro k hk; cases hk))⟩

/-- What is told of a key. -/
def gtV : Option (List Pr) → Value
  | none => .tuple #[.string ⟨#[]⟩, .bool false, .bool false]
  | some [] => .tuple #[.string ⟨#[]⟩, .bool false, .bool true]
  | some (x :: _) => .tuple #[.string x.2, .bool true, .bool true]
set_option maxRecDepth 30000 in
set_option maxHeartbeats 1000000 in
theorem get_part (k : ByteArray) (m : Option PT) (x : Value) (w : World) (hm : MP.fit m) (h : PAt w m x) :
    Calls Tryz.prog 14 #[x, .string k] w fun e w' => e = .returned (gtV (MP.und k 256 m)) ∧ Below w.heap.size w w' := by
  have HU := Lib.hid (under_part k 256 m x w hm h)
  obtain ⟨b, tv, rfl, _, _⟩ := h
  obtain ⟨O, hO⟩ : ∃ O, O = MP.und k 256 m := ⟨_, rfl⟩
  rw [← hO] at HU ⊢
  clear hO hm
  unfold pp at HU ⊢
  match O, HU with
  | none, HU =>
    go_enter Tryz.func14, Tryz.ntmps14
    go_wp2_with fail
    refine HU.out.mono ?_
    rintro e w1 ⟨v, rfl, hv, hb1⟩
    obtain rfl : v = .slice none 0 0 := hv
    clear HU
    go_wp2
    go_ret3
    exact ⟨rfl, hb1⟩
  | some [], HU =>
    go_enter Tryz.func14, Tryz.ntmps14
    go_wp2_with fail
    refine HU.out.mono ?_
    rintro e w1 ⟨v, rfl, hv, hb1⟩
    obtain ⟨a, c, rfl, _⟩ := POwn.shape (show POwn w1 w.heap.size v [] from hv)
    clear HU hv
    go_wp2
    go_ret3
    exact ⟨rfl, hb1⟩
  | some (y :: r), HU =>
    go_enter Tryz.func14, Tryz.ntmps14
    go_wp2_with fail
    refine HU.out.mono ?_
    rintro e w1 ⟨v, rfl, hv, hb1⟩
    obtain ⟨a, c, rfl, _, hc⟩ := POwn.sl (show POwn w1 w.heap.size v (y :: r) from hv)
    obtain ⟨g, o, rfl, _, hcs⟩ := hc (by simp)
    have c1 := (hcs 0 y rfl).2
    rw [Nat.zero_mul, Nat.add_zero] at c1
    have hl0 : 0 < (y :: r).length := by simp
    have hl1 : (((y :: r).length : Nat) : Int) = (r.length : Int) + 1 := by simp
    obtain ⟨L, hL⟩ : ∃ L, L = (y :: r).length := ⟨_, rfl⟩
    rw [← hL] at hl0 hl1 ⊢
    have hLI : ((L : Int) == 0) = false := by simp; omega
    clear HU hcs hc hL hl1
    go_wp2
    go_ret3
    exact ⟨rfl, hb1⟩

/-- A part with a leaf. -/
def MP.withM (k v : ByteArray) : Option PT → Option PT
  | none => some (.leaf k v)
  | some t => some (withP k v t)
def MP.withoutM (k : ByteArray) : Option PT → Option PT
  | none => none
  | some t => withoutP (ks k) t
/-- A part is answered, or none. -/
def EdRes (w : World) (o : Option (Option PT)) (e : Ending) (w' : World) : Prop := match o with
  | none => e = .returned (.tuple #[.pointer none, .bool false]) ∧ Below w.heap.size w w'
  | some m => ∃ x, e = .returned (.tuple #[x, .bool true]) ∧ PAt w' m x ∧ Below w.heap.size w w'
def putO (k v : ByteArray) (m : Option PT) : Option (Option PT) := if k.size = 32 then (if MP.und k 256 m = none then none else some (MP.withM k v m)) else none
def delO (k : ByteArray) (m : Option PT) : Option (Option PT) := if k.size = 32 then (match MP.und k 256 m with | none => none | some [] => some m | some (_ :: _) => some (MP.withoutM k m)) else none
theorem und_key {k : ByteArray} (h : k.size = 32) (t : PT) : MP.und k 256 (some t) = undP (ks k) 256 t := und_right (n := 256) (decide_eq_true ⟨h, by decide, by decide⟩) t

theorem pwith_any {w : World} {m : Option PT} {tv : Value} {c : Nat} (k v : ByteArray) (hk : k.size = 32) (hm : MP.fit m) (hu : MP.und k 256 m ≠ none) (h : PRepM w m tv) (hc : PRep w (.leaf k v) c) (hst : Start w) :
    Calls Tryz.prog 61 #[tv, pp c] w (PMRes w (MP.withM k v m)) := by
  cases m with
  | none =>
    obtain rfl : tv = .pointer none := h
    clear hst
    unfold pp
    go_enter Tryz.func61, Tryz.ntmps61
    go_wp2
    go_ret
    exact ⟨_, rfl, ⟨c, rfl, hc⟩, Below.refl _ _⟩
  | some t =>
    obtain ⟨b, rfl, hb⟩ := h
    rw [und_key hk] at hu
    exact (pwith_prog k v hk t b c w hm.1 hu hb hc hst).mono fun _ _ ⟨d, h1, h2, h3⟩ => ⟨_, h1, ⟨d, rfl, h2⟩, h3⟩

set_option maxRecDepth 30000 in
set_option maxHeartbeats 2000000 in
theorem put_part (k v : ByteArray) (m : Option PT) (x : Value) (w : World) (hv : v.size ≤ 5000) (hm : MP.fit m) (h : PAt w m x) (hst : Start w) :
    Calls Tryz.prog 28 #[x, .string k, .string v] w (EdRes w (putO k v m)) := by
  have HG := Lib.hid (get_part k m x w hm h)
  obtain ⟨b, tv, rfl, h2, h3⟩ := h
  unfold putO
  by_cases hk : k.size = 32
  · rw [if_pos hk]
    have hkI : ((k.size : Int) != 32) = false := by rw [hk]; rfl
    by_cases hu : MP.und k 256 m = none
    · rw [if_pos hu]
      rw [hu] at HG
      clear hu hk
      unfold gtV pp at HG
      unfold pp
      go_enter Tryz.func28, Tryz.ntmps28
      go_wp2_with fail
      refine HG.out.mono ?_
      rintro e w1 ⟨rfl, hb1⟩
      clear HG
      go_wp2
      go_ret2
      exact ⟨rfl, hb1⟩
    · rw [if_neg hu]
      obtain ⟨q1, q2, hg⟩ : ∃ s f, gtV (MP.und k 256 m) = .tuple #[.string s, .bool f, .bool true] := by
        cases ho : MP.und k 256 m with
        | none => exact absurd ho hu
        | some l => cases l with
          | nil => exact ⟨_, _, rfl⟩
          | cons y r => exact ⟨_, _, rfl⟩
      rw [hg] at HG
      obtain ⟨pt, rfl⟩ := PRepM.ptr h3
      have c0 := one_at h2
      have HM := Lib.hid h3
      have HS := Lib.hid hst
      have HL := Lib.hid (fun (W : World) (hb : Below w.heap.size w W) => leaf_part k v W hk hv (hst.later hb))
      have HW := Lib.hid (fun (W : World) (c : Nat) (hb : Below w.heap.size w W) (hc : PRep W (.leaf k v) c) => pwith_any k v hk hm hu (h3.later hb) hc (hst.later hb))
      clear hu hk hg h2 h3 hst
      unfold pp at *
      go_enter Tryz.func28, Tryz.ntmps28
      go_wp2_with fail
      refine HG.out.mono ?_
      rintro e w1 ⟨rfl, hb1⟩
      have HB1 := Lib.hid hb1
      have e0 := cellB hb1 c0
      have HB1D : Hid (Below w.heap.size w w1.drew) := Lib.hid (hb1.trans ((Below.refl _ w1).drew.mono hb1.size))
      clear HG hb1 c0
      go_wp2_with fail
      go_region_held3 (fun w' => w'.cell? ⟨b, 0, none⟩ = some (.pointer pt))
        (first | exact e0 | exact hcs4 | exact hcs5 | exact cellA _ hcs5)
        (first
          | (go_at_call 62; (with_reducible refine (HL.out _ HB1D.out).mono ?_); rintro e w4 ⟨d4, rfl, hd4, hb4⟩; unfold pp; have hcs4 := cellD hb4 e0; have HB4 := Lib.hid (HB1D.out.trans (hb4.mono HB1D.out.size)); have HD4 := Lib.hid (show PRep w4 (.leaf k v) d4 from hd4))
          | (go_at_call 61; (with_reducible refine (HW.out _ d4 HB4.out HD4.out).mono ?_); rintro e w5 ⟨v5, rfl, hv5, hb5⟩; obtain ⟨p5, hp5⟩ := PRepM.ptr hv5; subst hp5; have hcs5 := cellB hb5 hcs4; have HB5 := Lib.hid (HB4.out.trans (hb5.mono HB4.out.size)); have HV5 := Lib.hid hv5))
      go_wp2
      go_ret2
      exact ⟨_, rfl, part_new HV5.out, HB5.out.alloc HB5.out.size _⟩
  · rw [if_neg hk]
    have hkI : ((k.size : Int) != 32) = true := by simp; omega
    obtain ⟨q1, q2, q3, hg⟩ : ∃ s f g, gtV (MP.und k 256 m) = .tuple #[.string s, .bool f, .bool g] := by
      cases MP.und k 256 m with
      | none => exact ⟨_, _, _, rfl⟩
      | some l => cases l with
        | nil => exact ⟨_, _, _, rfl⟩
        | cons y r => exact ⟨_, _, _, rfl⟩
    rw [hg] at HG
    clear hk hg h2 h3 hst
    unfold pp at *
    cases q3 with
    | true =>
      go_enter Tryz.func28, Tryz.ntmps28
      go_wp2_with fail
      refine HG.out.mono ?_
      rintro e w1 ⟨rfl, hb1⟩
      clear HG
      go_wp2
      go_ret2
      exact ⟨rfl, hb1⟩
    | false =>
      go_enter Tryz.func28, Tryz.ntmps28
      go_wp2_with fail
      refine HG.out.mono ?_
      rintro e w1 ⟨rfl, hb1⟩
      clear HG
      go_wp2
      go_ret2
      exact ⟨rfl, hb1⟩

set_option maxRecDepth 30000 in
set_option maxHeartbeats 2000000 in
theorem del_part (k : ByteArray) (m : Option PT) (x : Value) (w : World) (hm : MP.fit m) (h : PAt w m x) (hst : Start w) :
    Calls Tryz.prog 50 #[x, .string k] w (EdRes w (delO k m)) := by
  have HG := Lib.hid (get_part k m x w hm h)
  obtain ⟨b, tv, rfl, h2, h3⟩ := h
  unfold delO
  by_cases hk : k.size = 32
  · rw [if_pos hk]
    have hkI : ((k.size : Int) != 32) = false := by rw [hk]; rfl
    obtain ⟨pt, rfl⟩ := PRepM.ptr h3
    have c0 := one_at h2
    have HM := Lib.hid h3
    have HPW := Lib.hid (fun (t : PT) (a : List Pr) (d : Nat) (W : World) (ht : t.ok) (ha : undP (ks k) 256 t = some a) (hne : a ≠ []) (hr : PRep W t d) (hs : Start W) => pwithout_prog k (by omega) t d W a ht ha hne hr hs)
    have HS := Lib.hid hst
    have HUK := Lib.hid (fun t => und_key hk t)
    clear hk h2 h3 hst
    unfold pp at *
    cases ho : MP.und k 256 m with
    | none =>
      rw [ho] at HG
      clear ho
      go_enter Tryz.func50, Tryz.ntmps50
      go_wp2_with fail
      refine HG.out.mono ?_
      rintro e w1 ⟨rfl, hb1⟩
      clear HG
      unfold gtV
      go_wp2
      go_ret2
      exact ⟨rfl, hb1⟩
    | some l =>
      cases l with
      | nil =>
        rw [ho] at HG
        clear ho
        go_enter Tryz.func50, Tryz.ntmps50
        go_wp2_with fail
        refine HG.out.mono ?_
        rintro e w1 ⟨rfl, hb1⟩
        have HB1 := Lib.hid hb1
        have e0 := cellB hb1 c0
        clear HG hb1 c0
        unfold gtV
        go_wp2
        go_ret2
        exact ⟨_, rfl, part_new (HM.out.later HB1.out), HB1.out.alloc HB1.out.size _⟩
      | cons y r =>
        rw [ho] at HG
        cases m with
        | none => cases ho
        | some t =>
          rw [HUK.out] at ho
          obtain ⟨d, hd, hr⟩ := HM.out
          unfold pp at hd
          obtain rfl : pt = some ⟨d, 0, none⟩ := by simpa using hd
          have HW := Lib.hid (fun (W : World) (hb : Below w.heap.size w W) => HPW.out t _ d W hm.1 ho (by simp) (hr.later hb) (HS.out.later hb))
          unfold pp at HW
          clear ho hd hr
          go_enter Tryz.func50, Tryz.ntmps50
          go_wp2_with fail
          refine HG.out.mono ?_
          rintro e w1 ⟨rfl, hb1⟩
          have HB1 := Lib.hid hb1
          have e0 := cellB hb1 c0
          clear HG hb1 c0
          unfold gtV
          go_wp2_with fail
          refine (HW.out _ HB1.out).mono ?_
          rintro e w2 ⟨v2, rfl, hv2, hb2⟩
          obtain ⟨p2, hp2⟩ := PRepM.ptr hv2
          subst hp2
          have HV2 := Lib.hid hv2
          have HB2 := Lib.hid (HB1.out.trans (hb2.mono HB1.out.size))
          clear hv2 hb2 HW
          go_wp2
          go_ret2
          exact ⟨_, rfl, part_new HV2.out, HB2.out.alloc HB2.out.size _⟩
  · rw [if_neg hk]
    have hkI : ((k.size : Int) != 32) = true := by simp; omega
    obtain ⟨q1, q2, q3, hg⟩ : ∃ s f g, gtV (MP.und k 256 m) = .tuple #[.string s, .bool f, .bool g] := by
      cases MP.und k 256 m with
      | none => exact ⟨_, _, _, rfl⟩
      | some l => cases l with
        | nil => exact ⟨_, _, _, rfl⟩
        | cons y r => exact ⟨_, _, _, rfl⟩
    rw [hg] at HG
    clear hk hg h2 h3 hst
    unfold pp at *
    cases q3 with
    | true =>
      go_enter Tryz.func50, Tryz.ntmps50
      go_wp2_with fail
      refine HG.out.mono ?_
      rintro e w1 ⟨rfl, hb1⟩
      clear HG
      go_wp2
      go_ret2
      exact ⟨rfl, hb1⟩
    | false =>
      go_enter Tryz.func50, Tryz.ntmps50
      go_wp2_with fail
      refine HG.out.mono ?_
      rintro e w1 ⟨rfl, hb1⟩
      clear HG
      go_wp2
      go_ret2
      exact ⟨rfl, hb1⟩
end Go.Proofs.YtmpjpaomgifpcaaGreatDoor
