/- The reference's read: a fork. -/
import Derived.Test.YtmpjpaomgifpcaaGreatDoorPRead2
namespace Go.Proofs.YtmpjpaomgifpcaaGreatDoor
open Go.RowKit
open Cod (F Nd KidsAt Lies nodeV)

theorem Tryz.treeSl : SlN Tryz.prog 52 54 (.agg #[.int .i64 0, .string ⟨#[]⟩, .string ⟨#[]⟩, .int .i64 0, .slice none 0 0, .string ⟨#[]⟩]) 6 88 := ⟨Tryz.underlying52, by kernel_rfl, rfl, by decide⟩
theorem own_cell {w : World} {B size n c g : Nat} {e : TypeId} {xs : List Value} (h : w.ownsRow B e size (.slice (some ⟨g, 0, none⟩) n c) n xs) (i : Nat) {x : Value} (hx : xs[i]? = some x) : w.cell? ⟨g, i, none⟩ = some x := by
  rcases h.2 with ⟨h1, _⟩ | ⟨g2, c2, cur, he, _, hg, _, _, _, ht⟩
  · cases h1
  · injection he with e1 _ _
    injection e1 with e1
    injection e1 with e1
    subst e1
    rw [← ht, List.getElem?_take] at hx
    split at hx
    · simp only [World.cell?, hg]; simpa using hx
    · cases hx
theorem dropF_add : ∀ (i j : Nat) (f : F), dropF j (dropF i f) = dropF (i + j) f
  | 0, j, f => by rw [Nat.zero_add]; rfl
  | i + 1, j, .nil => by
    rw [show i + 1 + j = (i + j) + 1 by omega]
    cases j <;> rfl
  | i + 1, j, .cons _ _ _ _ r => by rw [show i + 1 + j = (i + j) + 1 by omega]; exact dropF_add i j r
theorem dropF_len : ∀ (j : Nat) (f : F), (dropF j f).len = f.len - j
  | 0, f => rfl
  | j + 1, .nil => by simp [dropF, F.len]
  | j + 1, .cons _ _ _ _ r => by rw [dropF, dropF_len j r]; simp [F.len]
theorem run_dropN (a : Option Addr) (L cap j : Nat) (hj : j ≤ L) (W : World) :
    (Instr.sliceAt 72 (.slice a L cap) (some (.int .i64 (j : Int))) none none).run Tryz.prog W = .ok (sliced a j L cap 4) W := by
  obtain ⟨i, hi, hz, hsz, hby⟩ := info_parts Cod.Tryz.nodeSl.info
  have hund := Cod.Tryz.nodeSl.und
  have he : Tryz.prog.elem 72 = 80 := by simp [Program.elem, hund]
  rw [run_sliceAt_slice W _ _ _ _ _ (by rw [he]; exact hund), run_slice_l W _ _ _ _ (by rw [he]; exact hund) .i64 (j : Int) (by omega) (by omega), he]
  simp [sizeOf, typeInfo, hi, hsz, Result.andThen]
abbrev fTree (v : ByteArray) (N : Nat) (sv : Value) : Obj := .cells #[.int .i64 2, .string v, .string ⟨#[]⟩, .int .i64 N, sv, .string ⟨#[]⟩] 54
def tvL (kd : Int) (k v : ByteArray) (p : Int) (s : Value) (h : ByteArray) : List Value := [.int .i64 kd, .string k, .string v, .int .i64 p, s, .string h]
/-- What a round of the loop finds. -/
def FkRel (w : World) (b : Nat) (f : F) (v : ByteArray) (N : Nat) (O1 : Option (PT × F)) (O2 : F → Option (PT × F)) (used i : Value) (wr : World) : Prop :=
  ∃ sv, wr.heap[w.heap.size]? = some zTree ∧ wr.heap[w.heap.size + 1]? = some zTree ∧ w.heap.size + 1 < b ∧ wr.heap[b]? = some (fTree v N sv) ∧ Hid (Below w.heap.size w wr) ∧
    ((i = .int .i64 0 ∧ used = .int .i64 1 ∧ sv = .slice none 0 0) ∨
     (∃ (z : PT) (j : Nat) (kd p : Int) (k u : ByteArray) (s : Value) (gS cap : Nat) (wz : World), i = .int .i64 1 ∧ used = .int .i64 ((1 + j : Nat) : Int) ∧ sv = .slice (some ⟨gS, 0, none⟩) 1 cap ∧ Hid (O1 = some (z, dropF (1 + j) f)) ∧ 1 + j ≤ f.len ∧
        Hid (RT (b + 1) wz z (tv kd k u p s z.hash)) ∧ Hid (wz.heap.size ≤ gS ∧ wz.heap.size ≤ wr.heap.size ∧ ∀ x, b + 1 ≤ x → x < wz.heap.size → wr.heap[x]? = wz.heap[x]?) ∧
        Hid (wr.ownsRow (b + 1) 54 6 sv 1 (tvL kd k u p s z.hash)) ∧ s.oneCell' = true) ∨
     (∃ (z o : PT) (r : F) (j : Nat) (kd p kd2 p2 : Int) (k u k2 u2 : ByteArray) (s s2 : Value) (gS cap : Nat), i = .int .i64 2 ∧ used = .int .i64 (j : Int) ∧ sv = .slice (some ⟨gS, 0, none⟩) 2 cap ∧ Hid (O1 = some (z, r) ∧ O2 r = some (o, dropF j f)) ∧ 1 ≤ j ∧ j ≤ f.len ∧
        Hid (RT (b + 1) wr z (tv kd k u p s z.hash)) ∧ Hid (RT (b + 1) wr o (tv kd2 k2 u2 p2 s2 o.hash)) ∧
        Hid (wr.ownsRow (b + 1) 54 6 sv 2 (tvL kd k u p s z.hash ++ tvL kd2 k2 u2 p2 s2 o.hash))))
theorem RT.one {B : Nat} {w : World} {t : PT} {kd p : Int} {k u h : ByteArray} {s : Value} (hr : RT B w t (tv kd k u p s h)) : ∃ a n c, s = .slice a n c := by
  unfold tv at hr
  match t, hr with
  | .stub _, hr => exact ⟨none, 0, 0, by unfold RT tv at hr; injection hr with h1; simp at h1; exact h1.2.2.2.2.1⟩
  | .leaf _ _, hr => exact ⟨none, 0, 0, by unfold RT tv at hr; injection hr with h1; simp at h1; exact h1.2.2.2.2.1⟩
  | .fork _ _ _ _, hr =>
    unfold RT tv at hr
    obtain ⟨g, c, _, _, _, _, _, _, _, _, _, _, h1, _⟩ := hr
    injection h1 with h1; simp at h1; exact ⟨_, _, _, h1.2.2.2.2.1⟩
def forkO (N : Nat) (v : ByteArray) (O1 : Option (PT × F)) (O2 : F → Option (PT × F)) : Option (PT × F) := match O1 with
  | none => none
  | some (z, r1) => match O2 r1 with
    | none => none
    | some (o, r2) => some (.fork N v z o, r2)

set_option maxRecDepth 30000 in
set_option maxHeartbeats 4000000 in
theorem read_fork (n : Int) (N : Nat) (s u v : ByteArray) (g2 o2 kc : Nat) (ka1 : Option Addr) (kn1 kc1 : Nat) (g o L c : Nat) (hL : 1 ≤ L) (f : F) (hLf : L = f.len) (hL9 : L ≤ 268435456) (bits : ByteArray) (at_ si : Int) (w : World)
    (hN : N < 256) (hv : v.size = 32) (hat : at_ < (N : Int)) (hfi : firstB v N = v)
    (hbel : ∀ W : World, Calls Tryz.prog 85 #[.string v, .int .i64 N, .int .i64 at_, .string bits, .int .i64 si] W fun e w' => e = .returned (.bool true) ∧ W = w')
    (O1 : Option (PT × F)) (O2 : F → Option (PT × F))
    (hzo : (∀ z r, O1 = some (z, r) → z.ok) ∧ ∀ z r o r2, O1 = some (z, r) → O2 r = some (o, r2) → o.ok)
    (ih1 : ∀ W, Below w.heap.size w W → ∀ va vn vc, sliced (some ⟨g, o, none⟩) 1 L c 4 = .slice va vn vc → Calls Tryz.prog 48 #[.slice va vn vc, .int .i64 N, .string v, .int .i64 0] W (RdO W (dropF 1 f) O1))
    (ih2 : ∀ (z : PT) (j : Nat), O1 = some (z, dropF (1 + j) f) → 1 + j ≤ f.len → ∀ W, Below w.heap.size w W → ∀ va vn vc, sliced (some ⟨g, o, none⟩) (1 + j) L c 4 = .slice va vn vc → Calls Tryz.prog 48 #[.slice va vn vc, .int .i64 N, .string v, .int .i64 1] W (RdO W (dropF (1 + j) f) (O2 (dropF (1 + j) f))))
    (c0 : w.cell? ⟨g, o, none⟩ = some (.int .i64 2)) (c1 : w.cell? ⟨g, o + 1, none⟩ = some (.int .u64 n)) (c2 : w.cell? ⟨g, o + 2, none⟩ = some (.string s)) (c3 : w.cell? ⟨g, o + 3, none⟩ = some (.slice (some ⟨g2, o2, none⟩) 2 kc))
    (p0 : w.cell? ⟨g2, o2, none⟩ = some (.int .i64 0)) (p1 : w.cell? ⟨g2, o2 + 1, none⟩ = some (.int .u64 (N : Int))) (p2 : w.cell? ⟨g2, o2 + 2, none⟩ = some (.string u)) (p3 : w.cell? ⟨g2, o2 + 3, none⟩ = some (.slice ka1 kn1 kc1))
    (q0 : w.cell? ⟨g2, o2 + 4, none⟩ = some (.int .i64 1)) (q2 : w.cell? ⟨g2, o2 + 4 + 2, none⟩ = some (.string v)) :
    Calls Tryz.prog 48 #[.slice (some ⟨g, o, none⟩) L c, .int .i64 at_, .string bits, .int .i64 si] w (RdO w f (forkO N v O1 O2)) := by
  have hL0 : 0 < L := by omega
  have hLI : (0 : Int) < (L : Int) := by omega
  have hLe : ((L : Int) == 0) = false := by simp; omega
  have x0 := cellA zTree (cellA zTree c0)
  have x1 := cellA zTree (cellA zTree c1)
  have x2 := cellA zTree (cellA zTree c2)
  have x3 := cellA zTree (cellA zTree c3)
  have y0 : (((w.alloc zTree).alloc zTree).alloc (.cells #[.int .i64 2, .int .u64 n, .string s, .slice (some ⟨g2, o2, none⟩) 2 kc] 80)).cell? ⟨g2, o2, none⟩ = some (.int .i64 0) := cellA _ (cellA _ (cellA _ p0))
  have y1 : (((w.alloc zTree).alloc zTree).alloc (.cells #[.int .i64 2, .int .u64 n, .string s, .slice (some ⟨g2, o2, none⟩) 2 kc] 80)).cell? ⟨g2, o2 + 1, none⟩ = some (.int .u64 (N : Int)) := cellA _ (cellA _ (cellA _ p1))
  have y2 : (((w.alloc zTree).alloc zTree).alloc (.cells #[.int .i64 2, .int .u64 n, .string s, .slice (some ⟨g2, o2, none⟩) 2 kc] 80)).cell? ⟨g2, o2 + 2, none⟩ = some (.string u) := cellA _ (cellA _ (cellA _ p2))
  have y3 : (((w.alloc zTree).alloc zTree).alloc (.cells #[.int .i64 2, .int .u64 n, .string s, .slice (some ⟨g2, o2, none⟩) 2 kc] 80)).cell? ⟨g2, o2 + 3, none⟩ = some (.slice ka1 kn1 kc1) := cellA _ (cellA _ (cellA _ p3))
  have z0 : (((w.alloc zTree).alloc zTree).alloc (.cells #[.int .i64 2, .int .u64 n, .string s, .slice (some ⟨g2, o2, none⟩) 2 kc] 80)).cell? ⟨g2, o2 + 4, none⟩ = some (.int .i64 1) := cellA _ (cellA _ (cellA _ q0))
  have z1 : ((((w.alloc zTree).alloc zTree).alloc (.cells #[.int .i64 2, .int .u64 n, .string s, .slice (some ⟨g2, o2, none⟩) 2 kc] 80)).alloc (.cells #[.int .i64 0, .int .u64 (N : Int), .string u, .slice ka1 kn1 kc1] 80)).cell? ⟨g2, o2 + 4 + 2, none⟩ = some (.string v) := cellA _ (cellA _ (cellA _ (cellA _ q2)))
  have h255 : ¬ (255 : Int) < (N : Int) := by omega
  have hcv : IntKind.i64.wrap (N : Int) = (N : Int) := IntWalk.i64_in _ (by omega)
  have hI : ((v.size : Int) != 32) = false := by rw [hv]; rfl
  have hatI : ¬ (N : Int) ≤ at_ := by omega
  have HBEL := Lib.hid hbel
  have HFI := Lib.hid (fun W => first_ref v N W hv (by omega))
  rw [hfi] at HFI
  obtain ⟨W4, hW4⟩ : ∃ W, W = ((((w.alloc zTree).alloc zTree).alloc (.cells #[.int .i64 2, .int .u64 n, .string s, .slice (some ⟨g2, o2, none⟩) 2 kc] 80)).alloc (.cells #[.int .i64 0, .int .u64 (N : Int), .string u, .slice ka1 kn1 kc1] 80)) := ⟨_, rfl⟩
  have hb4 : Below w.heap.size w W4 := by rw [hW4]; exact ((((Below.refl _ w).alloc (Nat.le_refl _) _).alloc (by simp) _).alloc (by simp; omega) _).alloc (by simp; omega) _
  have hbk : W4.heap[w.heap.size]? = some zTree := by
    rw [hW4]
    have hh := heap_alloc_new w zTree
    exact block_kept (block_kept (block_kept hh (by simp) ((Below.refl _ _).alloc (Nat.le_refl _) _)) (by simp; omega) ((Below.refl _ _).alloc (Nat.le_refl _) _)) (by simp; omega) ((Below.refl _ _).alloc (Nat.le_refl _) _)
  have hbk2 : W4.heap[w.heap.size + 1]? = some zTree := by
    rw [hW4]
    have hh := heap_alloc_new (w.alloc zTree) zTree
    rw [show (w.alloc zTree).heap.size = w.heap.size + 1 by simp] at hh
    exact block_kept (block_kept hh (by simp) ((Below.refl _ _).alloc (Nat.le_refl _) _)) (by simp <;> omega) ((Below.refl _ _).alloc (Nat.le_refl _) _)
  have hbk3 : W4.heap[w.heap.size + 1 + 1 + 1]? = some (.cells #[.int .i64 0, .int .u64 (N : Int), .string u, .slice ka1 kn1 kc1] 80) := by
    rw [hW4]
    have hs : (((w.alloc zTree).alloc zTree).alloc (.cells #[.int .i64 2, .int .u64 n, .string s, .slice (some ⟨g2, o2, none⟩) 2 kc] 80)).heap.size = w.heap.size + 1 + 1 + 1 := by simp
    rw [← hs]
    exact heap_alloc_new _ _
  have HW4 := Lib.hid hW4
  have HB4 := Lib.hid hb4
  have HK := Lib.hid hbk
  have HK2 := Lib.hid hbk2
  have HK3 := Lib.hid hbk3
  have HZO := Lib.hid hzo
  have HI1 := Lib.hid ih1
  have HI2 := Lib.hid ih2
  have HV := Lib.hid hv
  have HNL := Lib.hid hN
  have HLF := Lib.hid hLf
  obtain ⟨T, hT⟩ : ∃ T, T = forkO N v O1 O2 := ⟨_, rfl⟩
  rw [← hT]
  have HT := Lib.hid hT
  clear hzo hat hbel hv hfi hW4 hb4 hbk hbk2 hbk3 ih1 ih2 hT hN hLf
  go_enter Tryz.func48, Tryz.ntmps48
  go_wp2_with fail
  refine (HBEL.out _).mono ?_
  rintro e wz ⟨rfl, rfl⟩
  go_wp2_with fail
  rw [← HW4.out]
  refine (HFI.out W4).mono ?_
  rintro e w5 ⟨rfl, hb5⟩
  have hk5 := block_kept HK.out (World.lt_of_block HK.out) hb5
  have hk25 := block_kept HK2.out (World.lt_of_block HK2.out) hb5
  have hk35 := block_kept HK3.out (World.lt_of_block HK3.out) hb5
  have HB5 := Lib.hid (HB4.out.trans (hb5.mono HB4.out.size))
  obtain ⟨_, m1, _, _, _⟩ := Cod.block4 hk35
  have hlt5 := World.lt_of_block hk25
  clear hb5 hk35
  go_wp2_with fail
  obtain ⟨W5, hW5⟩ : ∃ W, W = w5.alloc (fTree v N (.slice none 0 0)) := ⟨_, rfl⟩
  rw [← hW5]
  have hbA : Below w5.heap.size w5 W5 := by rw [hW5]; exact (Below.refl _ _).alloc (Nat.le_refl _) _
  go_loopw [15, 16] (FkRel w w5.heap.size f v N O1 O2) (fun _ i _ => 2 - (intOf i).toNat)
  case atStart => exact ⟨_, block_kept hk5 (World.lt_of_block hk5) hbA, block_kept hk25 (World.lt_of_block hk25) hbA, hlt5, by rw [hW5]; exact heap_alloc_new _ _, Lib.hid (HB5.out.trans (hbA.mono HB5.out.size)), .inl ⟨rfl, rfl, rfl⟩⟩
  case round =>
    have HB5 := HB5
    clear HW4 HB4 HK HK2 HK3 HFI HBEL hk5 hk25 m1 hbA hW5
    obtain ⟨sv, hr8, hr10, hb1, hr14, hb, hcase⟩ := hrel
    rcases hcase with ⟨rfl, rfl, rfl⟩ | ⟨z, j, kd, p, k, u', s', gS, cap, wz, rfl, rfl, rfl, hO1, hjl, hRT0, hkeep, hown, hone⟩ | ⟨z, oo, r, j, kd, p, kd2, p2, k, u', k2, u2, s', s2, gS, cap, rfl, rfl, rfl, hO, hj1, hjl, hRTz, hRTo, hown⟩
    · obtain ⟨⟨t0, t1, t2, t3, t4, t5⟩, f0, f1, f2, f3, f4, f5⟩ := block6 hr14
      have hrun := fun W => run_dropN (some ⟨g, o, none⟩) L c (1) (by omega) W
      obtain ⟨va, vn, vc, hV⟩ : ∃ va vn vc, sliced (some ⟨g, o, none⟩) (1) L c 4 = .slice va vn vc := ⟨_, _, _, rfl⟩
      rw [hV] at hrun
      rw [show ((1 : Nat) : Int) = 1 from rfl] at hrun
      have HC := Lib.hid (fun W (hbX : Below w.heap.size w W) => HI1.out W hbX va vn vc hV)
      have HBD : Hid (Below w.heap.size w wr.drew) := Lib.hid hb.out.drew
      have HBAD : Hid (Below w.heap.size w (wr.alloc zTree).drew) := Lib.hid (hb.out.alloc hb.out.size _).drew
      have hb5r := World.lt_of_block hr14
      have hza : wr.heap.size < (wr.alloc zTree).drew.heap.size := by show wr.heap.size < (wr.alloc zTree).heap.size; simp
      have HBN := Lib.hid (((Below.refl wr.heap.size wr).alloc (Nat.le_refl _) zTree).drew)
      have HKN := Lib.hid (show (wr.alloc zTree).drew.heap[wr.heap.size]? = some zTree from heap_alloc_new wr zTree)
      have HR8 := Lib.hid hr8
      have HR10 := Lib.hid hr10
      have HR14 := Lib.hid hr14
      have HBW := hb
      clear hV hr8 hr10 hr14
      cases hO1 : O1 with
      | none =>
        rw [hO1] at HC HT
        unfold RdO tv0 tv at HC
        clear hO1
        go_wp2_with fail
        go_region_held3 (fun X => X.cell? ⟨w5.heap.size, 3, none⟩ = some (.int .i64 (N : Int)))
          (first | with_reducible exact t3 | with_reducible exact hcs6 | with_reducible exact cellA _ hcs6 | with_reducible exact cellA _ t3 | with_reducible exact six_other hcs6 (by omega) | exact (show wr.drew.cell? _ = _ from t3) | exact (show (wr.alloc zTree).drew.cell? _ = _ from cellA _ t3))
          (first
            | (go_at_call 48; (with_reducible refine (HC.out _ HBD.out).mono ?_); rintro e w6 ⟨rfl, hb6⟩; have hcs6 := cellD hb6 t3; have hbr := (Below.refl wr.heap.size wr).drew.trans hb6)
            | (go_at_call 48; (with_reducible refine (HC.out _ HBAD.out).mono ?_); rintro e w6 ⟨rfl, hb6⟩; have hcs6 := cellD hb6 (cellA zTree t3); have hk17 := block_kept HKN.out hza hb6; have h17 := block6 hk17; obtain ⟨⟨a0, a1, a2, a3, a4, a5⟩, b0, b1, b2, b3, b4, b5⟩ := h17; have hbr := HBN.out.trans (hb6.mono (Nat.le_of_lt hza))))
        · obtain ⟨W6, hW6⟩ : ∃ x, x = w6.alloc (.cells #[.int .i64 0, .string ⟨#[]⟩, .string ⟨#[]⟩, .int .i64 0, .slice none 0 0, .string ⟨#[]⟩] 54) := ⟨_, rfl⟩
          rw [← hW6]
          have HBR : Hid (Below wr.heap.size wr W6) := Lib.hid (by rw [hW6]; exact hbr.alloc hbr.size _)
          clear hcs6 hb6 hbr hW6
          have k8 := block_kept HR8.out (by omega) HBR.out
          have k10 := block_kept HR10.out (by omega) HBR.out
          obtain ⟨⟨y0, y1, y2, y3, y4, y5⟩, v0, v1, v2, v3, v4, v5⟩ := block6 k8
          obtain ⟨⟨e0, e1, e2, e3, e4, e5⟩, _⟩ := block6 k10
          have HBQ := Lib.hid (HBW.out.trans (HBR.out.mono HBW.out.size))
          clear k8 k10
          go_wp2_with fail
          have eT : T = none := by rw [HT.out]; rfl
          rw [eT]
          refine bodyPost_ret (v := .tuple #[tv0, .int .i64 (-1)]) (by simp [results, Tryz.results48, go_sem, tv0, tv, y0, y1, y2, y3, y4, y5]) rfl ⟨rfl, ?_⟩
          exact six_below HBQ.out (Nat.le_refl _)
        · obtain ⟨W6, hW6⟩ : ∃ x, x = ((((((w6.setCell ⟨wr.heap.size, 0, none⟩ (.int .i64 0)).setCell ⟨wr.heap.size, 1, none⟩ (.string ⟨#[]⟩)).setCell ⟨wr.heap.size, 2, none⟩ (.string ⟨#[]⟩)).setCell ⟨wr.heap.size, 3, none⟩ (.int .i64 0)).setCell ⟨wr.heap.size, 4, none⟩ (.slice none 0 0)).setCell ⟨wr.heap.size, 5, none⟩ (.string ⟨#[]⟩)) := ⟨_, rfl⟩
          rw [← hW6]
          have HBR : Hid (Below wr.heap.size wr W6) := Lib.hid (by rw [hW6]; exact six_below hbr (Nat.le_refl _))
          clear hcs6 hb6 hbr hW6 hk17 a0 a1 a2 a3 a4 a5 b0 b1 b2 b3 b4 b5
          have k8 := block_kept HR8.out (by omega) HBR.out
          have k10 := block_kept HR10.out (by omega) HBR.out
          obtain ⟨⟨y0, y1, y2, y3, y4, y5⟩, v0, v1, v2, v3, v4, v5⟩ := block6 k8
          obtain ⟨⟨e0, e1, e2, e3, e4, e5⟩, _⟩ := block6 k10
          have HBQ := Lib.hid (HBW.out.trans (HBR.out.mono HBW.out.size))
          clear k8 k10
          go_wp2_with fail
          have eT : T = none := by rw [HT.out]; rfl
          rw [eT]
          refine bodyPost_ret (v := .tuple #[tv0, .int .i64 (-1)]) (by simp [results, Tryz.results48, go_sem, tv0, tv, y0, y1, y2, y3, y4, y5]) rfl ⟨rfl, ?_⟩
          exact six_below HBQ.out (Nat.le_refl _)
      | some zr =>
        obtain ⟨z, r1⟩ := zr
        rw [hO1] at HC
        unfold RdO tv at HC
        have HO1 := Lib.hid hO1
        clear hO1
  
        go_wp2_with fail
        go_region_held3 (fun X => X.cell? ⟨w5.heap.size, 3, none⟩ = some (.int .i64 (N : Int)))
          (first | with_reducible exact t3 | with_reducible exact hcs6 | with_reducible exact cellA _ hcs6 | with_reducible exact cellA _ t3 | with_reducible exact six_other hcs6 (by omega) | exact (show wr.drew.cell? _ = _ from t3) | exact (show (wr.alloc zTree).drew.cell? _ = _ from cellA _ t3))
          (first
            | (go_at_call 48; (with_reducible refine (HC.out _ HBD.out).mono ?_); rintro e w6 ⟨kd, p, k, u', s', j, rfl, hRT', hr1, hj1, hjl, hb6⟩; have hs' := RT.one hRT'; obtain ⟨sa, sn, sc, rfl⟩ := hs'; have hRT := hRT'; have HJ := Lib.hid (And.intro hr1 (And.intro hj1 hjl)); clear hr1 hj1 hjl hRT'; have hcs6 := cellD hb6 t3; have hbr := (Below.refl wr.heap.size wr).drew.trans hb6)
            | (go_at_call 48; (with_reducible refine (HC.out _ HBAD.out).mono ?_); rintro e w6 ⟨kd, p, k, u', s', j, rfl, hRT', hr1, hj1, hjl, hb6⟩; have hs' := RT.one hRT'; obtain ⟨sa, sn, sc, rfl⟩ := hs'; have hRT := hRT'; have HJ := Lib.hid (And.intro hr1 (And.intro hj1 hjl)); clear hr1 hj1 hjl hRT'; have hcs6 := cellD hb6 (cellA zTree t3); have hk17 := block_kept HKN.out hza hb6; have h17 := block6 hk17; obtain ⟨⟨a0, a1, a2, a3, a4, a5⟩, b0, b1, b2, b3, b4, b5⟩ := h17; have hbr := HBN.out.trans (hb6.mono (Nat.le_of_lt hza))))
        · obtain ⟨W6, hW6⟩ : ∃ x, x = w6.alloc (.cells #[.int .i64 kd, .string k, .string u', .int .i64 p, .slice sa sn sc, .string z.hash] 54) := ⟨_, rfl⟩
          rw [← hW6]
          have HBR : Hid (Below wr.heap.size wr W6) := Lib.hid (by rw [hW6]; exact hbr.alloc hbr.size _)
          have K17 : Hid (W6.heap[w6.heap.size]? = some (.cells #[.int .i64 kd, .string k, .string u', .int .i64 p, .slice sa sn sc, .string z.hash] 54)) := Lib.hid (by rw [hW6]; exact heap_alloc_new _ _)
          have HRT : Hid (RT wr.heap.size W6 z (tv kd k u' p (.slice sa sn sc) z.hash)) := Lib.hid (by rw [hW6]; exact RT.keep (Nat.le_refl _) (by simp) (fun b _ h => Below.heap_alloc _ _ _ h) hRT)
          obtain ⟨b17, hb17⟩ : ∃ x, x = w6.heap.size := ⟨_, rfl⟩
          rw [← hb17] at K17 ⊢
          clear hcs6 hb6 hbr hW6 hRT hb17
          obtain ⟨hr1, hj1, hjl⟩ := HJ.out
          rw [dropF_len] at hjl
          have hjL : j + 1 ≤ L := by have := HLF.out; omega
          have hjF : 1 + j ≤ f.len := by have := HLF.out; omega
          have k8 := block_kept HR8.out (by omega) HBR.out
          have k10 := block_kept HR10.out (by omega) HBR.out
          have k14 := block_kept HR14.out hb5r HBR.out
          clear t0 t1 t2 t3 t4 t5 f0 f1 f2 f3 f4 f5
          obtain ⟨⟨t0, t1, t2, t3, t4, t5⟩, f0, f1, f2, f3, f4, f5⟩ := block6 k14
          obtain ⟨⟨y0, y1, y2, y3, y4, y5⟩, _⟩ := block6 K17.out
          have HBQ := Lib.hid (HBW.out.trans (HBR.out.mono HBW.out.size))
          have hjI : ¬ (j : Int) < 0 := by omega
          have hsum : IntKind.i64.wrap (1 + (j : Int)) = 1 + (j : Int) := IntWalk.i64_in _ (by omega)
          have hbs : w5.heap.size + 1 ≤ W6.heap.size := Nat.le_trans hb5r HBR.out.size
          have HR1 := Lib.hid (show r1 = dropF (1 + j) f by rw [hr1, dropF_add])
          have H8 := Lib.hid k8
          have H10 := Lib.hid k10
          have H14 := Lib.hid k14
          clear hr1 k8 k10 k14
          go_wp2_with (refine list_appN Tryz.treeSl rfl _ _ rfl (w5.heap.size + 1) _ 0 [] rfl (World.ownsRow_nil _ _ _ _) W6.heap.size 1 1 (tvL kd k u' p (.slice sa sn sc) z.hash) rfl (heap_alloc_new W6 _) rfl (by simp [tvL, Value.oneCell']) (by omega) (by unfold maxLen; omega) (by omega) (by simp; omega) ?_)
          intro gN capN W7 hown7 hgr7
          try simp only [Nat.zero_add, List.nil_append] at hown7
          try simp only [Nat.zero_add] at hgr7
          try simp only [Nat.zero_add]
          have hsz6 : (W6.alloc (.cells #[.int .i64 kd, .string k, .string u', .int .i64 p, .slice sa sn sc, .string z.hash] 54)).heap.size = W6.heap.size + 1 := by simp
          have hb7 : Below (w5.heap.size + 1) W6 W7 := ((Below.refl _ W6).alloc hbs _).trans (hgr7.below (by rw [hsz6]; omega) (by intro k hk; cases hk))
          have hgN : W6.heap.size ≤ gN := by
            rcases hgr7.loc gN rfl with h | h
            · cases h
            · rw [hsz6] at h; omega
          have hkp : ∀ x, x < W6.heap.size → W7.heap[x]? = W6.heap[x]? := fun x hx => by
            rw [hgr7.block (by rw [hsz6]; omega) (by intro h; cases h)]
            exact Below.heap_alloc _ _ _ hx
          have k14 := block_kept H14.out (Nat.lt_succ_self _) hb7
          have k8 := block_kept H8.out (by omega) hb7
          have k10 := block_kept H10.out (by omega) hb7
          have hs7 := hb7.size
          have HK7 := Lib.hid hkp
          have HO7 := Lib.hid hown7
          have HB7 := Lib.hid (HBQ.out.trans (hb7.mono (by have := HBW.out.size; omega)))
          clear t0 t1 t2 t3 t4 t5 f0 f1 f2 f3 f4 f5 y0 y1 y2 y3 y4 y5
          obtain ⟨⟨t0, t1, t2, t3, t4, t5⟩, f0, f1, f2, f3, f4, f5⟩ := block6 k14
          have K14 := Lib.hid k14
          have K8 := Lib.hid k8
          have K10 := Lib.hid k10
          clear hown7 hgr7 hb7 hkp k14 k8 k10
          go_wp2_with fail
          go_roundw
          case rel =>
            have hset : ∀ x, x ≠ w5.heap.size → (W7.setCell ⟨w5.heap.size, 4, none⟩ (.slice (some ⟨gN, 0, none⟩) 1 capN)).heap[x]? = W7.heap[x]? := fun x hx => Cod.setCell_ne _ _ _ _ _ hx
            refine ⟨_, by rw [hset _ (by omega)]; exact K8.out, by rw [hset _ (by omega)]; exact K10.out, hb1, four_block K14.out, Lib.hid (HB7.out.setCell (by show w.heap.size ≤ w5.heap.size; omega) _), .inr (.inl ⟨z, j, kd, p, k, u', .slice sa sn sc, gN, capN, W6, rfl, by go_num, rfl, Lib.hid (by rw [← HR1.out]), hjF, Lib.hid (HRT.out.base (by omega)), Lib.hid ⟨hgN, by rw [Cod.size_setCell]; exact hs7, fun x h1 h2 => by rw [hset x (by omega)]; exact HK7.out x h2⟩, Lib.hid ?_, rfl⟩)⟩
            exact ownN_mv HO7.out (fun k hk => hset k (by have := World.ownsRow.lt HO7.out k hk; omega))
          case measure => simp [intOf]
        · obtain ⟨W6, hW6⟩ : ∃ x, x = ((((((w6.setCell ⟨wr.heap.size, 0, none⟩ (.int .i64 kd)).setCell ⟨wr.heap.size, 1, none⟩ (.string k)).setCell ⟨wr.heap.size, 2, none⟩ (.string u')).setCell ⟨wr.heap.size, 3, none⟩ (.int .i64 p)).setCell ⟨wr.heap.size, 4, none⟩ (.slice sa sn sc)).setCell ⟨wr.heap.size, 5, none⟩ (.string z.hash)) := ⟨_, rfl⟩
          rw [← hW6]
          have HBR : Hid (Below wr.heap.size wr W6) := Lib.hid (by rw [hW6]; exact six_below hbr (Nat.le_refl _))
          have K17 : Hid (W6.heap[wr.heap.size]? = some (.cells #[.int .i64 kd, .string k, .string u', .int .i64 p, .slice sa sn sc, .string z.hash] 54)) := Lib.hid (by rw [hW6]; exact six_block hk17)
          have HRT : Hid (RT wr.heap.size W6 z (tv kd k u' p (.slice sa sn sc) z.hash)) := Lib.hid (by rw [hW6]; exact RT.keep (Nat.le_of_lt hza) (by rw [six_size]; exact Nat.le_refl _) (fun b h _ => six_keep (by omega)) hRT)
          obtain ⟨b17, hb17⟩ : ∃ x, x = wr.heap.size := ⟨_, rfl⟩
          rw [← hb17] at K17 ⊢
          clear hcs6 hb6 hbr hW6 hk17 a0 a1 a2 a3 a4 a5 b0 b1 b2 b3 b4 b5 hRT hb17
          obtain ⟨hr1, hj1, hjl⟩ := HJ.out
          rw [dropF_len] at hjl
          have hjL : j + 1 ≤ L := by have := HLF.out; omega
          have hjF : 1 + j ≤ f.len := by have := HLF.out; omega
          have k8 := block_kept HR8.out (by omega) HBR.out
          have k10 := block_kept HR10.out (by omega) HBR.out
          have k14 := block_kept HR14.out hb5r HBR.out
          clear t0 t1 t2 t3 t4 t5 f0 f1 f2 f3 f4 f5
          obtain ⟨⟨t0, t1, t2, t3, t4, t5⟩, f0, f1, f2, f3, f4, f5⟩ := block6 k14
          obtain ⟨⟨y0, y1, y2, y3, y4, y5⟩, _⟩ := block6 K17.out
          have HBQ := Lib.hid (HBW.out.trans (HBR.out.mono HBW.out.size))
          have hjI : ¬ (j : Int) < 0 := by omega
          have hsum : IntKind.i64.wrap (1 + (j : Int)) = 1 + (j : Int) := IntWalk.i64_in _ (by omega)
          have hbs : w5.heap.size + 1 ≤ W6.heap.size := Nat.le_trans hb5r HBR.out.size
          have HR1 := Lib.hid (show r1 = dropF (1 + j) f by rw [hr1, dropF_add])
          have H8 := Lib.hid k8
          have H10 := Lib.hid k10
          have H14 := Lib.hid k14
          clear hr1 k8 k10 k14
          go_wp2_with (refine list_appN Tryz.treeSl rfl _ _ rfl (w5.heap.size + 1) _ 0 [] rfl (World.ownsRow_nil _ _ _ _) W6.heap.size 1 1 (tvL kd k u' p (.slice sa sn sc) z.hash) rfl (heap_alloc_new W6 _) rfl (by simp [tvL, Value.oneCell']) (by omega) (by unfold maxLen; omega) (by omega) (by simp; omega) ?_)
          intro gN capN W7 hown7 hgr7
          try simp only [Nat.zero_add, List.nil_append] at hown7
          try simp only [Nat.zero_add] at hgr7
          try simp only [Nat.zero_add]
          have hsz6 : (W6.alloc (.cells #[.int .i64 kd, .string k, .string u', .int .i64 p, .slice sa sn sc, .string z.hash] 54)).heap.size = W6.heap.size + 1 := by simp
          have hb7 : Below (w5.heap.size + 1) W6 W7 := ((Below.refl _ W6).alloc hbs _).trans (hgr7.below (by rw [hsz6]; omega) (by intro k hk; cases hk))
          have hgN : W6.heap.size ≤ gN := by
            rcases hgr7.loc gN rfl with h | h
            · cases h
            · rw [hsz6] at h; omega
          have hkp : ∀ x, x < W6.heap.size → W7.heap[x]? = W6.heap[x]? := fun x hx => by
            rw [hgr7.block (by rw [hsz6]; omega) (by intro h; cases h)]
            exact Below.heap_alloc _ _ _ hx
          have k14 := block_kept H14.out (Nat.lt_succ_self _) hb7
          have k8 := block_kept H8.out (by omega) hb7
          have k10 := block_kept H10.out (by omega) hb7
          have hs7 := hb7.size
          have HK7 := Lib.hid hkp
          have HO7 := Lib.hid hown7
          have HB7 := Lib.hid (HBQ.out.trans (hb7.mono (by have := HBW.out.size; omega)))
          clear t0 t1 t2 t3 t4 t5 f0 f1 f2 f3 f4 f5 y0 y1 y2 y3 y4 y5
          obtain ⟨⟨t0, t1, t2, t3, t4, t5⟩, f0, f1, f2, f3, f4, f5⟩ := block6 k14
          have K14 := Lib.hid k14
          have K8 := Lib.hid k8
          have K10 := Lib.hid k10
          clear hown7 hgr7 hb7 hkp k14 k8 k10
          go_wp2_with fail
          go_roundw
          case rel =>
            have hset : ∀ x, x ≠ w5.heap.size → (W7.setCell ⟨w5.heap.size, 4, none⟩ (.slice (some ⟨gN, 0, none⟩) 1 capN)).heap[x]? = W7.heap[x]? := fun x hx => Cod.setCell_ne _ _ _ _ _ hx
            refine ⟨_, by rw [hset _ (by omega)]; exact K8.out, by rw [hset _ (by omega)]; exact K10.out, hb1, four_block K14.out, Lib.hid (HB7.out.setCell (by show w.heap.size ≤ w5.heap.size; omega) _), .inr (.inl ⟨z, j, kd, p, k, u', .slice sa sn sc, gN, capN, W6, rfl, by go_num, rfl, Lib.hid (by rw [← HR1.out]), hjF, Lib.hid (HRT.out.base (by omega)), Lib.hid ⟨hgN, by rw [Cod.size_setCell]; exact hs7, fun x h1 h2 => by rw [hset x (by omega)]; exact HK7.out x h2⟩, Lib.hid ?_, rfl⟩)⟩
            exact ownN_mv HO7.out (fun k hk => hset k (by have := World.ownsRow.lt HO7.out k hk; omega))
          case measure => simp [intOf]
    · obtain ⟨⟨t0, t1, t2, t3, t4, t5⟩, f0, f1, f2, f3, f4, f5⟩ := block6 hr14
      have hjL0 : 1 + j ≤ L := by have := HLF.out; omega
      have hrun := fun W => run_dropN (some ⟨g, o, none⟩) L c (1 + j) (by omega) W
      obtain ⟨va, vn, vc, hV⟩ : ∃ va vn vc, sliced (some ⟨g, o, none⟩) (1 + j) L c 4 = .slice va vn vc := ⟨_, _, _, rfl⟩
      rw [hV] at hrun
      rw [show ((1 + j : Nat) : Int) = 1 + (j : Int) by omega] at hrun
      have HC := Lib.hid (fun W (hbX : Below w.heap.size w W) => HI2.out z j hO1.out hjl W hbX va vn vc hV)
      have HBD : Hid (Below w.heap.size w wr.drew) := Lib.hid hb.out.drew
      have HBAD : Hid (Below w.heap.size w (wr.alloc zTree).drew) := Lib.hid (hb.out.alloc hb.out.size _).drew
      have hb5r := World.lt_of_block hr14
      have hza : wr.heap.size < (wr.alloc zTree).drew.heap.size := by show wr.heap.size < (wr.alloc zTree).heap.size; simp
      have HBN := Lib.hid (((Below.refl wr.heap.size wr).alloc (Nat.le_refl _) zTree).drew)
      have HKN := Lib.hid (show (wr.alloc zTree).drew.heap[wr.heap.size]? = some zTree from heap_alloc_new wr zTree)
      have HR8 := Lib.hid hr8
      have HR10 := Lib.hid hr10
      have HR14 := Lib.hid hr14
      have HBW := hb
      clear hV hr8 hr10 hr14
      have hu0 : (0 : Int) ≤ 1 + (j : Int) := by omega
      have huL : 1 + (j : Int) ≤ (L : Int) := by omega
      cases hO2 : O2 (dropF (1 + j) f) with
      | none =>
        rw [hO2] at HC
        unfold RdO tv0 tv at HC
        have HO2 := Lib.hid hO2
        clear hO2
        go_wp2_with fail
        go_region_held3 (fun X => X.cell? ⟨w5.heap.size, 3, none⟩ = some (.int .i64 (N : Int)))
          (first | with_reducible exact t3 | with_reducible exact hcs6 | with_reducible exact cellA _ hcs6 | with_reducible exact cellA _ t3 | with_reducible exact six_other hcs6 (by omega) | exact (show wr.drew.cell? _ = _ from t3) | exact (show (wr.alloc zTree).drew.cell? _ = _ from cellA _ t3))
          (first
            | (go_at_call 48; (with_reducible refine (HC.out _ HBD.out).mono ?_); rintro e w6 ⟨rfl, hb6⟩; have hcs6 := cellD hb6 t3; have hbr := (Below.refl wr.heap.size wr).drew.trans hb6)
            | (go_at_call 48; (with_reducible refine (HC.out _ HBAD.out).mono ?_); rintro e w6 ⟨rfl, hb6⟩; have hcs6 := cellD hb6 (cellA zTree t3); have hk17 := block_kept HKN.out hza hb6; have h17 := block6 hk17; obtain ⟨⟨a0, a1, a2, a3, a4, a5⟩, b0, b1, b2, b3, b4, b5⟩ := h17; have hbr := HBN.out.trans (hb6.mono (Nat.le_of_lt hza))))
        · obtain ⟨W6, hW6⟩ : ∃ x, x = w6.alloc (.cells #[.int .i64 0, .string ⟨#[]⟩, .string ⟨#[]⟩, .int .i64 0, .slice none 0 0, .string ⟨#[]⟩] 54) := ⟨_, rfl⟩
          rw [← hW6]
          have HBR : Hid (Below wr.heap.size wr W6) := Lib.hid (by rw [hW6]; exact hbr.alloc hbr.size _)
          clear hcs6 hb6 hbr hW6
          have k8 := block_kept HR8.out (by omega) HBR.out
          have k10 := block_kept HR10.out (by omega) HBR.out
          obtain ⟨⟨y0, y1, y2, y3, y4, y5⟩, v0, v1, v2, v3, v4, v5⟩ := block6 k8
          obtain ⟨⟨e0, e1, e2, e3, e4, e5⟩, _⟩ := block6 k10
          have HBQ := Lib.hid (HBW.out.trans (HBR.out.mono HBW.out.size))
          clear k8 k10
          go_wp2_with fail
          have eT : T = none := by rw [HT.out]; unfold forkO; rw [hO1.out]; simp only [HO2.out]
          rw [eT]
          refine bodyPost_ret (v := .tuple #[tv0, .int .i64 (-1)]) (by simp [results, Tryz.results48, go_sem, tv0, tv, y0, y1, y2, y3, y4, y5]) rfl ⟨rfl, ?_⟩
          exact six_below HBQ.out (Nat.le_refl _)
        · obtain ⟨W6, hW6⟩ : ∃ x, x = ((((((w6.setCell ⟨wr.heap.size, 0, none⟩ (.int .i64 0)).setCell ⟨wr.heap.size, 1, none⟩ (.string ⟨#[]⟩)).setCell ⟨wr.heap.size, 2, none⟩ (.string ⟨#[]⟩)).setCell ⟨wr.heap.size, 3, none⟩ (.int .i64 0)).setCell ⟨wr.heap.size, 4, none⟩ (.slice none 0 0)).setCell ⟨wr.heap.size, 5, none⟩ (.string ⟨#[]⟩)) := ⟨_, rfl⟩
          rw [← hW6]
          have HBR : Hid (Below wr.heap.size wr W6) := Lib.hid (by rw [hW6]; exact six_below hbr (Nat.le_refl _))
          clear hcs6 hb6 hbr hW6 hk17 a0 a1 a2 a3 a4 a5 b0 b1 b2 b3 b4 b5
          have k8 := block_kept HR8.out (by omega) HBR.out
          have k10 := block_kept HR10.out (by omega) HBR.out
          obtain ⟨⟨y0, y1, y2, y3, y4, y5⟩, v0, v1, v2, v3, v4, v5⟩ := block6 k8
          obtain ⟨⟨e0, e1, e2, e3, e4, e5⟩, _⟩ := block6 k10
          have HBQ := Lib.hid (HBW.out.trans (HBR.out.mono HBW.out.size))
          clear k8 k10
          go_wp2_with fail
          have eT : T = none := by rw [HT.out]; unfold forkO; rw [hO1.out]; simp only [HO2.out]
          rw [eT]
          refine bodyPost_ret (v := .tuple #[tv0, .int .i64 (-1)]) (by simp [results, Tryz.results48, go_sem, tv0, tv, y0, y1, y2, y3, y4, y5]) rfl ⟨rfl, ?_⟩
          exact six_below HBQ.out (Nat.le_refl _)
      | some zr =>
        obtain ⟨oo, r1⟩ := zr
        rw [hO2] at HC
        unfold RdO tv at HC
        have HO2 := Lib.hid hO2
        clear hO2
        go_wp2_with fail
        go_region_held3 (fun X => X.cell? ⟨w5.heap.size, 3, none⟩ = some (.int .i64 (N : Int)))
          (first | with_reducible exact t3 | with_reducible exact hcs6 | with_reducible exact cellA _ hcs6 | with_reducible exact cellA _ t3 | with_reducible exact six_other hcs6 (by omega) | exact (show wr.drew.cell? _ = _ from t3) | exact (show (wr.alloc zTree).drew.cell? _ = _ from cellA _ t3))
          (first
            | (go_at_call 48; (with_reducible refine (HC.out _ HBD.out).mono ?_); rintro e w6 ⟨kd2, pp2, k2, u2, s2, j2, rfl, hRT', hr1, hj1, hjl2, hb6⟩; have hs' := RT.one hRT'; obtain ⟨sa, sn, sc, rfl⟩ := hs'; have hRT := hRT'; have HJ := Lib.hid (And.intro hr1 (And.intro hj1 hjl2)); clear hr1 hj1 hjl2 hRT'; have hcs6 := cellD hb6 t3; have hbr := (Below.refl wr.heap.size wr).drew.trans hb6)
            | (go_at_call 48; (with_reducible refine (HC.out _ HBAD.out).mono ?_); rintro e w6 ⟨kd2, pp2, k2, u2, s2, j2, rfl, hRT', hr1, hj1, hjl2, hb6⟩; have hs' := RT.one hRT'; obtain ⟨sa, sn, sc, rfl⟩ := hs'; have hRT := hRT'; have HJ := Lib.hid (And.intro hr1 (And.intro hj1 hjl2)); clear hr1 hj1 hjl2 hRT'; have hcs6 := cellD hb6 (cellA zTree t3); have hk17 := block_kept HKN.out hza hb6; have h17 := block6 hk17; obtain ⟨⟨a0, a1, a2, a3, a4, a5⟩, b0, b1, b2, b3, b4, b5⟩ := h17; have hbr := HBN.out.trans (hb6.mono (Nat.le_of_lt hza))))
        · obtain ⟨W6, hW6⟩ : ∃ x, x = w6.alloc (.cells #[.int .i64 kd2, .string k2, .string u2, .int .i64 pp2, .slice sa sn sc, .string oo.hash] 54) := ⟨_, rfl⟩
          rw [← hW6]
          have HBR : Hid (Below wr.heap.size wr W6) := Lib.hid (by rw [hW6]; exact hbr.alloc hbr.size _)
          have K17 : Hid (W6.heap[w6.heap.size]? = some (.cells #[.int .i64 kd2, .string k2, .string u2, .int .i64 pp2, .slice sa sn sc, .string oo.hash] 54)) := Lib.hid (by rw [hW6]; exact heap_alloc_new _ _)
          have HRT : Hid (RT wr.heap.size W6 oo (tv kd2 k2 u2 pp2 (.slice sa sn sc) oo.hash)) := Lib.hid (by rw [hW6]; exact RT.keep (Nat.le_refl _) (by simp) (fun b _ h => Below.heap_alloc _ _ _ h) hRT)
          obtain ⟨b17, hb17⟩ : ∃ x, x = w6.heap.size := ⟨_, rfl⟩
          rw [← hb17] at K17 ⊢
          clear hcs6 hb6 hbr hW6 hRT hb17
          obtain ⟨hr1, hj1, hjl2⟩ := HJ.out
          rw [dropF_len] at hjl2
          have hjL : 1 + j + j2 ≤ L := by have := HLF.out; omega
          have hjF : 1 + j + j2 ≤ f.len := by have := HLF.out; omega
          have k8 := block_kept HR8.out (by omega) HBR.out
          have k10 := block_kept HR10.out (by omega) HBR.out
          have k14 := block_kept HR14.out hb5r HBR.out
          clear t0 t1 t2 t3 t4 t5 f0 f1 f2 f3 f4 f5
          obtain ⟨⟨t0, t1, t2, t3, t4, t5⟩, f0, f1, f2, f3, f4, f5⟩ := block6 k14
          obtain ⟨⟨y0, y1, y2, y3, y4, y5⟩, _⟩ := block6 K17.out
          have HBQ := Lib.hid (HBW.out.trans (HBR.out.mono HBW.out.size))
          have hjI : ¬ (j2 : Int) < 0 := by omega
          have hsum : IntKind.i64.wrap (1 + (j : Int) + (j2 : Int)) = 1 + (j : Int) + (j2 : Int) := IntWalk.i64_in _ (by omega)
          have hbs : w5.heap.size + 1 ≤ W6.heap.size := Nat.le_trans hb5r HBR.out.size
          have HR1 := Lib.hid (show r1 = dropF (1 + j + j2) f by rw [hr1, dropF_add])
          have H8 := Lib.hid k8
          have H10 := Lib.hid k10
          have H14 := Lib.hid k14
          have hgS := World.ownsRow.lt hown.out gS rfl
          have HOA := Lib.hid (ownN_mv hown.out (fun k hk => HBR.out.block k (World.ownsRow.lt hown.out k hk).2))
          clear hr1 k8 k10 k14
          go_wp2_with (refine list_appN Tryz.treeSl rfl _ _ rfl (w5.heap.size + 1) _ 1 (tvL kd k u' p s' z.hash) rfl (World.ownsRow.alloc HOA.out _) W6.heap.size 1 1 (tvL kd2 k2 u2 pp2 (.slice sa sn sc) oo.hash) rfl (heap_alloc_new W6 _) rfl (by simp [tvL, Value.oneCell']) (by omega) (by unfold maxLen; omega) (by omega) (by simp; omega) ?_)
          intro gN capN W7 hown7 hgr7
          try simp only [Nat.reduceAdd] at hown7
          try simp only [Nat.reduceAdd] at hgr7
          try simp only [Nat.reduceAdd]
          have hsz6 : (W6.alloc (.cells #[.int .i64 kd2, .string k2, .string u2, .int .i64 pp2, .slice sa sn sc, .string oo.hash] 54)).heap.size = W6.heap.size + 1 := by simp
          have hb7 : Below (w5.heap.size + 1) W6 W7 := ((Below.refl _ W6).alloc hbs _).trans (hgr7.below (by rw [hsz6]; omega) (ownN_low HOA.out))
          have hkp : ∀ x, x < W6.heap.size → x ≠ gS → W7.heap[x]? = W6.heap[x]? := fun x hx hne => by
            rw [hgr7.block (by rw [hsz6]; omega) (by intro h; injection h with h; exact hne h.symm)]
            exact Below.heap_alloc _ _ _ hx
          have k14 := block_kept H14.out (Nat.lt_succ_self _) hb7
          have k8 := block_kept H8.out (by omega) hb7
          have k10 := block_kept H10.out (by omega) hb7
          have hs7 := hb7.size
          have HK7 := Lib.hid hkp
          have HO7 := Lib.hid hown7
          have HB7 := Lib.hid (HBQ.out.trans (hb7.mono (by have := HBW.out.size; omega)))
          clear t0 t1 t2 t3 t4 t5 f0 f1 f2 f3 f4 f5 y0 y1 y2 y3 y4 y5
          obtain ⟨⟨t0, t1, t2, t3, t4, t5⟩, f0, f1, f2, f3, f4, f5⟩ := block6 k14
          have K14 := Lib.hid k14
          have K8 := Lib.hid k8
          have K10 := Lib.hid k10
          have hsr := HBR.out.size
          clear hown7 hgr7 hb7 hkp k14 k8 k10
          go_wp2_with fail
          go_roundw
          case rel =>
            have hset : ∀ x, x ≠ w5.heap.size → (W7.setCell ⟨w5.heap.size, 4, none⟩ (.slice (some ⟨gN, 0, none⟩) 2 capN)).heap[x]? = W7.heap[x]? := fun x hx => Cod.setCell_ne _ _ _ _ _ hx
            refine ⟨_, by rw [hset _ (by omega)]; exact K8.out, by rw [hset _ (by omega)]; exact K10.out, hb1, four_block K14.out, Lib.hid (HB7.out.setCell (by show w.heap.size ≤ w5.heap.size; omega) _), .inr (.inr ⟨z, oo, dropF (1 + j) f, 1 + j + j2, kd, p, kd2, pp2, k, u', k2, u2, s', .slice sa sn sc, gN, capN, by go_num, by go_num, rfl, Lib.hid ⟨hO1.out, by rw [← HR1.out]; exact HO2.out⟩, by omega, hjF, Lib.hid ?_, Lib.hid ?_, Lib.hid ?_⟩)⟩
            · refine RT.keep (Nat.le_refl _) (by rw [Cod.size_setCell]; have := hkeep.out.2.1; omega) (fun x h1 h2 => ?_) hRT0.out
              have hq := hkeep.out
              rw [hset x (by omega), HK7.out x (by omega) (by omega), HBR.out.block x (by omega), hq.2.2 x h1 h2]
            · refine RT.keep (by omega) (by rw [Cod.size_setCell]; exact hs7) (fun x h1 h2 => ?_) HRT.out
              rw [hset x (by omega), HK7.out x h2 (by omega)]
            · exact ownN_mv HO7.out (fun k hk => hset k (by have := World.ownsRow.lt HO7.out k hk; omega))
          case measure => simp [intOf]
        · obtain ⟨W6, hW6⟩ : ∃ x, x = ((((((w6.setCell ⟨wr.heap.size, 0, none⟩ (.int .i64 kd2)).setCell ⟨wr.heap.size, 1, none⟩ (.string k2)).setCell ⟨wr.heap.size, 2, none⟩ (.string u2)).setCell ⟨wr.heap.size, 3, none⟩ (.int .i64 pp2)).setCell ⟨wr.heap.size, 4, none⟩ (.slice sa sn sc)).setCell ⟨wr.heap.size, 5, none⟩ (.string oo.hash)) := ⟨_, rfl⟩
          rw [← hW6]
          have HBR : Hid (Below wr.heap.size wr W6) := Lib.hid (by rw [hW6]; exact six_below hbr (Nat.le_refl _))
          have K17 : Hid (W6.heap[wr.heap.size]? = some (.cells #[.int .i64 kd2, .string k2, .string u2, .int .i64 pp2, .slice sa sn sc, .string oo.hash] 54)) := Lib.hid (by rw [hW6]; exact six_block hk17)
          have HRT : Hid (RT wr.heap.size W6 oo (tv kd2 k2 u2 pp2 (.slice sa sn sc) oo.hash)) := Lib.hid (by rw [hW6]; exact RT.keep (Nat.le_of_lt hza) (by rw [six_size]; exact Nat.le_refl _) (fun b h _ => six_keep (by omega)) hRT)
          obtain ⟨b17, hb17⟩ : ∃ x, x = wr.heap.size := ⟨_, rfl⟩
          rw [← hb17] at K17 ⊢
          clear hcs6 hb6 hbr hW6 hk17 a0 a1 a2 a3 a4 a5 b0 b1 b2 b3 b4 b5 hRT hb17
          obtain ⟨hr1, hj1, hjl2⟩ := HJ.out
          rw [dropF_len] at hjl2
          have hjL : 1 + j + j2 ≤ L := by have := HLF.out; omega
          have hjF : 1 + j + j2 ≤ f.len := by have := HLF.out; omega
          have k8 := block_kept HR8.out (by omega) HBR.out
          have k10 := block_kept HR10.out (by omega) HBR.out
          have k14 := block_kept HR14.out hb5r HBR.out
          clear t0 t1 t2 t3 t4 t5 f0 f1 f2 f3 f4 f5
          obtain ⟨⟨t0, t1, t2, t3, t4, t5⟩, f0, f1, f2, f3, f4, f5⟩ := block6 k14
          obtain ⟨⟨y0, y1, y2, y3, y4, y5⟩, _⟩ := block6 K17.out
          have HBQ := Lib.hid (HBW.out.trans (HBR.out.mono HBW.out.size))
          have hjI : ¬ (j2 : Int) < 0 := by omega
          have hsum : IntKind.i64.wrap (1 + (j : Int) + (j2 : Int)) = 1 + (j : Int) + (j2 : Int) := IntWalk.i64_in _ (by omega)
          have hbs : w5.heap.size + 1 ≤ W6.heap.size := Nat.le_trans hb5r HBR.out.size
          have HR1 := Lib.hid (show r1 = dropF (1 + j + j2) f by rw [hr1, dropF_add])
          have H8 := Lib.hid k8
          have H10 := Lib.hid k10
          have H14 := Lib.hid k14
          have hgS := World.ownsRow.lt hown.out gS rfl
          have HOA := Lib.hid (ownN_mv hown.out (fun k hk => HBR.out.block k (World.ownsRow.lt hown.out k hk).2))
          clear hr1 k8 k10 k14
          go_wp2_with (refine list_appN Tryz.treeSl rfl _ _ rfl (w5.heap.size + 1) _ 1 (tvL kd k u' p s' z.hash) rfl (World.ownsRow.alloc HOA.out _) W6.heap.size 1 1 (tvL kd2 k2 u2 pp2 (.slice sa sn sc) oo.hash) rfl (heap_alloc_new W6 _) rfl (by simp [tvL, Value.oneCell']) (by omega) (by unfold maxLen; omega) (by omega) (by simp; omega) ?_)
          intro gN capN W7 hown7 hgr7
          try simp only [Nat.reduceAdd] at hown7
          try simp only [Nat.reduceAdd] at hgr7
          try simp only [Nat.reduceAdd]
          have hsz6 : (W6.alloc (.cells #[.int .i64 kd2, .string k2, .string u2, .int .i64 pp2, .slice sa sn sc, .string oo.hash] 54)).heap.size = W6.heap.size + 1 := by simp
          have hb7 : Below (w5.heap.size + 1) W6 W7 := ((Below.refl _ W6).alloc hbs _).trans (hgr7.below (by rw [hsz6]; omega) (ownN_low HOA.out))
          have hkp : ∀ x, x < W6.heap.size → x ≠ gS → W7.heap[x]? = W6.heap[x]? := fun x hx hne => by
            rw [hgr7.block (by rw [hsz6]; omega) (by intro h; injection h with h; exact hne h.symm)]
            exact Below.heap_alloc _ _ _ hx
          have k14 := block_kept H14.out (Nat.lt_succ_self _) hb7
          have k8 := block_kept H8.out (by omega) hb7
          have k10 := block_kept H10.out (by omega) hb7
          have hs7 := hb7.size
          have HK7 := Lib.hid hkp
          have HO7 := Lib.hid hown7
          have HB7 := Lib.hid (HBQ.out.trans (hb7.mono (by have := HBW.out.size; omega)))
          clear t0 t1 t2 t3 t4 t5 f0 f1 f2 f3 f4 f5 y0 y1 y2 y3 y4 y5
          obtain ⟨⟨t0, t1, t2, t3, t4, t5⟩, f0, f1, f2, f3, f4, f5⟩ := block6 k14
          have K14 := Lib.hid k14
          have K8 := Lib.hid k8
          have K10 := Lib.hid k10
          have hsr := HBR.out.size
          clear hown7 hgr7 hb7 hkp k14 k8 k10
          go_wp2_with fail
          go_roundw
          case rel =>
            have hset : ∀ x, x ≠ w5.heap.size → (W7.setCell ⟨w5.heap.size, 4, none⟩ (.slice (some ⟨gN, 0, none⟩) 2 capN)).heap[x]? = W7.heap[x]? := fun x hx => Cod.setCell_ne _ _ _ _ _ hx
            refine ⟨_, by rw [hset _ (by omega)]; exact K8.out, by rw [hset _ (by omega)]; exact K10.out, hb1, four_block K14.out, Lib.hid (HB7.out.setCell (by show w.heap.size ≤ w5.heap.size; omega) _), .inr (.inr ⟨z, oo, dropF (1 + j) f, 1 + j + j2, kd, p, kd2, pp2, k, u', k2, u2, s', .slice sa sn sc, gN, capN, by go_num, by go_num, rfl, Lib.hid ⟨hO1.out, by rw [← HR1.out]; exact HO2.out⟩, by omega, hjF, Lib.hid ?_, Lib.hid ?_, Lib.hid ?_⟩)⟩
            · refine RT.keep (Nat.le_refl _) (by rw [Cod.size_setCell]; have := hkeep.out.2.1; omega) (fun x h1 h2 => ?_) hRT0.out
              have hq := hkeep.out
              rw [hset x (by omega), HK7.out x (by omega) (by omega), HBR.out.block x (by omega), hq.2.2 x h1 h2]
            · refine RT.keep (by omega) (by rw [Cod.size_setCell]; exact hs7) (fun x h1 h2 => ?_) HRT.out
              rw [hset x (by omega), HK7.out x h2 (by omega)]
            · exact ownN_mv HO7.out (fun k hk => hset k (by have := World.ownsRow.lt HO7.out k hk; omega))
          case measure => simp [intOf]
    · obtain ⟨⟨t0, t1, t2, t3, t4, t5⟩, f0, f1, f2, f3, f4, f5⟩ := block6 hr14
      obtain ⟨hO1, hO2⟩ := hO.out
      have eT : T = some (.fork N v z oo, dropF j f) := by rw [HT.out]; unfold forkO; rw [hO1]; simp only [hO2]
      obtain ⟨HH, hHH⟩ : ∃ x, x = (PT.fork N v z oo).hash := ⟨_, rfl⟩
      obtain ⟨X, hX⟩ : ∃ x, x = bs (forkT N v z.hash oo.hash) := ⟨_, rfl⟩
      have HTX := Lib.hid (text_prog 2 v ⟨#[]⟩ z.hash oo.hash ⟨#[]⟩ N gS cap wr HNL.out HV.out (z.hash_size (HZO.out.1 z r hO1)) (oo.hash_size (HZO.out.2 z r oo _ hO1 hO2)) (own_cell hown.out 5 rfl) (own_cell hown.out 11 rfl))
      unfold tv at HTX
      rw [← hX] at HTX
      have HPR := Lib.hid (fun W => print_at X HH W (by rw [hX, ks_bs, hHH]; rfl) (by rw [hX, bs_size, forkT_length, HV.out, z.hash_size (HZO.out.1 z r hO1), oo.hash_size (HZO.out.2 z r oo _ hO1 hO2)]; omega))
      have hcS : ∀ i x, (tvL kd k u' p s' z.hash ++ tvL kd2 k2 u2 p2 s2 oo.hash)[i]? = some x → wr.cell? ⟨gS, i, none⟩ = some x := fun i x hx => own_cell hown.out i hx
      have HCS := Lib.hid hcS
      have hgS := World.ownsRow.lt hown.out gS rfl
      have HR8 := Lib.hid hr8
      have HR14 := Lib.hid hr14
      have HHH := Lib.hid hHH
      have EQT := Lib.hid eT
      clear eT hX hcS hr8 hr14 hO1 hO2 hHH
      go_wp2_with fail
      refine HTX.out.mono ?_
      rintro e w6 ⟨rfl, hb6⟩
      have k14 := block_kept HR14.out (World.lt_of_block HR14.out) hb6
      clear t0 t1 t2 t3 t4 t5 f0 f1 f2 f3 f4 f5
      go_wp2_with fail
      refine (HPR.out w6).mono ?_
      rintro e w7 ⟨rfl, hb7⟩
      have hb67 := hb6.trans (hb7.mono hb6.size)
      have k14 := block_kept HR14.out (World.lt_of_block HR14.out) hb67
      have k8 := block_kept HR8.out (World.lt_of_block HR8.out) hb67
      obtain ⟨⟨t0, t1, t2, t3, t4, t5⟩, f0, f1, f2, f3, f4, f5⟩ := block6 k14
      obtain ⟨⟨y0, y1, y2, y3, y4, y5⟩, v0, v1, v2, v3, v4, v5⟩ := block6 k8
      have HBW6 := Lib.hid (hb.out.trans (hb67.mono hb.out.size))
      have hne : ¬ w5.heap.size = w.heap.size := by omega
      have hne2 : ¬ w.heap.size = w5.heap.size := by omega
      clear k14 k8
      go_wp2_with fail
      rw [EQT.out]
      refine bodyPost_ret (v := .tuple #[tv 2 v ⟨#[]⟩ N (.slice (some ⟨gS, 0, none⟩) 2 cap) HH, .int .i64 j]) (by simp [results, Tryz.results48, go_sem, tv, y0, y1, y2, y3, y4, y5]) rfl ⟨2, N, v, ⟨#[]⟩, _, j, by rw [HHH.out], ?_, rfl, hj1, hjl, ?_⟩
      · have key : ∀ WF : World, (∀ x, w5.heap.size + 1 ≤ x → x < wr.heap.size → WF.heap[x]? = wr.heap[x]?) → wr.heap.size ≤ WF.heap.size → RT w.heap.size WF (.fork N v z oo) (tv 2 v ⟨#[]⟩ N (.slice (some ⟨gS, 0, none⟩) 2 cap) (PT.fork N v z oo).hash) := fun WF hk hs => by
          have ec : ∀ i x, (tvL kd k u' p s' z.hash ++ tvL kd2 k2 u2 p2 s2 oo.hash)[i]? = some x → WF.cell? ⟨gS, i, none⟩ = some x := fun i x hx => (World.cell?_of_block (a := ⟨gS, i, none⟩) (hk gS hgS.1 hgS.2)).trans (HCS.out i x hx)
          exact ⟨gS, cap, kd, p, kd2, p2, k, u', k2, u2, s', s2, rfl, by omega, by omega, ec 0 _ rfl, ec 1 _ rfl, ec 2 _ rfl, ec 3 _ rfl, ec 4 _ rfl, ec 5 _ rfl, ec 6 _ rfl, ec 7 _ rfl, ec 8 _ rfl, ec 9 _ rfl, ec 10 _ rfl, ec 11 _ rfl, RT.keep (by omega) hs hk hRTz.out, RT.keep (by omega) hs hk hRTo.out⟩
        exact key _ (fun x h1 h2 => by rw [six_keep (by omega), Cod.setCell_ne _ _ _ _ _ (by omega)]; exact hb67.block x h2) (by rw [six_size, Cod.size_setCell]; exact hb67.size)
      · exact six_below ((HBW6.out).setCell (by show w.heap.size ≤ w5.heap.size; omega) _) (Nat.le_refl _)
  
#print axioms read_fork
end Go.Proofs.YtmpjpaomgifpcaaGreatDoor
