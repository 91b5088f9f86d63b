/- The law's same: is a tree the document's? The reference's Root. -/
import Derived.Test.YtmpjpaomgifpcaaDoorPCopy
import Derived.Test.YtmpjpaomgifpcaaDoorPRead5
namespace Go.Proofs.YtmpjpaomgifpcaaDoor
open Go.RowKit

theorem RT.val {B : Nat} {w : World} {t : PT} {x : Value} (h : RT B w t x) : ∃ (kd p : Int) (k v : ByteArray) (s : Value), x = tv kd k v p s t.hash := by
  match t, h with
  | .stub u, h => exact ⟨0, 0, ⟨#[]⟩, ⟨#[]⟩, _, h⟩
  | .leaf k u, h => exact ⟨1, 0, k, u, _, h⟩
  | .fork p k z o, ⟨g, c, _, _, _, _, _, _, _, _, _, _, h, _⟩ => exact ⟨2, p, k, ⟨#[]⟩, _, h⟩

set_option maxRecDepth 30000 in
theorem root_ref0 (w : World) : Calls Tryd.prog 10 #[tv0] w (StrRes w noneH) := by
  unfold tv0 tv
  go_enter Tryd.func10, Tryd.ntmps10
  go_wp2_with (refine list_makeN Tryd.bytesSl rfl _ _ rfl 32 32 32 rfl rfl rfl rfl (by omega) (by unfold maxLen; omega) rfl ?_)
  intro w1 hr hb
  have hc := rowIs_block hr
  have hcells := cells_map 32 (List.replicate 32 (0 : UInt8)) (fun _ => 0) (by simp) (fun j hj => by rw [List.getD_eq_getElem?_getD, List.getElem?_replicate]; simp [hj])
  have e0 : arrL 32 (fun _ => Value.int .u8 0) = (List.replicate 32 (0 : UInt8)).map byteV := hcells
  rw [e0] at hc
  have hcv := run_string_row (src := 83) (dst := 9) Tryd.underlying83 Tryd.underlying5 Tryd.underlying9 (w.heap.size + 1) 32 (List.replicate 32 (0 : UInt8)) (P := Tryd.prog) (e := 5) (w := w1) hc
  rw [List.length_replicate] at hcv
  clear hc hcells e0 hr
  go_wp2
  go_ret
  exact ⟨rfl, ((Below.refl _ w).alloc (Nat.le_refl _) _).trans (hb.mono (Nat.le_succ _))⟩
set_option maxRecDepth 30000 in
theorem root_ref1 (kd p : Int) (k v h : ByteArray) (s : Value) (w : World) (hh : h.size = 32) : Calls Tryd.prog 10 #[tv kd k v p s h] w (StrRes w h) := by
  have hI : h.toList.isEmpty = false := by
    have hne : (h.toList == (⟨#[]⟩ : ByteArray).toList) = false := str_ne (fun e => by rw [e] at hh; cases hh)
    cases e : h.toList.isEmpty with
    | false => rfl
    | true =>
      have h0 : (⟨#[]⟩ : ByteArray).toList = [] := by unfold ByteArray.toList ByteArray.toList.loop; rfl
      rw [List.isEmpty_iff.1 e, h0] at hne
      exact absurd hne (by decide)
  have HB := Lib.hid ((Below.refl _ w).alloc (Nat.le_refl _) (.cells #[.int .i64 kd, .string k, .string v, .int .i64 p, s, .string h] 25))
  clear hh
  unfold tv
  go_enter Tryd.func10, Tryd.ntmps10
  go_wp2_with fail
  go_ret
  exact ⟨rfl, HB.out⟩

theorem same_nil (w : World) : Calls Tryd.prog 11 #[.pointer none, tv0] w fun e w' => e = .returned (.bool true) ∧ Below w.heap.size w w' := by
  have HB := Lib.hid ((Below.refl _ w).alloc (Nat.le_refl _) zTree)
  unfold tv0 tv
  go_enter Tryd.func11, Tryd.ntmps11
  go_wp2_with fail
  go_ret
  exact ⟨rfl, HB.out⟩

set_option maxRecDepth 30000 in
set_option maxHeartbeats 2000000 in
theorem same_stub (h : ByteArray) (b : Nat) (w : World) (hx : StubAt w b h) :
    Calls Tryd.prog 11 #[pp b, tv 0 ⟨#[]⟩ ⟨#[]⟩ 0 (.slice none 0 0) h] w fun e w' => e = .returned (.bool true) ∧ Below w.heap.size w w' := by
  have HB := Lib.hid ((Below.refl _ w).alloc (Nat.le_refl _) (.cells #[.int .i64 0, .string ⟨#[]⟩, .string ⟨#[]⟩, .int .i64 0, .slice none 0 0, .string h] 25))
  obtain ⟨c0, c1, _, _, _, _, _, c7⟩ := StubAt.cells hx
  have d0 := cellA (.cells #[.int .i64 0, .string ⟨#[]⟩, .string ⟨#[]⟩, .int .i64 0, .slice none 0 0, .string h] 25) c0
  have d1 := cellA (.cells #[.int .i64 0, .string ⟨#[]⟩, .string ⟨#[]⟩, .int .i64 0, .slice none 0 0, .string h] 25) c1
  have d7 := cellA (.cells #[.int .i64 0, .string ⟨#[]⟩, .string ⟨#[]⟩, .int .i64 0, .slice none 0 0, .string h] 25) c7
  clear hx
  unfold pp tv
  go_enter Tryd.func11, Tryd.ntmps11
  go_wp2_with fail
  go_quiet (fail)
  go_wp2_with fail
  go_ret
  exact ⟨rfl, HB.out.trans ((Same.of _ _).below _)⟩

set_option maxRecDepth 30000 in
set_option maxHeartbeats 2000000 in
theorem same_leaf (k u h : ByteArray) (b : Nat) (w : World) (hx : NodeAt w b true k u 0 (.pointer none) (.pointer none) h) :
    Calls Tryd.prog 11 #[pp b, tv 1 k u 0 (.slice none 0 0) h] w fun e w' => e = .returned (.bool true) ∧ Below w.heap.size w w' := by
  have HB := Lib.hid ((Below.refl _ w).alloc (Nat.le_refl _) (.cells #[.int .i64 1, .string k, .string u, .int .i64 0, .slice none 0 0, .string h] 25))
  obtain ⟨c0, c1, c2, c3, _, _, _, c7⟩ := NodeAt.cells8 hx
  have d0 := cellA (.cells #[.int .i64 1, .string k, .string u, .int .i64 0, .slice none 0 0, .string h] 25) c0
  have d1 := cellA (.cells #[.int .i64 1, .string k, .string u, .int .i64 0, .slice none 0 0, .string h] 25) c1
  have d2 := cellA (.cells #[.int .i64 1, .string k, .string u, .int .i64 0, .slice none 0 0, .string h] 25) c2
  have d3 := cellA (.cells #[.int .i64 1, .string k, .string u, .int .i64 0, .slice none 0 0, .string h] 25) c3
  have d7 := cellA (.cells #[.int .i64 1, .string k, .string u, .int .i64 0, .slice none 0 0, .string h] 25) c7
  clear hx
  unfold pp tv
  go_enter Tryd.func11, Tryd.ntmps11
  go_wp2_with fail
  go_quiet (fail)
  go_wp2_with fail
  go_quiet (fail)
  go_wp2_with fail
  go_ret
  exact ⟨rfl, (HB.out.trans ((Same.of _ _).below _)).trans ((Same.of _ _).below _)⟩
/-- What a fork's walk reads. -/
def ForkS (b wb g p c bz bo zn zc on oc : Nat) (k zkey zval zh okey oval oh : ByteArray) (zk zp ok op : Int) (za oa : Option Addr) (X : World) : Prop :=
  X.cell? ⟨b, 4, none⟩ = some (.int .i64 p) ∧ X.cell? ⟨b, 2, none⟩ = some (.string k) ∧ X.cell? ⟨b, 5, none⟩ = some (.pointer (some ⟨bz, 0, none⟩)) ∧ X.cell? ⟨b, 6, none⟩ = some (.pointer (some ⟨bo, 0, none⟩)) ∧ X.cell? ⟨wb, 3, none⟩ = some (.int .i64 p) ∧ X.cell? ⟨wb, 1, none⟩ = some (.string k) ∧ X.cell? ⟨wb, 4, none⟩ = some (.slice (some ⟨g, 0, none⟩) 2 c) ∧ X.cell? ⟨g, 0, none⟩ = some (.int .i64 zk) ∧ X.cell? ⟨g, 1, none⟩ = some (.string zkey) ∧ X.cell? ⟨g, 2, none⟩ = some (.string zval) ∧ X.cell? ⟨g, 3, none⟩ = some (.int .i64 zp) ∧ X.cell? ⟨g, 4, none⟩ = some (.slice za zn zc) ∧ X.cell? ⟨g, 5, none⟩ = some (.string zh) ∧ X.cell? ⟨g, 6, none⟩ = some (.int .i64 ok) ∧ X.cell? ⟨g, 7, none⟩ = some (.string okey) ∧ X.cell? ⟨g, 8, none⟩ = some (.string oval) ∧ X.cell? ⟨g, 9, none⟩ = some (.int .i64 op) ∧ X.cell? ⟨g, 10, none⟩ = some (.slice oa on oc) ∧ X.cell? ⟨g, 11, none⟩ = some (.string oh)
theorem ForkS.later {b wb g p c bz bo zn zc on oc : Nat} {k zkey zval zh okey oval oh : ByteArray} {zk zp ok op : Int} {za oa : Option Addr} {X V : World} (h : ForkS b wb g p c bz bo zn zc on oc k zkey zval zh okey oval oh zk zp ok op za oa X) (hb : Below X.heap.size X V) : ForkS b wb g p c bz bo zn zc on oc k zkey zval zh okey oval oh zk zp ok op za oa V := by
  obtain ⟨h0, h1, h2, h3, h4, h5, h6, h7, h8, h9, h10, h11, h12, h13, h14, h15, h16, h17, h18⟩ := h
  exact ⟨cellB hb h0, cellB hb h1, cellB hb h2, cellB hb h3, cellB hb h4, cellB hb h5, cellB hb h6, cellB hb h7, cellB hb h8, cellB hb h9, cellB hb h10, cellB hb h11, cellB hb h12, cellB hb h13, cellB hb h14, cellB hb h15, cellB hb h16, cellB hb h17, cellB hb h18⟩

set_option maxRecDepth 30000 in
set_option maxHeartbeats 4000000 in
theorem same_prog (t : PT) : ∀ (b : Nat) (x : Value) (B : Nat) (w : World), PRep w t b → RT B w t x →
    Calls Tryd.prog 11 #[pp b, x] w fun e w' => e = .returned (.bool true) ∧ Below w.heap.size w w' := by
  induction t with
  | stub h => intro b x B w hp hr; rw [show x = _ from hr]; exact same_stub h b w hp
  | leaf k u => intro b x B w hp hr; rw [show x = _ from hr]; exact same_leaf k u _ b w hp
  | fork p k z o iz io =>
    intro b x B w hp hr
    obtain ⟨bz, bo, hn, hpz, hpo⟩ := hp
    obtain ⟨g, c, zk, zp, ok, op, zkey, zval, okey, oval, zs, os, rfl, hg, _, a0, a1, a2, a3, a4, a5, b0, b1, b2, b3, b4, b5, hrz, hro⟩ := hr
    obtain ⟨za, zn, zc, rfl⟩ := RT.one hrz
    obtain ⟨oa, on, oc, rfl⟩ := RT.one hro
    obtain ⟨c0, c1, c2, _, c4, c5, c6, c7⟩ := NodeAt.cells8 hn
    obtain ⟨H, hH⟩ : ∃ H, H = (PT.fork p k z o).hash := ⟨_, rfl⟩
    have hH2 : forkH p k z.hash o.hash = H := by rw [hH]; rfl
    rw [hH2] at c7
    rw [← hH]
    obtain ⟨W, hW⟩ : ∃ W, W = w.alloc (.cells #[.int .i64 2, .string k, .string ⟨#[]⟩, .int .i64 p, .slice (some ⟨g, 0, none⟩) 2 c, .string H] 25) := ⟨_, rfl⟩
    have hb : Below w.heap.size w W := by rw [hW]; exact (Below.refl _ w).alloc (Nat.le_refl _) _
    have hbl := heap_alloc_new w (.cells #[.int .i64 2, .string k, .string ⟨#[]⟩, .int .i64 p, .slice (some ⟨g, 0, none⟩) 2 c, .string H] 25)
    rw [← hW] at hbl
    have HW := Lib.hid hW
    have HB := Lib.hid hb
    obtain ⟨t0, t1, t2, t3, t4, t5⟩ := six_cells hbl
    have e0 := cellB hb c0
    have e1 := cellB hb c1
    have e7 := cellB hb c7
    have e0' := e0
    have e1' := e1
    have e7' := e7
    rw [hW] at e0' e1' e7'
    have hs : ForkS b w.heap.size g p c bz bo zn zc on oc k zkey zval z.hash okey oval o.hash zk zp ok op za oa W := ⟨cellB hb c4, cellB hb c2, cellB hb c5, cellB hb c6, t3, t1, t4, cellB hb a0, cellB hb a1, cellB hb a2, cellB hb a3, cellB hb a4, cellB hb a5, cellB hb b0, cellB hb b1, cellB hb b2, cellB hb b3, cellB hb b4, cellB hb b5⟩
    have HS0 := Lib.hid hs
    have HZ := Lib.hid (fun (V : World) (h1 : Below w.heap.size w V) => iz bz _ B V (hpz.later h1) (hrz.later h1))
    have HO := Lib.hid (fun (V : World) (h1 : Below w.heap.size w V) => io bo _ B V (hpo.later h1) (hro.later h1))
    clear hs hn hpz hpo hrz hro iz io hb hbl hW hH hH2 c0 c1 c2 c4 c5 c6 c7 a0 a1 a2 a3 a4 a5 b0 b1 b2 b3 b4 b5 hg t0 t1 t2 t3 t4 t5
    unfold pp tv at *
    go_enter Tryd.func11, Tryd.ntmps11
    go_wp2_with fail
    go_quiet (fail)
    go_wp2_with fail
    rw [← HW.out]
    generalize hV : W.drewN nq = V
    have hbV : Below W.heap.size W V := by rw [← hV]; exact (Same.of _ _).below _
    have HBV := Lib.hid (HB.out.trans (hbV.mono HB.out.size))
    have S0 := Lib.hid (HS0.out.later hbV)
    clear hV hbV e0 e1 e7 e0' e1' e7'
    go_region_held3 (fun X => X.cell? ⟨b, 4, none⟩ = some (.int .i64 p) ∧ X.cell? ⟨b, 2, none⟩ = some (.string k) ∧ X.cell? ⟨b, 5, none⟩ = some (.pointer (some ⟨bz, 0, none⟩)) ∧ X.cell? ⟨b, 6, none⟩ = some (.pointer (some ⟨bo, 0, none⟩)) ∧ X.cell? ⟨w.heap.size, 3, none⟩ = some (.int .i64 p) ∧ X.cell? ⟨w.heap.size, 1, none⟩ = some (.string k) ∧ X.cell? ⟨w.heap.size, 4, none⟩ = some (.slice (some ⟨g, 0, none⟩) 2 c) ∧ X.cell? ⟨g, 0, none⟩ = some (.int .i64 zk) ∧ X.cell? ⟨g, 1, none⟩ = some (.string zkey) ∧ X.cell? ⟨g, 2, none⟩ = some (.string zval) ∧ X.cell? ⟨g, 3, none⟩ = some (.int .i64 zp) ∧ X.cell? ⟨g, 4, none⟩ = some (.slice za zn zc) ∧ X.cell? ⟨g, 5, none⟩ = some (.string z.hash) ∧ X.cell? ⟨g, 6, none⟩ = some (.int .i64 ok) ∧ X.cell? ⟨g, 7, none⟩ = some (.string okey) ∧ X.cell? ⟨g, 8, none⟩ = some (.string oval) ∧ X.cell? ⟨g, 9, none⟩ = some (.int .i64 op) ∧ X.cell? ⟨g, 10, none⟩ = some (.slice oa on oc) ∧ X.cell? ⟨g, 11, none⟩ = some (.string o.hash))
      (first | with_reducible exact S2.out | with_reducible exact S1.out | exact (show ForkS b w.heap.size g p c bz bo zn zc on oc k zkey zval z.hash okey oval o.hash zk zp ok op za oa _ from S0.out.later ((Below.refl _ _).drew)) | exact (show ForkS b w.heap.size g p c bz bo zn zc on oc k zkey zval z.hash okey oval o.hash zk zp ok op za oa _ from S1.out) | exact (show ForkS b w.heap.size g p c bz bo zn zc on oc k zkey zval z.hash okey oval o.hash zk zp ok op za oa _ from S2.out))
      (first
        | (go_at_call 11; (with_reducible refine (HZ.out _ HBV.out.drew).mono ?_); rintro e w4 ⟨rfl, hb4⟩; have HB4 := Lib.hid (HBV.out.drew.trans (hb4.mono HBV.out.drew.size)); have S1 := Lib.hid ((S0.out.later ((Below.refl _ _).drew)).later hb4); clear hb4)
        | (go_at_call 11; (with_reducible refine (HO.out _ HB4.out).mono ?_); rintro e w5 ⟨rfl, hb5⟩; have HB5 := Lib.hid (HB4.out.trans (hb5.mono HB4.out.size)); have S2 := Lib.hid (S1.out.later hb5); clear hb5))
    · go_wp2
      go_ret
      exact ⟨rfl, HB5.out⟩
end Go.Proofs.YtmpjpaomgifpcaaDoor
