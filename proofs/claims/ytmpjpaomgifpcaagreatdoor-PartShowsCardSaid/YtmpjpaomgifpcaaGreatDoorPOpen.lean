/- part's Open. -/
import Derived.Test.YtmpjpaomgifpcaaGreatDoorPTree
namespace Go.Proofs.YtmpjpaomgifpcaaGreatDoor
open Go.RowKit
open Cod (F Nd KidsAt Lies nodeV readO)

theorem PRep.set {w : World} {g i : Nat} {v : Value} {c : Array Value} (hg : w.heap[g]? = some (.cells c 87 (0, 0))) : ∀ {t : PT} {b : Nat}, PRep w t b → PRep (w.setCell ⟨g, i, none⟩ v) t b := by
  have key : ∀ (b : Nat) (d : Array Value), w.heap[b]? = some (.cells d 91 (0, 0)) → (w.setCell ⟨g, i, none⟩ v).heap[b]? = some (.cells d 91 (0, 0)) := by
    intro b d h
    have hne : b ≠ g := fun e => by
      rw [e, hg] at h
      injection h with h
      injection h with _ h
      exact absurd h (by decide)
    rw [setCell_other _ _ _ _ _ hne]; exact h
  intro t
  induction t with
  | stub h => intro b hb; exact key _ _ hb
  | leaf k v => intro b hb; exact key _ _ hb
  | fork p k z o iz io =>
    intro b hb
    obtain ⟨bz, bo, h, hz, ho⟩ := hb
    exact ⟨bz, bo, key _ _ h, iz hz, io ho⟩

/-- The tree that a text tells, whatever its root. -/
def topP (f : F) : Option (Option PT) := if f.len = 0 then some none else (match treeP f.len f none false with
  | some (t, r) => if r.len = 0 then some (some t) else none
  | none => none)
def openX (l : List UInt8) : Option (Option PT) := match readO l with
  | some x => if x.k = 2 then topP x.kids else none
  | none => none
def openO (root : ByteArray) (l : List UInt8) : Option (Option PT) := match openX l with
  | some m => if MP.root m = root then some m else none
  | none => none
/-- What is told isn't long. -/
def shortX (l : List UInt8) : Prop := ∀ x, readO l = some x → sml 5000 x.kids

theorem readO_ok {l : List UInt8} {x : Nd} (h : readO l = some x) (hl : l.length < 268435456) : x.ok ∧ x.right 20 = true ∧ l = x.bytes := by
  unfold readO at h
  split at h
  · rename_i y hy
    obtain rfl : y = x := by simpa using h
    obtain ⟨h1, h2, h3⟩ := Cod.parse_inv 20 _ _ _ hy
    exact ⟨h3 hl, h2, by simpa using h1⟩
  · cases h

theorem openX_fit {l : List UInt8} {m : Option PT} (hs : shortX l) (hl : l.length ≤ 10000000) (h : openX l = some m) : MP.ok m := by
  unfold openX at h
  split at h
  · rename_i x hx
    split at h
    · unfold topP at h
      split at h
      · obtain rfl : none = m := by simpa using h
        trivial
      · split at h
        · rename_i t r ht
          split at h
          · obtain rfl : some t = m := by simpa using h
            exact (treeP_ok _ _ _ _ _ _ (readO_ok hx (by omega)).1.2.2.2 (hs x hx) ht).1
          · cases h
        · cases h
    · cases h
  · cases h

set_option maxRecDepth 30000 in
set_option maxHeartbeats 1000000 in
theorem open_prog (root text : ByteArray) (w : World) (hs : text.size ≤ 10000000) (hsx : shortX (ks text)) (hst : Start w) :
    Calls Tryz.prog 11 #[.string root, .string text] w (EdRes w (openO root (ks text))) := by
  have HR := Lib.hid (Cod.read_prog text w hs)
  have HSX := Lib.hid hsx
  have HST := Lib.hid hst
  obtain ⟨T, hT⟩ : ∃ T, T = openO root (ks text) := ⟨_, rfl⟩
  have HT := Lib.hid hT
  have hts : text.data.toList.length ≤ 10000000 := by simpa using hs
  rw [← hT]
  clear hsx hst hT
  go_enter Tryz.func11, Tryz.ntmps11
  go_wp2_with fail
  refine HR.out.mono ?_
  rintro e w1 ⟨x, ka, kn, kc, b, rfl, hb1, hyes, hno, hkids⟩
  obtain ⟨a', c', he⟩ := hkids.shape
  injection he with he1 he2 he3
  subst he1 he2 he3
  have HK := Lib.hid hkids
  have HB1 := Lib.hid hb1
  have hblk := heap_alloc_new w1 (.cells #[.int .i64 x.k, .int .u64 x.n, .string x.s, .slice ka x.kids.len kc] 80)
  obtain ⟨W2, hW2⟩ : ∃ W2, W2 = w1.alloc (.cells #[.int .i64 x.k, .int .u64 x.n, .string x.s, .slice ka x.kids.len kc] 80) := ⟨_, rfl⟩
  have hb2 : Below w1.heap.size w1 W2 := by rw [hW2]; exact (Below.refl _ _).alloc (Nat.le_refl _) _
  have HB2 := Lib.hid (HB1.out.trans (hb2.mono HB1.out.size))
  have hs12 : w1.heap.size < W2.heap.size := by rw [hW2]; simp
  have HSZ : Hid (W2.heap.size = w1.heap.size + 1) := Lib.hid (by rw [hW2]; simp)
  rw [← hW2] at hblk
  unfold nodeV
  have HW2 := Lib.hid hW2
  clear HR hkids hb1 hb2 hW2
  cases b with
  | false =>
    obtain ⟨hro, hx0⟩ := hno rfl
    clear hx0
    have e : T = none := by rw [HT.out, openO, openX, hro]
    subst e
    clear hro hyes hno hblk
    go_wp2
    go_ret2
    exact ⟨rfl, by rw [← HW2.out]; exact HB2.out⟩
  | true =>
    have hro := hyes rfl
    by_cases hk2 : x.k = 2
    · have hI : (x.k != 2) = false := by rw [hk2]; rfl
      obtain ⟨y0, _, _, y3, _⟩ := Cod.block4 hblk
      have z0 := y0
      have z3 := y3
      rw [HW2.out] at z0 z3
      have hro2 := readO_ok hro (by omega)
      have HXK := Lib.hid hro2.1.2.2.2
      have HXS := Lib.hid (HSX.out x hro)
      have hblk3 := heap_alloc_new W2 (.cells #[.pointer none] 87)
      obtain ⟨W3, hW3⟩ : ∃ W3, W3 = W2.alloc (.cells #[.pointer none] 87) := ⟨_, rfl⟩
      have hb3 : Below W2.heap.size W2 W3 := by rw [hW3]; exact (Below.refl _ _).alloc (Nat.le_refl _) _
      have hs23 : W2.heap.size < W3.heap.size := by rw [hW3]; simp
      rw [← hW3] at hblk3
      have HB3 := Lib.hid (HB2.out.trans (hb3.mono HB2.out.size))
      have v3 := cellB hb3 y3
      have u3 := v3
      rw [hW3, HW2.out] at u3
      have HW3 := Lib.hid hW3
      have HBL3 := Lib.hid hblk3
      have HK3 : Hid (KidsAt W3 (· < W3.heap.size) x.kids (.slice ka x.kids.len kc)) := Lib.hid (HK.out.mono (fun b hb => by have := hb.2; have := hb3.size; omega) (fun b hb => by
        rw [hb3.block b (by have := hb.2; omega), HW2.out]; exact Below.heap_alloc _ _ _ hb.2))
      have HLIM : Hid (Cod.Lim x.kids.len) := Lib.hid hro2.1.2.2.1
      have HRO := Lib.hid hro
      have HK2 := Lib.hid hk2
      clear hyes hno hblk hro2 hb3 hW3 hblk3 hro hk2
      by_cases h0 : x.kids.len = 0
      · have hI0 : ¬ (0 : Int) < (x.kids.len : Int) := by omega
        have hX : Hid (T = if noneH = root then some none else none) := Lib.hid (by
          rw [HT.out, openO, openX, HRO.out]
          simp only [HK2.out, if_true, topP, if_pos h0]; rfl)
        have HPA : Hid (PAt W3 none (pp (w1.heap.size + 1))) := Lib.hid (by rw [← HSZ.out]; exact ⟨_, _, rfl, HBL3.out, rfl⟩)
        have hroot := Lib.hid (root_part HPA.out)
        unfold pp at hroot
        clear h0
        by_cases hr : noneH = root
        · have e : T = some none := by rw [hX.out, if_pos hr]
          subst e
          have hrI : noneH.toList = root.toList := by rw [hr]
          clear hX hr
          go_wp2_with fail
          rw [← HW2.out, ← HW3.out]
          (with_reducible refine hroot.out.mono ?_)
          rintro e w5 ⟨rfl, hb5⟩
          have HB5 := Lib.hid (HB3.out.trans (hb5.mono HB3.out.size))
          have HPA5 := Lib.hid (HPA.out.later hb5)
          clear hroot hb5
          unfold MP.root
          go_wp2
          go_ret2
          exact ⟨_, rfl, HPA5.out, HB5.out⟩
        · have e : T = none := by rw [hX.out, if_neg hr]
          subst e
          have hrI : (noneH.toList == root.toList) = false := str_ne hr
          clear hX hr
          go_wp2_with fail
          rw [← HW2.out, ← HW3.out]
          (with_reducible refine hroot.out.mono ?_)
          rintro e w5 ⟨rfl, hb5⟩
          have HB5 := Lib.hid (HB3.out.trans (hb5.mono HB3.out.size))
          clear hroot hb5
          unfold MP.root
          go_wp2
          go_ret2
          exact ⟨rfl, HB5.out⟩
      · have hI0 : (0 : Int) < (x.kids.len : Int) := by omega
        have hft := Lib.hid (tree_prog W3.heap.size x.kids.len x.kids (.slice ka x.kids.len kc) (.pointer none) none false 0 W3 (Nat.le_refl _) HLIM.out HXK.out HXS.out (Nat.le_refl _) HK3.out rfl rfl (HST.out.later HB3.out))
        have hX : Hid (T = (match treeP x.kids.len x.kids none false with
            | some (t, r) => if r.len = 0 then (if t.hash = root then some (some t) else none) else none
            | none => none)) := Lib.hid (by
          rw [HT.out, openO, openX, HRO.out]
          simp only [HK2.out, if_true, topP, if_neg h0]
          cases treeP x.kids.len x.kids none false with
          | none => rfl
          | some tr =>
            obtain ⟨t, r⟩ := tr
            by_cases hr0 : r.len = 0
            · simp only [if_pos hr0]; rfl
            · simp only [if_neg hr0])
        clear h0
        cases hO : treeP x.kids.len x.kids none false with
        | none =>
          have e : T = none := by rw [hX.out, hO]
          subst e
          rw [hO] at hft
          clear hX hO
          go_wp2_with fail
          rw [← HW2.out, ← HW3.out]
          (with_reducible refine hft.out.mono ?_)
          rintro e w4 ⟨rfl, hb4⟩
          have HB4 := Lib.hid (HB3.out.trans (hb4.mono HB3.out.size))
          clear hft hb4
          go_wp2
          go_ret2
          exact ⟨rfl, HB4.out⟩
        | some tr =>
          obtain ⟨t, r⟩ := tr
          rw [hO] at hft hX
          clear hO
          by_cases hr0 : r.len = 0
          · have hr0I : ¬ (0 : Int) < (r.len : Int) := by omega
            simp only [if_pos hr0] at hX
            clear hr0
            by_cases hr : t.hash = root
            · have e : T = some (some t) := by rw [hX.out, if_pos hr]
              subst e
              have hrI : t.hash.toList = root.toList := by rw [hr]
              clear hX hr
              go_wp2_with fail
              rw [← HW2.out, ← HW3.out]
              (with_reducible refine hft.out.mono ?_)
              rintro e w4 ⟨bt, vr, rfl, ht4, hk4, hb4⟩
              obtain ⟨ra, rc, rfl⟩ := hk4.shape
              have HB4 := Lib.hid (HB3.out.trans (hb4.mono HB3.out.size))
              have hbl4 : w4.heap[w1.heap.size + 1]? = some (.cells #[.pointer none] 87 (0, 0)) := by rw [← HSZ.out, hb4.block _ hs23]; exact HBL3.out
              have c4 := one_at hbl4
              have f4 : w4.frozen? ⟨w1.heap.size + 1, 0, none⟩ = false := by simp [World.frozen?, hbl4]
              obtain ⟨W5, hW5⟩ : ∃ W5, W5 = w4.setCell ⟨w1.heap.size + 1, 0, none⟩ (pp bt) := ⟨_, rfl⟩
              have HPA5 : Hid (PAt W5 (some t) (pp (w1.heap.size + 1))) := Lib.hid ⟨_, pp bt, rfl, by rw [hW5]; exact heap_setCell_same w4 _ 0 _ _ _ hbl4, bt, rfl, by rw [hW5]; exact PRep.set hbl4 ht4⟩
              have HB5 : Hid (Below w.heap.size w W5) := Lib.hid (by rw [hW5]; exact HB4.out.setCell (p := ⟨w1.heap.size + 1, 0, none⟩) (by have := HB2.out.size; have := HSZ.out; show w.heap.size ≤ w1.heap.size + 1; have := HB1.out.size; omega) _)
              have hroot := Lib.hid (root_part HPA5.out)
              have HW5 := Lib.hid hW5
              unfold pp at hroot HW5 ⊢
              clear hft hb4 hk4 ht4 hbl4 hW5
              go_wp2_with fail
              rw [← HW5.out]
              (with_reducible refine hroot.out.mono ?_)
              rintro e w6 ⟨rfl, hb6⟩
              have HB6 := Lib.hid (HB5.out.trans (hb6.mono HB5.out.size))
              have HH6 := Lib.hid hb6
              clear hroot hb6
              unfold MP.root
              go_wp2
              go_ret2
              exact ⟨_, rfl, HPA5.out.later HH6.out, HB6.out⟩
            · have e : T = none := by rw [hX.out, if_neg hr]
              subst e
              have hrI : (t.hash.toList == root.toList) = false := str_ne hr
              clear hX hr
              go_wp2_with fail
              rw [← HW2.out, ← HW3.out]
              (with_reducible refine hft.out.mono ?_)
              rintro e w4 ⟨bt, vr, rfl, ht4, hk4, hb4⟩
              obtain ⟨ra, rc, rfl⟩ := hk4.shape
              have HB4 := Lib.hid (HB3.out.trans (hb4.mono HB3.out.size))
              have hbl4 : w4.heap[w1.heap.size + 1]? = some (.cells #[.pointer none] 87 (0, 0)) := by rw [← HSZ.out, hb4.block _ hs23]; exact HBL3.out
              have c4 := one_at hbl4
              have f4 : w4.frozen? ⟨w1.heap.size + 1, 0, none⟩ = false := by simp [World.frozen?, hbl4]
              obtain ⟨W5, hW5⟩ : ∃ W5, W5 = w4.setCell ⟨w1.heap.size + 1, 0, none⟩ (pp bt) := ⟨_, rfl⟩
              have HPA5 : Hid (PAt W5 (some t) (pp (w1.heap.size + 1))) := Lib.hid ⟨_, pp bt, rfl, by rw [hW5]; exact heap_setCell_same w4 _ 0 _ _ _ hbl4, bt, rfl, by rw [hW5]; exact PRep.set hbl4 ht4⟩
              have HB5 : Hid (Below w.heap.size w W5) := Lib.hid (by rw [hW5]; exact HB4.out.setCell (p := ⟨w1.heap.size + 1, 0, none⟩) (by have := HB2.out.size; have := HSZ.out; show w.heap.size ≤ w1.heap.size + 1; have := HB1.out.size; omega) _)
              have hroot := Lib.hid (root_part HPA5.out)
              have HW5 := Lib.hid hW5
              unfold pp at hroot HW5 ⊢
              clear hft hb4 hk4 ht4 hbl4 hW5
              go_wp2_with fail
              rw [← HW5.out]
              (with_reducible refine hroot.out.mono ?_)
              rintro e w6 ⟨rfl, hb6⟩
              have HB6 := Lib.hid (HB5.out.trans (hb6.mono HB5.out.size))
              have HH6 := Lib.hid hb6
              clear hroot hb6
              unfold MP.root
              go_wp2
              go_ret2
              exact ⟨rfl, HB6.out⟩
          · have hr0I : (0 : Int) < (r.len : Int) := by omega
            have e : T = none := by
              have := hX.out
              simp only [if_neg hr0] at this; exact this
            subst e
            clear hX hr0
            go_wp2_with fail
            rw [← HW2.out, ← HW3.out]
            (with_reducible refine hft.out.mono ?_)
            rintro e w4 ⟨bt, vr, rfl, ht4, hk4, hb4⟩
            obtain ⟨ra, rc, rfl⟩ := hk4.shape
            have HB4 := Lib.hid (HB3.out.trans (hb4.mono HB3.out.size))
            clear hft hb4 hk4 ht4
            unfold pp
            go_wp2
            go_ret2
            exact ⟨rfl, HB4.out⟩
    · have e : T = none := by rw [HT.out, openO, openX, hro]; simp [hk2]
      have hI : (x.k != 2) = true := by simpa using hk2
      obtain ⟨y0, _⟩ := Cod.block4 hblk
      rw [HW2.out] at y0
      subst e
      clear hro hyes hno hblk hk2
      go_wp2
      go_ret2
      exact ⟨rfl, by rw [← HW2.out]; exact HB2.out⟩
end Go.Proofs.YtmpjpaomgifpcaaGreatDoor
