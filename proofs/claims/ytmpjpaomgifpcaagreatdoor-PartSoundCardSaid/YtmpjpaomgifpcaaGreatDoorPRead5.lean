/- The reference's Open and Root. -/
import Derived.Test.YtmpjpaomgifpcaaGreatDoorPRead4
namespace Go.Proofs.YtmpjpaomgifpcaaGreatDoor
open Go.RowKit
open Cod (F Nd KidsAt Lies nodeV readO)

/-- What the reference's Open answers. -/
def OrRes (w : World) (o : Option (Option PT)) (e : Ending) (w' : World) : Prop := match o with
  | none => e = .returned (.tuple #[tv0, .bool false]) ∧ Below w.heap.size w w'
  | some none => e = .returned (.tuple #[tv0, .bool true]) ∧ Below w.heap.size w w'
  | some (some t) => ∃ (kd p : Int) (k v : ByteArray) (s : Value), e = .returned (.tuple #[tv kd k v p s t.hash, .bool true]) ∧ RT w.heap.size w' t (tv kd k v p s t.hash) ∧ Below w.heap.size w w'

set_option maxRecDepth 30000 in
set_option maxHeartbeats 2000000 in
theorem open_ref (text : ByteArray) (w : World) (hs : text.size ≤ 10000000) (hsx : shortX (ks text)) :
    Calls Tryz.prog 19 #[.string text] w (OrRes w (openX (ks text))) := by
  obtain ⟨W1, hW1⟩ : ∃ W1, W1 = w.alloc zTree := ⟨_, rfl⟩
  have HR := Lib.hid (Cod.read_ref text W1 hs)
  have HSX := Lib.hid hsx
  obtain ⟨T, hT⟩ : ∃ T, T = openX (ks text) := ⟨_, rfl⟩
  have HT := Lib.hid hT
  have hts : text.data.toList.length ≤ 10000000 := by simpa using hs
  have hblk0 := heap_alloc_new w zTree
  rw [← hW1] at hblk0
  have HBL0 := Lib.hid hblk0
  have hb01 : Below w.heap.size w W1 := by rw [hW1]; exact (Below.refl _ _).alloc (Nat.le_refl _) _
  have hsz1 : W1.heap.size = w.heap.size + 1 := by rw [hW1]; simp
  have HSZ1 := Lib.hid hsz1
  have HB01 := Lib.hid hb01
  have HW1 := Lib.hid hW1
  rw [← hT]
  clear hsx hT hblk0 hb01 hsz1 hW1
  go_enter Tryz.func19, Tryz.ntmps19
  go_wp2_with fail
  rw [← HW1.out]
  (with_reducible refine HR.out.mono ?_)
  rintro e w1 ⟨x, ka, kn, kc, b, rfl, hb1, hyes, hno, hkids⟩
  obtain ⟨a', c', he⟩ := hkids.shape
  injection he with he1 he2 he3
  subst he1 he2 he3
  have HK := Lib.hid hkids
  have HB1 := Lib.hid (HB01.out.trans (hb1.mono HB01.out.size))
  have hbl1 : w1.heap[w.heap.size]? = some zTree := block_kept HBL0.out (by rw [HSZ1.out]; exact Nat.lt_succ_self _) hb1
  have hblk := heap_alloc_new w1 (.cells #[.int .i64 x.k, .int .u64 x.n, .string x.s, .slice ka x.kids.len kc] 80)
  obtain ⟨W2, hW2⟩ : ∃ W2, W2 = w1.alloc (.cells #[.int .i64 x.k, .int .u64 x.n, .string x.s, .slice ka x.kids.len kc] 80) := ⟨_, rfl⟩
  have hb2 : Below w1.heap.size w1 W2 := by rw [hW2]; exact (Below.refl _ _).alloc (Nat.le_refl _) _
  have hbl2 : W2.heap[w.heap.size]? = some zTree := block_kept hbl1 (World.lt_of_block hbl1) hb2
  have HBL2 := Lib.hid hbl2
  have HB2 := Lib.hid (HB1.out.trans (hb2.mono HB1.out.size))
  have hs12 : w1.heap.size < W2.heap.size := by rw [hW2]; simp
  have HW1S : Hid (W1.heap.size ≤ w1.heap.size) := Lib.hid hb1.size
  rw [← hW2] at hblk
  obtain ⟨⟨a0, a1, a2, a3, a4, a5⟩, b0, b1, b2, b3, b4, b5⟩ := block6 hbl2
  unfold nodeV
  have HW2 := Lib.hid hW2
  have HK2 : Hid (KidsAt W2 (· < W2.heap.size) x.kids (.slice ka x.kids.len kc)) := Lib.hid (HK.out.mono (fun b hb => by have := hb.2; omega) (fun b hb => hb2.block b hb.2))
  have hbl2' := hbl2
  rw [hW2] at hbl2'
  obtain ⟨⟨a0', a1', a2', a3', a4', a5'⟩, b0', b1', b2', b3', b4', b5'⟩ := block6 hbl2'
  clear HR hkids hb1 hb2 hW2 hbl1 hbl2 hbl2'
  have hFR : ∀ (X : World), Below w.heap.size w X → Below w.heap.size w ((((((X.setCell ⟨w.heap.size, 0, none⟩ (.int .i64 0)).setCell ⟨w.heap.size, 1, none⟩ (.string ⟨#[]⟩)).setCell ⟨w.heap.size, 2, none⟩ (.string ⟨#[]⟩)).setCell ⟨w.heap.size, 3, none⟩ (.int .i64 0)).setCell ⟨w.heap.size, 4, none⟩ (.slice none 0 0)).setCell ⟨w.heap.size, 5, none⟩ (.string ⟨#[]⟩)) := fun X h => six_below h (Nat.le_refl _)
  have HFR := Lib.hid hFR
  clear hFR
  cases b with
  | false =>
    obtain ⟨hro, hx0⟩ := hno rfl
    clear hx0
    have e : T = none := by rw [HT.out, openX, hro]
    subst e
    clear hro hyes hno hblk
    go_wp2_with fail
    rw [← HW2.out]
    refine bodyPost_ret (v := .tuple #[tv0, .bool false]) (by simp [results, Tryz.results19, go_sem, tv0, tv, a0, a1, a2, a3, a4, a5]) rfl ⟨rfl, ?_⟩
    exact HFR.out _ HB2.out
  | true =>
    have hro := hyes rfl
    by_cases hk2 : x.k = 2
    · have hI : (x.k != 2) = false := by rw [hk2]; rfl
      obtain ⟨y0, _, _, y3, _⟩ := Cod.block4 hblk
      have z0 := y0
      have z3 := y3
      rw [HW2.out] at z0 z3
      have hro2 := readO_ok hro (by omega)
      have HXK := Lib.hid hro2.1.2.2.2
      have HXS := Lib.hid (HSX.out x hro)
      have HLIM : Hid (x.kids.len < 268435456) := Lib.hid hro2.1.2.2.1
      by_cases h0 : x.kids.len = 0
      · have hI0 : ((x.kids.len : Int) == 0) = true := by simp; omega
        have e : T = some none := by rw [HT.out, openX, hro]; simp only [hk2, if_true, topP, if_pos h0]
        subst e
        clear hro hyes hno hblk hro2 hk2 h0
        go_wp2_with fail
        rw [← HW2.out]
        refine bodyPost_ret (v := .tuple #[tv0, .bool true]) (by simp [results, Tryz.results19, go_sem, tv0, tv, a0, a1, a2, a3, a4, a5]) rfl ⟨rfl, ?_⟩
        exact HFR.out _ HB2.out
      · have hI0 : ((x.kids.len : Int) == 0) = false := by simp; omega
        have hft : Hid (Calls Tryz.prog 48 #[.slice ka x.kids.len kc, .int .i64 (-1), .string ⟨#[]⟩, .int .i64 0] W2 (RdO W2 x.kids (treeP x.kids.len x.kids none false))) :=
          Lib.hid (read_prog W2.heap.size x.kids.len x.kids _ none false (-1) ⟨#[]⟩ W2 (Nat.le_refl _) (Nat.le_of_lt HLIM.out) HXK.out HXS.out (Nat.le_refl _) HK2.out rfl)
        have hX : Hid (T = (match treeP x.kids.len x.kids none false with
            | some (t, r) => if r.len = 0 then some (some t) else none
            | none => none)) := Lib.hid (by
          rw [HT.out, openX, hro]
          simp only [hk2, if_true, topP, if_neg h0]
          rfl)
        cases hO : treeP x.kids.len x.kids none false with
        | none =>
          have e : T = none := by rw [hX.out, hO]
          subst e
          rw [hO] at hft
          have hI7 : ((-1 : Int) != (x.kids.len : Int)) = true := by simp <;> omega
          clear hX hO hro hyes hno hblk hro2 hk2 h0
          have HBL := HBL2
          clear a0 a1 a2 a3 a4 a5 b0 b1 b2 b3 b4 b5 a0' a1' a2' a3' a4' a5' b0' b1' b2' b3' b4' b5'
          go_wp2_with fail
          rw [← HW2.out]
          (with_reducible refine hft.out.mono ?_)
          rintro e w4 ⟨rfl, hb4⟩
          have HB4 := Lib.hid (HB2.out.trans (hb4.mono HB2.out.size))
          have hbl4 := block_kept HBL.out (World.lt_of_block HBL.out) hb4
          have v3 := cellB hb4 y3
          have hbl5 : (w4.alloc zTree).heap[w.heap.size]? = some zTree := block_kept hbl4 (World.lt_of_block hbl4) ((Below.refl _ _).alloc (Nat.le_refl _) _)
          obtain ⟨⟨a0, a1, a2, a3, a4, a5⟩, b0, b1, b2, b3, b4, b5⟩ := block6 hbl5
          have v4 := cellA zTree v3
          clear hbl4 hbl5
          unfold tv0 tv
          go_wp2_with fail
          refine bodyPost_ret (v := .tuple #[tv0, .bool false]) (by simp [results, Tryz.results19, go_sem, tv0, tv, a0, a1, a2, a3, a4, a5]) rfl ⟨rfl, ?_⟩
          exact HFR.out _ (HB4.out.alloc HB4.out.size _)
        | some tr =>
          obtain ⟨t, r⟩ := tr
          rw [hO] at hft hX
          clear hO hro hyes hno hblk hro2 hk2 h0
          have HBL := HBL2
          clear a0 a1 a2 a3 a4 a5 b0 b1 b2 b3 b4 b5 a0' a1' a2' a3' a4' a5' b0' b1' b2' b3' b4' b5'
          go_wp2_with fail
          rw [← HW2.out]
          (with_reducible refine hft.out.mono ?_)
          rintro e w4 ⟨kd, p, k, v, s, j, rfl, hrt, hrd, hj1, hjl, hb4⟩
          obtain ⟨sa, sn, sc, rfl⟩ := RT.one hrt
          have HRT := Lib.hid hrt
          have hrl : r.len = x.kids.len - j := by rw [hrd, dropF_len]
          have HB4 := Lib.hid (HB2.out.trans (hb4.mono HB2.out.size))
          have hbl4 := block_kept HBL.out (World.lt_of_block HBL.out) hb4
          have v3 := cellB hb4 y3
          have hbl5 : (w4.alloc (.cells #[.int .i64 kd, .string k, .string v, .int .i64 p, .slice sa sn sc, .string t.hash] 54)).heap[w.heap.size]? = some zTree := block_kept hbl4 (World.lt_of_block hbl4) ((Below.refl _ _).alloc (Nat.le_refl _) _)
          have hbl6 := heap_alloc_new w4 (.cells #[.int .i64 kd, .string k, .string v, .int .i64 p, .slice sa sn sc, .string t.hash] 54)
          obtain ⟨⟨a0, a1, a2, a3, a4, a5⟩, b0, b1, b2, b3, b4, b5⟩ := block6 hbl5
          obtain ⟨⟨d0, d1, d2, d3, d4, d5⟩, _⟩ := block6 hbl6
          have v4 := cellA (.cells #[.int .i64 kd, .string k, .string v, .int .i64 p, .slice sa sn sc, .string t.hash] 54) v3
          have HS4 : Hid (W2.heap.size ≤ w4.heap.size ∧ w.heap.size < W2.heap.size) := Lib.hid ⟨hb4.size, World.lt_of_block HBL.out⟩
          clear hbl4 hbl5 hbl6 hrt hb4 hft hrd
          by_cases hj : j = x.kids.len
          · have hI7 : ((j : Int) != (x.kids.len : Int)) = false := by rw [hj]; simp
            have e : T = some (some t) := by rw [hX.out]; exact if_pos (by omega)
            subst e
            clear hX hj hrl hjl
            unfold tv
            go_wp2_with fail
            refine bodyPost_ret (v := .tuple #[tv kd k v p (.slice sa sn sc) t.hash, .bool true]) (by simp [results, Tryz.results19, go_sem, tv, a0, a1, a2, a3, a4, a5]) rfl ⟨kd, p, k, v, .slice sa sn sc, rfl, ?_, ?_⟩
            · refine RT.keep (B := W2.heap.size) (B' := w.heap.size) (w := w4) (Nat.le_of_lt HS4.out.2) ?_ ?_ HRT.out
              · rw [six_size]; simp
              · intro b h1 h2
                rw [six_keep (by have := HS4.out.2; omega)]
                exact Below.heap_alloc _ _ _ h2
            · exact six_below (HB4.out.alloc HB4.out.size _) (Nat.le_refl _)
          · have hI7 : ((j : Int) != (x.kids.len : Int)) = true := by simp <;> omega
            have e : T = none := by rw [hX.out]; exact if_neg (by omega)
            subst e
            clear hX hj hrl hjl HRT
            unfold tv
            go_wp2_with fail
            refine bodyPost_ret (v := .tuple #[tv0, .bool false]) (by simp [results, Tryz.results19, go_sem, tv0, tv, a0, a1, a2, a3, a4, a5]) rfl ⟨rfl, ?_⟩
            exact HFR.out _ (HB4.out.alloc HB4.out.size _)
    · have e : T = none := by rw [HT.out, openX, hro]; simp [hk2]
      have hI : (x.k != 2) = true := by simpa using hk2
      obtain ⟨y0, _⟩ := Cod.block4 hblk
      rw [HW2.out] at y0
      subst e
      clear hro hyes hno hblk hk2
      go_wp2_with fail
      rw [← HW2.out]
      refine bodyPost_ret (v := .tuple #[tv0, .bool false]) (by simp [results, Tryz.results19, go_sem, tv0, tv, a0, a1, a2, a3, a4, a5]) rfl ⟨rfl, ?_⟩
      exact HFR.out _ HB2.out
end Go.Proofs.YtmpjpaomgifpcaaGreatDoor
