/- ShaTwice, given Sum. -/
import Derived.Test.YtohjnhekkifhbaaDoorLaws1
import Derived.Deep.DeepCutAuto
import Derived.Deep.RegionHeld3
import Derived.Laws.Concat
namespace Go.Proofs.YtohjnhekkifhbaaDoor
open Go.RowKit

def Z64 : Obj := .cells (arrL 64 (fun _ => Value.int .u8 0)).toArray 5
theorem make64 (W : World) : (Instr.makeSlice 32 (.int .i64 64) (.int .i64 64)).run Tryd.prog W = .ok (.slice (some ⟨W.heap.size, 0, none⟩) 64 64) (W.alloc Z64) := by
  obtain ⟨i, hi, hz, hsz, hby⟩ := info_parts Tryd.bytesSl.info
  have h := run_make (P := Tryd.prog) W 32 5 i (.int .u8 0) Tryd.bytesSl.und hi hz .i64 .i64 64 64 (by decide) (by decide) (by rw [hby]; decide) (by decide)
  rw [hsz] at h
  have e : madeCells (Value.int .u8 0).cells (Int.toNat 64 * 1) = (arrL 64 (fun _ => Value.int .u8 0)).toArray := by kernel_rfl
  rw [e] at h
  exact h
theorem two64 (W : World) : ((W.alloc Z64).alloc Z64).drew.rowIs W.heap.size 5 64 (fun _ => .int .u8 0) ∧ ((W.alloc Z64).alloc Z64).drew.rowIs (W.heap.size + 1) 5 64 (fun _ => .int .u8 0) ∧ Below W.heap.size W ((W.alloc Z64).alloc Z64).drew := by
  have b1 : Below W.heap.size W (W.alloc Z64) := (Below.refl _ _).alloc (Nat.le_refl _) _
  have b2 : Below W.heap.size W ((W.alloc Z64).alloc Z64) := b1.alloc (by simp) _
  have r1 : (W.alloc Z64).rowIs W.heap.size 5 64 (fun _ => .int .u8 0) := rowIs_of_block (heap_at_alloc W Z64)
  have b3 : Below (W.alloc Z64).heap.size (W.alloc Z64) ((W.alloc Z64).alloc Z64).drew := ((Below.refl _ _).alloc (Nat.le_refl _) _).drew
  have r2 : ((W.alloc Z64).alloc Z64).drew.rowIs (W.alloc Z64).heap.size 5 64 (fun _ => .int .u8 0) := rowIs_of_block (heap_at_alloc (W.alloc Z64) Z64)
  have e : (W.alloc Z64).heap.size = W.heap.size + 1 := by simp
  rw [e] at r2
  exact ⟨rowIs_later r1 b3, r2, b2.drew⟩
theorem z64_row {W : World} {g : Nat} (h : W.heap[g]? = some Z64) : W.rowIs g 5 64 (fun _ => .int .u8 0) := rowIs_of_block h

theorem keyrow (key : ByteArray) (m : UInt8) (F : Nat → UInt8) (hF : F = fun k => if k < key.size then key.data.getD k 0 else 0) (hs : key.size ≤ 64) (W : World) (g : Nat) (h : W.rowIs g 5 64 (fun j => byteV (F j ^^^ m))) :
    (convert 32 9 (.slice (some ⟨g, 0, none⟩) 64 64)).run Tryd.prog W = .ok (.string ⟨(xorL (key.data.toList ++ List.replicate (64 - key.size) 0) m).toArray⟩) W := by
  obtain ⟨R, hR⟩ : ∃ R, R = xorL (key.data.toList ++ List.replicate (64 - key.size) 0) m := ⟨_, rfl⟩
  have hlen : R.length = 64 := by rw [hR]; simp [xorL]; omega
  have hres : ∀ k, k < 64 → R.getD k 0 = F k ^^^ m := fun k hk => by rw [hR, hF]; exact keyB_get key m k hk hs
  have hc := rowIs_block h
  have hcells : (arrL 64 (fun j => byteV (F j ^^^ m))) = R.map byteV := by
    apply List.ext_getElem (by rw [arrL_length, List.length_map, hlen])
    intro j h1 h2
    have hj : j < 64 := by simpa [arrL] using h1
    have h3 := hres j hj
    have h4 : j < R.length := by rw [hlen]; exact hj
    simp only [List.getD, List.getElem?_eq_getElem h4, Option.getD_some] at h3
    simp [arrL, h3]
  rw [hcells] at hc
  have hcv := run_string_row (src := 32) (dst := 9) Tryd.underlying32 Tryd.underlying5 Tryd.underlying9 g 64 R (P := Tryd.prog) (e := 5) (w := W) hc
  rw [hlen] at hcv
  rw [← hR]; exact hcv
theorem keyL_is (k : List UInt8) (h : k.length ≤ 64) : keyL k = k ++ List.replicate (64 - k.length) 0 := by
  unfold keyL; rw [if_neg (by omega)]

section
variable {P : Program} {ops : Array Oper} {S : World → Prop} {op : Oper} {a : Act}
theorem yields_move (hw : Region.wanted op (yielded ops a.tmps) = true) (x : Operand) (ho : op.op = .move x) (v : Value) (hx : a.eval x = v) : YieldsIf P ops S op v a :=
  .inl ⟨hw, fun w _ => by simp [execOp, ho, hx]⟩
theorem yields_convert (hw : Region.wanted op (yielded ops a.tmps) = true) (src dst : TypeId) (x : Operand) (ho : op.op = .convert src dst x) (v u : Value) (hx : a.eval x = v)
    (h : ∀ w, S w → (convert src dst v).run P w = .ok u w) : YieldsIf P ops S op u a :=
  .inl ⟨hw, fun w hS => by simp [execOp, ho, hx, h w hS]⟩
theorem yields_add (hw : Region.wanted op (yielded ops a.tmps) = true) (t t' : TypeId) (x y : Operand) (ho : op.op = .binOp .add t x y t') (p q : ByteArray) (hx : a.eval x = .string p) (hy : a.eval y = .string q)
    (h : p.size + q.size ≤ 9223372036854775807) : YieldsIf P ops S op (.string (p ++ q)) a :=
  .inl ⟨hw, fun w _ => by simp [execOp, ho, hx, hy, eqGuard, binOp, run_string_add_sum (w := w) p q h]⟩
end

set_option maxRecDepth 100000 in
set_option maxHeartbeats 4000000 in
theorem twice_law (H : SumOk) (key s : ByteArray) (w : World) (hst : Start w) (hmk : key.size ≤ maxLen) (hmax : s.size ≤ maxLen) :
    Calls Tryd.prog 8 #[.string key, .string s] w fun e w' => e = .returned (.bool true) ∧ Below w.heap.size w w' := by
  have HA := Lib.hid (awake_prog H w hst)
  have HH := Lib.hid H
  have HS := Lib.hid hst
  unfold maxLen at hmax hmk
  clear H hst
  go_enter Tryd.func8, Tryd.ntmps8
  by_cases hbig : 64 < key.size
  · go_wp2_with fail
    refine HA.out.mono ?_
    rintro e w1 ⟨rfl, hb1⟩
    go_wp2
    go_ret
    exact ⟨rfl, hb1⟩
  · by_cases hbig2 : 300 < s.size
    · go_wp2_with fail
      refine HA.out.mono ?_
      rintro e w1 ⟨rfl, hb1⟩
      go_wp2
      go_ret
      exact ⟨rfl, hb1⟩
    · go_wp2_with fail
      refine HA.out.mono ?_
      rintro e w1 ⟨rfl, hb1⟩
      have hst1 := Lib.hid (HS.out.later hb1)
      go_upto_region 5 with fail
      go_cut [5, 6] (fun s5 s6 wx => ∃ g h : Nat, s5 = .slice (some ⟨g, 0, none⟩) 64 64 ∧ s6 = .slice (some ⟨h, 0, none⟩) 64 64 ∧ g ≠ h ∧ w1.heap.size ≤ g ∧ w1.heap.size ≤ h ∧ wx.rowIs g 5 64 (fun _ => .int .u8 0) ∧ wx.rowIs h 5 64 (fun _ => .int .u8 0) ∧ Below w1.heap.size w1 wx)
      case first =>
        have hm := make64
        obtain ⟨t1, t2, t3⟩ := two64 w1
        go_region
        · go_wp2_with fail
          go_meet
          exact ⟨w1.heap.size, w1.heap.size + 1, rfl, rfl, by omega, by omega, by omega, t1, t2, t3⟩
        · go_wp2_with fail
          go_meet
          exact ⟨w1.heap.size + 1, w1.heap.size, rfl, rfl, by omega, by omega, by omega, t2, t1, t3⟩
      case rest =>
        obtain ⟨g, h, rfl, rfl, hgh, hg, hh, hG, hI, hb2⟩ := hcut
        obtain ⟨F, hF⟩ : ∃ F : Nat → UInt8, F = fun k => if k < key.size then key.data.getD k 0 else 0 := ⟨_, rfl⟩
        have HF := Lib.hid hF
        clear hF
        have hz1 := hb2.size
        go_wp2_with (first
          | (refine list_copy_str (e := 5) Tryd.underlying32 (by kernel_rfl) rfl _ _ rfl g 64 rfl key rfl 5 (fun _ => .int .u8 0) hG ?_))
        intro w2 hG2 ho2
        have hI2 := ho2.row hI (Ne.symm hgh)
        go_wp2_with (first
          | (refine list_copy_str (e := 5) Tryd.underlying32 (by kernel_rfl) rfl _ _ rfl h 64 rfl key rfl 5 (fun _ => .int .u8 0) hI2 ?_))
        intro w3 hI3 ho3
        have hG3 := ho3.row hG2 hgh
        have hb3 : Below w1.heap.size w1 w3 := (hb2.trans (ho2.below hg hz1)).trans (ho3.below hh (by have := ho2.size; omega))
        have hG4 : w3.rowIs g 5 64 (fun j => byteV (F j)) := hG3.congr (fun j _ => by
          rw [HF.out]; by_cases h : j < key.size
          · simp [h]
          · simp [h, byteV])
        have hI4 : w3.rowIs h 5 64 (fun j => byteV (F j)) := hI3.congr (fun j _ => by
          rw [HF.out]; by_cases h : j < key.size
          · simp [h]
          · simp [h, byteV])
        have hz3 := hb3.size
        clear ho2 ho3 hG2 hG3 hI2 hI3 hG hI hb2 hz1
        go_wp2_with fail
        go_loopw [28] (fun i wr => ∃ k : Nat, k ≤ 64 ∧ i = .int .i64 k ∧ wr.rowIs g 5 64 (fun j => if j < k then byteV (F j ^^^ 54) else byteV (F j)) ∧ wr.rowIs h 5 64 (fun j => if j < k then byteV (F j ^^^ 92) else byteV (F j)) ∧ Below w1.heap.size w1 wr) (fun i _ => 64 - (intOf i).toNat)
        case atStart => exact ⟨0, by omega, rfl, hG4.congr (fun j _ => by simp), hI4.congr (fun j _ => by simp), hb3⟩
        case round =>
          obtain ⟨k, hk, rfl, hr, hr2, hb⟩ := hrel
          by_cases hlt : k < 64
          · have c := hr.cell (i := k) hlt
            have f := hr.frozen k
            have c2 := hr2.cell (i := k) hlt
            have f2 := hr2.frozen k
            simp only [Nat.lt_irrefl, if_false, byteV] at c c2
            have i0 : (0 : Int) ≤ (k : Int) := by omega
            have i1 : (k : Int) < 64 := by omega
            obtain ⟨x1, hx1⟩ : ∃ x, F k ^^^ 54 = x := ⟨_, rfl⟩
            obtain ⟨x2, hx2⟩ : ∃ x, F k ^^^ 92 = x := ⟨_, rfl⟩
            have e1 : bits BinOp.xor IntKind.u8 ((F k).toNat : Int) 54 = (x1.toNat : Int) := by rw [← hx1]; exact bits_xor8 (F k) 54
            have e2 : bits BinOp.xor IntKind.u8 ((F k).toNat : Int) 92 = (x2.toNat : Int) := by rw [← hx2]; exact bits_xor8 (F k) 92
            have HX1 := Lib.hid hx1
            have HX2 := Lib.hid hx2
            clear hx1 hx2
            go_wp2_with fail
            go_roundw
            case rel =>
              refine ⟨k + 1, by omega, by go_num, ((Only.refl h _).setCell k _).row (row_put hr k _ (fun j _ => ?_)) hgh, row_put (((Only.refl g _).setCell k _).row hr2 (Ne.symm hgh)) k _ (fun j _ => ?_), (hb.setCell hg _).setCell hh _⟩
              · by_cases hjk : j = k
                · subst hjk; rw [if_pos (by omega), if_pos rfl, HX1.out]; rfl
                · rw [if_neg hjk]
                  by_cases hl : j < k
                  · rw [if_pos hl, if_pos (by omega)]
                  · rw [if_neg hl, if_neg (by omega)]
              · by_cases hjk : j = k
                · subst hjk; rw [if_pos (by omega), if_pos rfl, HX2.out]; rfl
                · rw [if_neg hjk]
                  by_cases hl : j < k
                  · rw [if_pos hl, if_pos (by omega)]
                  · rw [if_neg hl, if_neg (by omega)]
            case measure => simp [intOf]; omega
          · have hte : k = 64 := by omega
            have hge : (64 : Int) ≤ (k : Int) := by omega
            have r1 : wr.rowIs g 5 64 (fun j => byteV (F j ^^^ 54)) := hr.congr (fun j hj => by simp [hte, hj])
            have r2 : wr.rowIs h 5 64 (fun j => byteV (F j ^^^ 92)) := hr2.congr (fun j hj => by simp [hte, hj])
            have hks : key.data.toList.length = key.size := rfl
            obtain ⟨A, hA⟩ : ∃ A, xorL (key.data.toList ++ List.replicate (64 - key.size) 0) 92 = A := ⟨_, rfl⟩
            obtain ⟨C, hC⟩ : ∃ C, xorL (key.data.toList ++ List.replicate (64 - key.size) 0) 54 = C := ⟨_, rfl⟩
            have lA : A.length ≤ 64 := by rw [← hA]; simp [xorL]; omega
            have lC : C.length ≤ 64 := by rw [← hC]; simp [xorL]; omega
            have hcg : ∀ W, Below wr.heap.size wr W → (convert 32 9 (.slice (some ⟨g, 0, none⟩) 64 64)).run Tryd.prog W = .ok (.string ⟨C.toArray⟩) W := fun W hB => by
              rw [← hC]; exact keyrow key 54 F HF.out (by omega) W g (rowIs_below r1 hB r1.lt)
            have hch : ∀ W, Below wr.heap.size wr W → (convert 32 9 (.slice (some ⟨h, 0, none⟩) 64 64)).run Tryd.prog W = .ok (.string ⟨A.toArray⟩) W := fun W hB => by
              rw [← hA]; exact keyrow key 92 F HF.out (by omega) W h (rowIs_below r2 hB r2.lt)
            obtain ⟨cs, hcs⟩ : ∃ cs, (⟨C.toArray⟩ : ByteArray) ++ s = cs := ⟨_, rfl⟩
            obtain ⟨I, hII⟩ : ∃ I, sumL cs.data.toList = I := ⟨_, rfl⟩
            obtain ⟨ai, hai⟩ : ∃ ai, (⟨A.toArray⟩ : ByteArray) ++ ⟨I.toArray⟩ = ai := ⟨_, rfl⟩
            obtain ⟨M, hM⟩ : ∃ M, macL key.data.toList s.data.toList = M := ⟨_, rfl⟩
            have lI : I.length ≤ 32 := by rw [← hII, sumL, sumBy_length]; omega
            have hO : sumL ai.data.toList = M := by
              rw [← hM, ← hai, ← hII, ← hcs]
              unfold macL
              rw [keyL_is _ (by omega), hks, hA, hC]
              simp
            have scs : cs.size ≤ 1000 := by rw [← hcs, ByteArray.size_append', mk_size]; omega
            have sai : ai.size ≤ 1000 := by rw [← hai, ByteArray.size_append', mk_size, mk_size]; omega
            have HII := Lib.hid hII
            have HO := Lib.hid hO
            have HM := Lib.hid hM
            have hstr := Lib.hid (hst1.out.later hb)
            clear hII hO hM hA hC hr hr2 r1 r2 hte hks hlt
            go_upto_region 14 with fail
            refine wp_region_noPanic ?_
            refine wp_region_held_drew (S := fun W => Below wr.heap.size wr W) (by kernel_rfl) ((Below.refl _ _).drew) (fun hHeld => ?_)
            refine wpAnyH_take (i := 0) (v := .string key) rfl (by kernel_rfl) (by kernel_rfl) (by kernel_rfl) (fun _ _ _ h => h) (yields_move (by kernel_rfl) _ rfl _ rfl) hHeld ?_
            try simp only [Act.put, List.getElem_toArray, List.getElem_cons_zero, List.setIfInBounds_toArray, List.set_cons_zero, List.set_cons_succ]
            refine wpAnyH_take (i := 1) (v := .string s) rfl (by kernel_rfl) (by kernel_rfl) (by kernel_rfl) (fun _ _ _ h => h) (yields_move (by kernel_rfl) _ rfl _ rfl) hHeld ?_
            try simp only [Act.put, List.getElem_toArray, List.getElem_cons_zero, List.getElem_cons_succ, List.setIfInBounds_toArray, List.set_cons_zero, List.set_cons_succ]
            refine wpAnyH_take (i := 3) (v := .slice (some ⟨h, 0, none⟩) 64 64) rfl (by kernel_rfl) (by kernel_rfl) (by kernel_rfl) (fun _ _ _ h => h) (yields_move (by kernel_rfl) _ rfl _ rfl) hHeld ?_
            try simp only [Act.put, List.getElem_toArray, List.getElem_cons_zero, List.getElem_cons_succ, List.setIfInBounds_toArray, List.set_cons_zero, List.set_cons_succ]
            refine wpAnyH_take (i := 4) (v := .string ⟨A.toArray⟩) rfl (by kernel_rfl) (by kernel_rfl) (by kernel_rfl) (fun _ _ _ h => h) (yields_convert (by kernel_rfl) _ _ _ rfl _ _ rfl hch) hHeld ?_
            try simp only [Act.put, List.getElem_toArray, List.getElem_cons_zero, List.getElem_cons_succ, List.setIfInBounds_toArray, List.set_cons_zero, List.set_cons_succ]
            refine wpAnyH_take (i := 5) (v := .slice (some ⟨g, 0, none⟩) 64 64) rfl (by kernel_rfl) (by kernel_rfl) (by kernel_rfl) (fun _ _ _ h => h) (yields_move (by kernel_rfl) _ rfl _ rfl) hHeld ?_
            try simp only [Act.put, List.getElem_toArray, List.getElem_cons_zero, List.getElem_cons_succ, List.setIfInBounds_toArray, List.set_cons_zero, List.set_cons_succ]
            refine wpAnyH_take (i := 6) (v := .string ⟨C.toArray⟩) rfl (by kernel_rfl) (by kernel_rfl) (by kernel_rfl) (fun _ _ _ h => h) (yields_convert (by kernel_rfl) _ _ _ rfl _ _ rfl hcg) hHeld ?_
            try simp only [Act.put, List.getElem_toArray, List.getElem_cons_zero, List.getElem_cons_succ, List.setIfInBounds_toArray, List.set_cons_zero, List.set_cons_succ]
            refine wpAnyH_take (i := 7) (v := .string s) rfl (by kernel_rfl) (by kernel_rfl) (by kernel_rfl) (fun _ _ _ h => h) (yields_move (by kernel_rfl) _ rfl _ rfl) hHeld ?_
            try simp only [Act.put, List.getElem_toArray, List.getElem_cons_zero, List.getElem_cons_succ, List.setIfInBounds_toArray, List.set_cons_zero, List.set_cons_succ]
            refine wpAnyH_take (i := 8) (v := .string (⟨C.toArray⟩ ++ s)) rfl (by kernel_rfl) (by kernel_rfl) (by kernel_rfl) (fun _ _ _ h => h) (yields_add (by kernel_rfl) _ _ _ _ rfl ⟨C.toArray⟩ s rfl rfl (by rw [mk_size]; omega)) hHeld ?_
            try simp only [Act.put, List.getElem_toArray, List.getElem_cons_zero, List.getElem_cons_succ, List.setIfInBounds_toArray, List.set_cons_zero, List.set_cons_succ]
            refine wpAnyH_ready (rs := [2]) (by kernel_rfl) (by simp) ?_
            refine AllReadyH.cons rfl (fun K hK => ?_) AllReadyH.nil
            try simp only [Act.put, List.getElem_toArray, List.getElem_cons_zero, List.getElem_cons_succ, List.setIfInBounds_toArray, List.set_cons_zero, List.set_cons_succ]
            go_simp
            go_at_call 15; refine (macAt HH.out key s _ (by omega) (by omega) (hstr.out.later hHeld) M HM.out).mono ?_; rintro e W1 ⟨rfl, hk1⟩
            go_wp2_with fail
            have H1 := hHeld.trans (hk1.mono hHeld.size)
            refine hK.out _ _ H1 (fun _ => ?_)
            clear hK K
            try simp only [Act.put, List.getElem_toArray, List.getElem_cons_zero, List.getElem_cons_succ, List.setIfInBounds_toArray, List.set_cons_zero, List.set_cons_succ]
            refine wpAnyH_ready (rs := [9]) (by kernel_rfl) (by simp) ?_
            refine AllReadyH.cons rfl (fun K hK => ?_) AllReadyH.nil
            try simp only [Act.put, List.getElem_toArray, List.getElem_cons_zero, List.getElem_cons_succ, List.setIfInBounds_toArray, List.set_cons_zero, List.set_cons_succ]
            go_simp
            go_at_call 11; refine (sumAt HH.out cs _ (by omega) (hstr.out.later H1) I HII.out).mono ?_; rintro e W2 ⟨rfl, hk2⟩
            go_wp2_with fail
            have H2 := H1.trans (hk2.mono H1.size)
            refine hK.out _ _ H2 (fun _ => ?_)
            clear hK K
            try simp only [Act.put, List.getElem_toArray, List.getElem_cons_zero, List.getElem_cons_succ, List.setIfInBounds_toArray, List.set_cons_zero, List.set_cons_succ]
            refine wpAnyH_take (i := 10) (v := .string (⟨A.toArray⟩ ++ ⟨I.toArray⟩)) rfl (by kernel_rfl) (by kernel_rfl) (by kernel_rfl) (fun _ _ _ h => h) (yields_add (by kernel_rfl) _ _ _ _ rfl ⟨A.toArray⟩ ⟨I.toArray⟩ rfl rfl (by rw [mk_size, mk_size]; omega)) H2 ?_
            try simp only [Act.put, List.getElem_toArray, List.getElem_cons_zero, List.getElem_cons_succ, List.setIfInBounds_toArray, List.set_cons_zero, List.set_cons_succ]
            refine wpAnyH_ready (rs := [11]) (by kernel_rfl) (by simp) ?_
            refine AllReadyH.cons rfl (fun K hK => ?_) AllReadyH.nil
            try simp only [Act.put, List.getElem_toArray, List.getElem_cons_zero, List.getElem_cons_succ, List.setIfInBounds_toArray, List.set_cons_zero, List.set_cons_succ]
            go_simp
            go_at_call 11; refine (sumAt HH.out ai _ (by omega) (hstr.out.later H2) M HO.out).mono ?_; rintro e W3 ⟨rfl, hk3⟩
            go_wp2_with fail
            have H3 := H2.trans (hk3.mono H2.size)
            refine hK.out _ _ H3 (fun _ => ?_)
            clear hK K
            try simp only [Act.put, List.getElem_toArray, List.getElem_cons_zero, List.getElem_cons_succ, List.setIfInBounds_toArray, List.set_cons_zero, List.set_cons_succ]
            refine wpAnyH_ready (rs := [12]) (by kernel_rfl) (by simp) ?_
            refine AllReadyH.cons rfl (fun K hK => ?_) AllReadyH.nil
            try simp only [Act.put, List.getElem_toArray, List.getElem_cons_zero, List.getElem_cons_succ, List.setIfInBounds_toArray, List.set_cons_zero, List.set_cons_succ]
            go_simp
            refine hK.out _ _ H3 (fun _ => ?_)
            clear hK K
            try simp only [Act.put, List.getElem_toArray, List.getElem_cons_zero, List.getElem_cons_succ, List.setIfInBounds_toArray, List.set_cons_zero, List.set_cons_succ]
            refine wpAnyH_ready (rs := [13]) (by kernel_rfl) (by simp) ?_
            refine AllReadyH.cons rfl (fun K hK => ?_) AllReadyH.nil
            try simp only [Act.put, List.getElem_toArray, List.getElem_cons_zero, List.getElem_cons_succ, List.setIfInBounds_toArray, List.set_cons_zero, List.set_cons_succ]
            go_simp
            refine hK.out _ _ H3 (fun _ => ?_)
            clear hK K
            try simp only [Act.put, List.getElem_toArray, List.getElem_cons_zero, List.getElem_cons_succ, List.setIfInBounds_toArray, List.set_cons_zero, List.set_cons_succ]
            refine wpAnyH_done (by kernel_rfl) ?_ _
            refine NoPanic.normal ?_
            go_wp2_with fail
            go_ret
            exact ⟨rfl, belowNext hb1 (belowNext hb H3)⟩
end Go.Proofs.YtohjnhekkifhbaaDoor
