/- ShaUnlike, given Sum. -/
import Derived.Test.YtohjnhekkifhbaaDoorLaws1
import Derived.Laws.IdiomStrings
namespace Go.Proofs.YtohjnhekkifhbaaDoor
open Go.RowKit

/-- []byte(s): a new block, its first cells the bytes. -/
theorem list_bytes {P : Program} {w : World} {ops : Array Oper} {rest : List Oper} {o : Oper} {a : Act} {Q : Exit → Act → World → Prop} {src dst e : TypeId} (hs : P.underlying src = some .string) (hd : P.underlying dst = some (.slice e)) (he : P.underlying e = some (.int .u8))
    (hgd : o.guard = none) (x : Operand) (ho : o.op = .convert src dst x) (s : ByteArray) (hx : a.eval x = .string s)
    (h : ∀ cap w', (∀ j, j < s.size → w'.cell? ⟨w.heap.size, j, none⟩ = some (byteV (s.data.getD j 0))) → (∀ j, j < s.size → w'.frozen? ⟨w.heap.size, j, none⟩ = false) → w.heap.size < w'.heap.size → Below w.heap.size w w' →
      wpList P ops Q rest (a.put o.dst (.slice (some ⟨w.heap.size, 0, none⟩) s.size cap)) w') : wpList P ops Q (o :: rest) a w := by
  have hrun := run_bytes_of_string (P := P) w src dst e s hs hd he
  obtain ⟨C, hC⟩ : ∃ C, C = bytesRow s (grownCap w s.size 0 e) := ⟨_, rfl⟩
  have hsz : s.size ≤ C.size := by rw [hC]; unfold bytesRow; simp
  have hcell : ∀ j, j < s.size → C[j]? = some (byteV (s.data.getD j 0)) := fun j hj => by
    have hj2 : j < s.data.size := hj
    rw [hC, bytesRow_at s _ j hj2]
    simp [byteV, Array.getElem?_eq_getElem hj2]
  rw [← hC] at hrun
  refine wpList_plain hgd fun K hK => ?_
  unfold Oper.wp
  simp only [execOp, ho, hx, Sem.run_bind, hrun, Result.andThen_ok, Sem.run_pure]
  refine hK _ _ (h _ _ (fun j hj => ?_) (fun j hj => ?_) ?_ ?_)
  · have hb := heap_at_alloc w.drew (.cells C e (C.size, C.size + 1))
    rw [← hcell j hj]
    show (match (w.drew.alloc (.cells C e (C.size, C.size + 1))).heap[w.drew.heap.size]? with | some (.cells cs _ _) => cs[j]? | _ => none) = _
    rw [hb]
  · have := World.frozen?_alloc_mark w.drew C e C.size (C.size + 1) j
    refine Eq.trans this ?_
    simp; omega
  · simp
  · exact ((Below.refl _ _).drew).alloc (Nat.le_refl _) _

set_option maxRecDepth 100000 in
set_option maxHeartbeats 4000000 in
theorem unlike_law (H : SumOk) (s : ByteArray) (i : Nat) (m : UInt8) (w : World) (hst : Start w) (hmax : s.size ≤ maxLen) (hi : i < 65536) :
    Calls Tryd.prog 9 #[.string s, .int .u16 i, .int .u8 (m.toNat : Int)] w fun e w' => e = .returned (.bool true) ∧ Below w.heap.size w w' := by
  have HA := Lib.hid (awake_prog H w hst)
  have HH := Lib.hid H
  have HS := Lib.hid hst
  unfold maxLen at hmax
  clear H hst
  obtain ⟨S, hS⟩ : ∃ S, sumL s.data.toList = S := ⟨_, rfl⟩
  obtain ⟨Z, hZ⟩ : ∃ Z, sumL (s ++ ⟨#[0]⟩ : ByteArray).data.toList = Z := ⟨_, rfl⟩
  have HSS := Lib.hid hS
  have HZZ := Lib.hid hZ
  clear hS hZ
  have hz : (s ++ ⟨#[0]⟩ : ByteArray).size ≤ s.size + 1 := by rw [ByteArray.size_append']; exact Nat.le_refl _
  go_enter Tryd.func9, Tryd.ntmps9
  by_cases hbig : 300 < s.size
  · go_wp2_with fail
    refine HA.out.mono ?_
    rintro e w1 ⟨rfl, hb1⟩
    go_wp2
    go_ret
    exact ⟨rfl, hb1⟩
  · go_wp2_with fail
    refine HA.out.mono ?_
    rintro e w1 ⟨rfl, hb1⟩
    have hst1 := Lib.hid (HS.out.later hb1)
    go_wp2_with fail
    refine (sumAt HH.out s w1 (by omega) hst1.out S HSS.out).mono ?_
    rintro e w2 ⟨rfl, hb2⟩
    have hst2 := Lib.hid (hst1.out.later hb2)
    have hb := belowNext hb1 hb2
    clear hb1 hb2
    by_cases h0 : 0 < s.size
    · by_cases hm0 : m.toNat = 0
      · have ht : ((m.toNat : Int) == 0) = true := by rw [hm0]; rfl
        clear hm0
        go_wp2_with fail
        refine (sumAt HH.out _ w2 (by omega) hst2.out Z HZZ.out).mono ?_
        rintro e w8 ⟨rfl, hb8⟩
        have hq8 := belowNext hb hb8
        go_wp2_with fail
        · refine (printAt _ w8 (by omega) Z HZZ.out).mono ?_
          rintro e w9 ⟨rfl, hb9⟩
          go_wp2_with fail
          refine (printAt s w9 (by omega) S HSS.out).mono ?_
          rintro e w10 ⟨rfl, hb10⟩
          go_wp2_with fail
          go_ret
          exact ⟨rfl, belowNext (belowNext hq8 hb9) hb10⟩
        · go_ret
          exact ⟨rfl, hq8⟩
      · have ht : ((m.toNat : Int) == 0) = false := by
          have : (m.toNat : Int) ≠ 0 := by omega
          simpa using this
        obtain ⟨k, hk⟩ : ∃ k : Nat, (i : Int) % (s.size : Int) = (k : Int) := ⟨i % s.size, by simp⟩
        have hk2 : (k : Int) < (s.size : Int) := by rw [← hk]; exact Int.emod_lt_of_pos _ (by omega)
        have HKK := Lib.hid hk
        clear hm0 hk
        go_wp2_with (first
          | (refine list_bytes (e := 5) Tryd.underlying9 Tryd.underlying32 Tryd.underlying5 rfl _ rfl s rfl ?_))
        intro cap w3 hc3 hf3 hsz3 hb3
        have c := hc3 k (by omega)
        have f := hf3 k (by omega)
        have hk := HKK.out
        obtain ⟨b, hbb⟩ : ∃ b, b = s.data[k]?.getD 0 := ⟨_, rfl⟩
        rw [← hbb] at c
        simp only [byteV] at c
        obtain ⟨q, hbm⟩ : ∃ q, b ^^^ m = q := ⟨_, rfl⟩
        have hx := bits_xor8 b m
        rw [hbm] at hx
        have hkn : (0 : Int) ≤ (k : Int) := by omega
        obtain ⟨T, hT⟩ : ∃ T, T = s.data.toList.set k q := ⟨_, rfl⟩
        have hTl : T.length = s.size := by rw [hT, List.length_set]; rfl
        have hcv := run_convert_bytes_back (P := Tryd.prog) (w3.setCell ⟨w2.heap.size, k, none⟩ (.int .u8 (q.toNat : Int))) 32 9 5 ⟨w2.heap.size, 0, none⟩ cap T Tryd.underlying32 Tryd.underlying5 Tryd.underlying9 (fun j hj => by
          have hj2 : j < s.size := by omega
          rw [Addr.add_mid, Nat.zero_add]
          by_cases hjk : j = k
          · subst hjk
            rw [World.cell?_setCell_same' _ _ _ (by rw [c]; rfl)]
            subst hT
            simp
          · rw [cell_set_ne _ _ _ _ _ _ (hc3 j hj2) hjk]
            subst hT
            rw [List.getElem_set_ne (Ne.symm hjk)]
            have : s.data[j]?.getD 0 = s.data.toList[j] := by
              rw [Array.getElem?_eq_getElem hj2]; rfl
            rw [this]; rfl)
        rw [hTl] at hcv
        have hTl2 : T.length ≤ 300 := by omega
        have hTs : (⟨T.toArray⟩ : ByteArray).size ≤ 300 := by rw [mk_size]; omega
        obtain ⟨U, hU⟩ : ∃ U, sumL (⟨T.toArray⟩ : ByteArray).data.toList = U := ⟨_, rfl⟩
        have HU := Lib.hid hU
        have hst4 : Hid (Start (w3.setCell ⟨w2.heap.size, k, none⟩ (.int .u8 (q.toNat : Int)))) := Lib.hid (hst2.out.later (hb3.setCell (Nat.le_refl _) _))
        have hb4 := belowNext hb (hb3.setCell (p := ⟨w2.heap.size, k, none⟩) (Nat.le_refl _) (.int .u8 (q.toNat : Int)))
        clear hc3 hf3 hT hTl hU hbb hb hb3 hbm
        go_wp2_with fail
        clear hcv hx c f hk
        refine (sumAt HH.out ⟨T.toArray⟩ (w3.setCell ⟨w2.heap.size, k, none⟩ (.int .u8 (q.toNat : Int))) (by omega) hst4.out U HU.out).mono ?_
        rintro e w5 ⟨rfl, hb5⟩
        generalize w3.setCell ⟨w2.heap.size, k, none⟩ (.int .u8 (q.toNat : Int)) = w4 at hb5 hst4 hb4
        have hst5 := Lib.hid (hst4.out.later hb5)
        have hq5 := belowNext hb4 hb5
        clear hb4 hb5 hTs hkn
        by_cases hUS : U = S
        · have HUS := Lib.hid hUS
          rw [hUS]
          clear hUS
          have hTs : (⟨T.toArray⟩ : ByteArray).size ≤ 100000 := by rw [mk_size]; omega
          go_wp2_with fail
          refine (printAt ⟨T.toArray⟩ w5 hTs S (HU.out.trans HUS.out)).mono ?_
          rintro e w6 ⟨rfl, hb6⟩
          have hst6 := Lib.hid (hst5.out.later hb6)
          have hq6 := belowNext hq5 hb6
          clear hTs
          go_wp2_with fail
          refine (printAt s w6 (by omega) S HSS.out).mono ?_
          rintro e w7 ⟨rfl, hb7⟩
          have hst7 := Lib.hid (hst6.out.later hb7)
          have hq7 := belowNext hq6 hb7
          clear hb6 hb7
          go_wp2_with fail
          refine (sumAt HH.out _ w7 (by omega) hst7.out Z HZZ.out).mono ?_
          rintro e w8 ⟨rfl, hb8⟩
          have hq8 := belowNext hq7 hb8
          go_wp2_with fail
          · refine (printAt _ w8 (by omega) Z HZZ.out).mono ?_
            rintro e w9 ⟨rfl, hb9⟩
            go_wp2_with fail
            refine (printAt s w9 (by omega) S HSS.out).mono ?_
            rintro e w10 ⟨rfl, hb10⟩
            go_wp2_with fail
            go_ret
            exact ⟨rfl, belowNext (belowNext hq8 hb9) hb10⟩
          · go_ret
            exact ⟨rfl, hq8⟩
        · have hne : ¬ ((⟨U.toArray⟩ : ByteArray) = ⟨S.toArray⟩) := fun h => hUS (by simpa using congrArg (fun b : ByteArray => b.data.toList) h)
          have hde : decide ((⟨U.toArray⟩ : ByteArray) = ⟨S.toArray⟩) = false := by simpa using hne
          have hdu : decide (U = S) = false := by simpa using hUS
          clear hne
          go_wp2_with fail
          refine (sumAt HH.out _ w5 (by omega) hst5.out Z HZZ.out).mono ?_
          rintro e w8 ⟨rfl, hb8⟩
          have hq8 := belowNext hq5 hb8
          go_wp2_with fail
          · refine (printAt _ w8 (by omega) Z HZZ.out).mono ?_
            rintro e w9 ⟨rfl, hb9⟩
            go_wp2_with fail
            refine (printAt s w9 (by omega) S HSS.out).mono ?_
            rintro e w10 ⟨rfl, hb10⟩
            go_wp2_with fail
            go_ret
            exact ⟨rfl, belowNext (belowNext hq8 hb9) hb10⟩
          · go_ret
            exact ⟨rfl, hq8⟩
    ·
      go_wp2_with fail
      refine (sumAt HH.out _ w2 (by omega) hst2.out Z HZZ.out).mono ?_
      rintro e w8 ⟨rfl, hb8⟩
      have hq8 := belowNext hb hb8
      go_wp2_with fail
      · refine (printAt _ w8 (by omega) Z HZZ.out).mono ?_
        rintro e w9 ⟨rfl, hb9⟩
        go_wp2_with fail
        refine (printAt s w9 (by omega) S HSS.out).mono ?_
        rintro e w10 ⟨rfl, hb10⟩
        go_wp2_with fail
        go_ret
        exact ⟨rfl, belowNext (belowNext hq8 hb9) hb10⟩
      · go_ret
        exact ⟨rfl, hq8⟩
end Go.Proofs.YtohjnhekkifhbaaDoor
