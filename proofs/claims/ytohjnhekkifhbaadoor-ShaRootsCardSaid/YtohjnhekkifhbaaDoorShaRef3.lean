import Derived.Test.YtohjnhekkifhbaaDoorShaRef2
namespace Go.Proofs.YtohjnhekkifhbaaDoor
open Go.RowKit

theorem halves_at (g n c m : Nat) (L : List Int) (w : World) (hn : L.length = n) (hm : m = 2 * n) (h0 : 0 < n) (hg : g < w.heap.size) (hn2 : n ≤ 1000) (hc : At64 w g L) (hL : ∀ x ∈ L, 0 ≤ x ∧ x < 18446744073709551616) :
    Calls Tryd.prog 25 #[.slice (some ⟨g, 0, none⟩) n c] w fun e w' => ∃ g' cap, e = .returned (.slice (some ⟨g', 0, none⟩) m cap) ∧ g' < w'.heap.size ∧ At32 w' g' (hv L) ∧ Below w.heap.size w w' := by
  refine (halves_ref g n c L w hn hg hn2 hc hL).mono ?_
  rintro e w' ⟨v, rfl, hown, hb⟩
  have hlen : ((hv L).map u32V).length = m := by rw [List.length_map, hv_length]; omega
  obtain ⟨g', cap, rfl, _, hlt⟩ := World.ownsRow.form hown (by omega)
  refine ⟨g', cap, by rw [hlen], hlt, fun j hj => ?_, hb⟩
  have := World.ownsRow.cellAt hown j (by rw [Nat.mul_one, List.length_map]; exact hj)
  rw [this]; simp [List.getD, hj]

theorem sqr_u : ∀ x ∈ sqr, 0 ≤ x ∧ x < 18446744073709551616 := by decide +kernel
theorem cub_u : ∀ x ∈ cub, 0 ≤ x ∧ x < 18446744073709551616 := by decide +kernel
theorem hv_u (l : List Int) (h : ∀ x ∈ l, 0 ≤ x ∧ x < 18446744073709551616) (j : Nat) : inU ((hv l).getD j 0) := by
  have : ∀ y ∈ hv l, inU y := by
    intro y hy
    simp only [hv, List.mem_flatMap, List.mem_cons, List.not_mem_nil, or_false] at hy
    obtain ⟨x, hx, h1 | h1⟩ := hy
    · have := h x hx; subst h1; constructor <;> omega
    · have := h x hx; subst h1; constructor <;> omega
  by_cases hj : j < (hv l).length
  · have e : (hv l).getD j 0 = (hv l)[j] := by simp [List.getD, hj]
    rw [e]; exact this _ (List.getElem_mem _)
  · rw [List.getD, List.getElem?_eq_none (by omega)]; exact ⟨by simp, by simp⟩

set_option maxHeartbeats 1000000 in
theorem print_ref (s : ByteArray) (w : World) (hs : s.size ≤ 100000) :
    Calls Tryd.prog 12 #[.string s] w fun e w' => e = .returned (.string ⟨(sumL s.data.toList).toArray⟩) ∧ Below w.heap.size w w' := by
  go_enter Tryd.func12, Tryd.ntmps12
  go_wp2_with fail
  refine (squares_ref w).mono ?_
  rintro e w1 ⟨rfl, hlt1, h1, hb1⟩
  go_wp2_with fail
  refine (halves_at w.heap.size 4 4 8 sqr w1 rfl rfl (by omega) hlt1 (by omega) h1 sqr_u).mono ?_
  rintro e w2 ⟨g2, c2, rfl, hlt2, h2, hb2⟩
  go_wp2_with fail
  refine (cubes_ref w2).mono ?_
  rintro e w3 ⟨rfl, hlt3, h3, hb3⟩
  go_wp2_with fail
  refine (halves_at w2.heap.size 32 32 64 cub w3 rfl rfl (by omega) hlt3 (by omega) h3 cub_u).mono ?_
  rintro e w4 ⟨g4, c4, rfl, hlt4, h4, hb4⟩
  have z1 := hb1.size; have z2 := hb2.size; have z3 := hb3.size; have z4 := hb4.size
  have h2' : At32 w4 g2 (hv sqr) := fun j hj => cellBelow hb4 (by omega) (cellBelow hb3 hlt2 (h2 j hj))
  have h4' : ∀ j, j < 64 → w4.cell? ⟨g4, j, none⟩ = some (u32V (Kr j)) := fun j hj => h4 j (by rw [hv_length]; exact hj)
  go_wp2_with fail
  refine (by_ref g2 g4 c2 c4 (hv sqr) Kr s w4 hs rfl h2' h4' (by omega) hlt4 (hv_u _ sqr_u)).mono ?_
  rintro e w5 ⟨rfl, hb5⟩
  clear h1 h2 h3 h4 h2' h4'
  go_wp2
  go_ret
  exact ⟨rfl, hb1.trans ((hb2.trans ((hb3.trans ((hb4.trans (hb5.mono z4)).mono z3)).mono z2)).mono z1)⟩

theorem mk_size (l : List UInt8) : (⟨l.toArray⟩ : ByteArray).size = l.length := by rw [ByteArray.size_mk']; simp

theorem keyL_length (k : List UInt8) : (keyL k).length = 64 := by
  unfold keyL
  simp only [List.length_append, List.length_replicate]
  by_cases h : 64 < k.length
  · rw [if_pos h]; rw [sumL, sumBy_length]
  · rw [if_neg h]; omega
theorem xorL_take (K : ByteArray) (m : UInt8) (k : Nat) (h : k < K.size) : xorL (K.data.toList.take (k + 1)) m = xorL (K.data.toList.take k) m ++ [K[k] ^^^ m] := by
  rw [take_snoc K k h]; simp [xorL]

set_option maxRecDepth 100000 in
set_option maxHeartbeats 4000000 in
theorem mac_ref (key s : ByteArray) (w : World) (hk : key.size ≤ 10000) (hs : s.size ≤ 10000) :
    Calls Tryd.prog 16 #[.string key, .string s] w fun e w' => e = .returned (.string ⟨(macL key.data.toList s.data.toList).toArray⟩) ∧ Below w.heap.size w w' := by
  obtain ⟨q, hq⟩ : ∃ q, q = if 64 < key.data.toList.length then sumL key.data.toList else key.data.toList := ⟨_, rfl⟩
  have hql : q.length ≤ 64 := by
    rw [hq]; split
    · rw [sumL, sumBy_length]; omega
    · omega
  have hK : Hid (keyL key.data.toList = q ++ List.replicate (64 - q.length) 0) := Lib.hid (by rw [hq]; rfl)
  go_enter Tryd.func16, Tryd.ntmps16
  by_cases hbig : 64 < key.size
  all_goals
    first
      | (rw [if_pos (by simpa using hbig)] at hq)
      | (rw [if_neg (by simpa using hbig)] at hq)
    go_wp2_with (first
      | (go_at_call 12; refine (print_ref _ _ (by omega)).mono ?_; rintro e w1 ⟨rfl, hb1⟩))
    go_loopw [0] (fun v wr => ∃ (k : Nat) (p : List UInt8), k ≤ 64 - q.length ∧ v = .string ⟨p.toArray⟩ ∧ Hid (p = q ++ List.replicate k 0) ∧ p.length ≤ q.length + k ∧ q.length + k ≤ p.length ∧ Below w.heap.size w wr)
      (fun v _ => 64 - strLen v)
    case atStart =>
      refine ⟨0, q, by omega, ?_, Lib.hid (by simp), by omega, by omega, by first | exact hb1 | exact Below.refl _ _⟩
      first
        | (rw [hq]; done)
        | (rw [hq]; rfl)
    case round =>
      obtain ⟨k, p, hkk, rfl, hp, hp1, hp2, hb⟩ := hrel
      by_cases hlt : p.length < 64
      · go_wp2
        go_roundw
        case rel => exact ⟨k + 1, p ++ [0], by omega, congrArg Value.string (ByteArray.mk_append_mk p [0]), Lib.hid (by rw [hp.out, List.append_assoc, List.replicate_succ']), by simp; omega, by simp; omega, hb⟩
        case measure => simp only [strLen, ByteArray.size_append', ByteArray.size_mk', List.size_toArray, List.length_cons, List.length_nil]; simp; omega
      · obtain ⟨K, hKe⟩ : ∃ K : ByteArray, K = ⟨p.toArray⟩ := ⟨_, rfl⟩
        have hKd : Hid (K.data.toList = keyL key.data.toList) := Lib.hid (by
          rw [hKe, hK.out, hp.out]
          have : k = 64 - q.length := by omega
          rw [this])
        have hKs : K.size = 64 := by rw [hKe, ByteArray.size_mk']; simp; omega
        rw [← hKe]
        clear hKe hlt hp hp1 hp2 hkk
        have hKs1 : K.size ≤ 64 := by omega
        have hKs2 : 64 ≤ K.size := by omega
        clear hKs
        go_wp2_with fail
        go_loopw [5, 6, 7] (fun a b i wx => ∃ k : Nat, k ≤ 64 ∧ i = .int .i64 k ∧ a = .string ⟨(xorL (K.data.toList.take k) 92).toArray⟩ ∧ b = .string ⟨(xorL (K.data.toList.take k) 54).toArray⟩ ∧ Below w.heap.size w wx) (fun _ _ i _ => 64 - (intOf i).toNat)
        case atStart => exact ⟨0, by omega, rfl, rfl, rfl, hb⟩
        case round =>
          obtain ⟨k, hk8, rfl, rfl, rfl, hbx⟩ := hrel
          by_cases hlt : k < 64
          · have hkK : k < K.size := by omega
            have ha := xorL_take K 92 k hkK
            have hb' := xorL_take K 54 k hkK
            have la : (xorL (K.data.toList.take k) 92).length ≤ 64 := by simp [xorL]; omega
            have lb : (xorL (K.data.toList.take k) 54).length ≤ 64 := by simp [xorL]; omega
            obtain ⟨A, hA⟩ : ∃ A, A = xorL (K.data.toList.take k) 92 := ⟨_, rfl⟩
            obtain ⟨C, hC⟩ : ∃ C, C = xorL (K.data.toList.take k) 54 := ⟨_, rfl⟩
            rw [← hA] at ha la ⊢
            rw [← hC] at hb' lb ⊢
            have HA := Lib.hid ha
            have HB := Lib.hid hb'
            clear ha hb' hA hC
            have x1 : bits BinOp.xor IntKind.u8 (K[k].toNat : Int) 92 = ((K[k].toNat ^^^ 92 : Nat) : Int) := by rw [show ((92 : Int)) = ((92 : UInt8).toNat : Int) from rfl, bits_xor8 K[k] 92, UInt8.toNat_xor]; rfl
            have x2 : bits BinOp.xor IntKind.u8 (K[k].toNat : Int) 54 = ((K[k].toNat ^^^ 54 : Nat) : Int) := by rw [show ((54 : Int)) = ((54 : UInt8).toNat : Int) from rfl, bits_xor8 K[k] 54, UInt8.toNat_xor]; rfl
            have cv1 := run_string_block (w := wr.alloc (.cells #[.int .u8 ((K[k].toNat ^^^ 92 : Nat) : Int)] 5)) (src := 32) (dst := 9) Tryd.underlying32 Tryd.underlying5 Tryd.underlying9 wr.heap.size 1 [K[k] ^^^ 92] (by rw [heap_at_alloc]; simp [byteV])
            have cv2 := run_string_block (w := (wr.alloc (.cells #[.int .u8 ((K[k].toNat ^^^ 92 : Nat) : Int)] 5)).alloc (.cells #[.int .u8 ((K[k].toNat ^^^ 54 : Nat) : Int)] 5)) (src := 32) (dst := 9) Tryd.underlying32 Tryd.underlying5 Tryd.underlying9 (wr.heap.size + 1) 1 [K[k] ^^^ 54] (by rw [heap_alloc2_new]; simp [byteV])
            simp only [List.length_cons, List.length_nil, Nat.zero_add] at cv1 cv2
            go_wp2
            go_roundw
            case rel => exact ⟨k + 1, by omega, by go_num, by rw [HA.out]; exact congrArg Value.string (ByteArray.mk_append_mk _ _), by rw [HB.out]; exact congrArg Value.string (ByteArray.mk_append_mk _ _), (hbx.alloc hbx.size _).alloc (by have := hbx.size; simp; omega) _⟩
            case measure => simp [intOf]; omega
          · have hk9 : k = 64 := by omega
            have hkl : K.data.toList.take k = K.data.toList := List.take_of_length_le (by simp; omega)
            rw [hkl, hKd.out]
            have la : (xorL (keyL key.data.toList) 92).length ≤ 64 := by rw [xorL, List.length_map, keyL_length]; omega
            have lb : (xorL (keyL key.data.toList) 54).length ≤ 64 := by rw [xorL, List.length_map, keyL_length]; omega
            have hres : Hid (macL key.data.toList s.data.toList = sumL (xorL (keyL key.data.toList) 92 ++ sumL (xorL (keyL key.data.toList) 54 ++ s.data.toList))) := Lib.hid rfl
            obtain ⟨A, hA⟩ : ∃ A, A = xorL (keyL key.data.toList) 92 := ⟨_, rfl⟩
            obtain ⟨C, hC⟩ : ∃ C, C = xorL (keyL key.data.toList) 54 := ⟨_, rfl⟩
            rw [← hA] at la hres ⊢
            rw [← hC] at lb hres ⊢
            clear hA hC hkl
            have hge : (64 : Int) ≤ (k : Int) := by omega
            clear hk9
            go_wp2_with fail
            refine (print_ref _ _ (by rw [ByteArray.size_append', mk_size]; first | omega | (rw [mk_size]; omega))).mono ?_
            rintro e w5 ⟨rfl, hb5⟩
            have hs5 : (sumL (C ++ s.data.toList)).length = 32 := sumBy_length _ _ _
            have he5 : (({ data := C.toArray } : ByteArray) ++ s).data.toList = C ++ s.data.toList := by simp
            rw [he5]
            obtain ⟨S5, hS5⟩ : ∃ S5, S5 = sumL (C ++ s.data.toList) := ⟨_, rfl⟩
            rw [← hS5] at hs5 hres ⊢
            clear hS5 he5
            have hs6 : S5.length ≤ 32 := by omega
            clear hs5
            go_wp2_with fail
            refine (print_ref _ _ (by rw [ByteArray.size_append', mk_size]; first | omega | (rw [mk_size]; omega))).mono ?_
            rintro e w6 ⟨rfl, hb6⟩
            go_wp2
            go_ret
            refine ⟨?_, hbx.trans ((hb5.trans (hb6.mono hb5.size)).mono hbx.size)⟩
            rw [hres.out]; simp
end Go.Proofs.YtohjnhekkifhbaaDoor
