/- log: slices.Insert and slices.Replace at the end of a slice of entries. -/
import Derived.Test.YtflkdgghpmhbgaaGreatKB
import Derived.ArgAppend
namespace Go.Proofs.YtflkdgghpmhbgaaGreat
open Go.RowKit

/-- Block b is a reader. -/
def Rd (w : World) (b : Nat) (r : RS) : Prop := w.heap[b]? = some (.cells #[.string r.rest, .bool r.short, .bool r.wrong] 171 (0, 0))
section
variable {w w' : World} {b : Nat} {r : RS}
theorem Rd.lt (h : Rd w b r) : b < w.heap.size := (Array.getElem?_eq_some_iff.1 h).1
theorem Rd.cells (h : Rd w b r) : w.cell? ⟨b, 0, none⟩ = some (.string r.rest) ∧ w.cell? ⟨b, 1, none⟩ = some (.bool r.short) ∧ w.cell? ⟨b, 2, none⟩ = some (.bool r.wrong) := by
  unfold Rd at h; simp [World.cell?, h]
theorem Rd.free (h : Rd w b r) : w.frozen? ⟨b, 0, none⟩ = false ∧ w.frozen? ⟨b, 1, none⟩ = false ∧ w.frozen? ⟨b, 2, none⟩ = false := by
  unfold Rd at h; simp [World.frozen?, h]
theorem Rd.later (h : Rd w b r) (hb : Below w.heap.size w w') : Rd w' b r := by
  unfold Rd; rw [hb.block b h.lt]; exact h
theorem Rd.set0 (h : Rd w b r) (s : ByteArray) : Rd (w.setCell ⟨b, 0, none⟩ (.string s)) b ⟨s, r.short, r.wrong⟩ := heap_setCell_same w b 0 _ _ _ h
theorem Rd.set1 (h : Rd w b r) (x : Bool) : Rd (w.setCell ⟨b, 1, none⟩ (.bool x)) b ⟨r.rest, x, r.wrong⟩ := heap_setCell_same w b 1 _ _ _ h
theorem Rd.set2 (h : Rd w b r) (x : Bool) : Rd (w.setCell ⟨b, 2, none⟩ (.bool x)) b ⟨r.rest, r.short, x⟩ := heap_setCell_same w b 2 _ _ _ h
end

set_option maxRecDepth 100000 in
theorem rbytes_prog (b : Nat) (r : RS) (n : Nat) (w : World) (h : Rd w b r) (hr : r.rest.size ≤ 10000000000) (hn : n < m64) :
    Calls Tryz.prog 162 #[.pointer (some ⟨b, 0, none⟩), .int .u64 (n : Int)] w fun e w' => e = .returned (.string (rBytes r n).1) ∧ Rd w' b (rBytes r n).2 ∧ Only b w w' := by
  obtain ⟨c0, c1, c2⟩ := h.cells
  obtain ⟨z0, z1, z2⟩ := h.free
  have hn2 : (n : Int) ≤ 18446744073709551615 := by unfold m64 at hn; omega
  have hr2 : (r.rest.size : Int) ≤ 10000000000 := by omega
  obtain ⟨s, sh, wr⟩ := r
  simp only at c0 c1 c2 hr2 hr
  have H := Lib.hid h
  clear h hr hn
  cases sh
  · by_cases hs : s.size < n
    · have hs2 : (s.size : Int) < (n : Int) := by omega
      have HD := Lib.hid (H.out.set1 true)
      have e1 : rBytes ⟨s, false, wr⟩ n = (⟨#[]⟩, ⟨s, true, wr⟩) := by simp [rBytes, hs]
      rw [e1]
      clear e1
      go_enter Tryz.func162, Tryz.ntmps162
      go_wp2_with fail
      go_ret
      exact ⟨rfl, HD.out, (Only.refl b w).setCell 1 _⟩
    · have hs2 : ¬ (s.size : Int) < (n : Int) := by omega
      have hs3 : (n : Int) ≤ (s.size : Int) := by omega
      have HD := Lib.hid (H.out.set0 (s.extract n s.size))
      have e1 : rBytes ⟨s, false, wr⟩ n = (s.extract 0 n, ⟨s.extract n s.size, false, wr⟩) := by simp [rBytes, hs]
      rw [e1]
      clear e1 hs
      go_enter Tryz.func162, Tryz.ntmps162
      go_wp2_with fail
      go_ret
      exact ⟨rfl, HD.out, (Only.refl b w).setCell 0 _⟩
  · have HD := Lib.hid (H.out.set1 true)
    have e1 : rBytes ⟨s, true, wr⟩ n = (⟨#[]⟩, ⟨s, true, wr⟩) := by simp [rBytes]
    rw [e1]
    clear e1
    go_enter Tryz.func162, Tryz.ntmps162
    go_wp2_with fail
    go_ret
    exact ⟨rfl, HD.out, (Only.refl b w).setCell 1 _⟩

theorem BRow.cell {w : World} {e : TypeId} {g n cap : Nat} {T : ByteArray} (h : BRow w e (.slice (some ⟨g, 0, none⟩) n cap) T) (k : Nat) (hk : k < T.size) : w.cell? ⟨g, k, none⟩ = some (.int .u8 ((T[k]'hk).toNat : Int)) := by
  rcases h with ⟨h1, _⟩ | ⟨g', cap', cur, fz, h0, hg, hf, h1, h2, h3, h4⟩
  · cases h1
  · injection h0 with e1 _ _
    injection e1 with e1
    obtain rfl : g = g' := by simpa using e1
    have := congrArg (·[k]?) h4
    simp only [List.getElem?_take, if_pos hk] at this
    rw [Array.getElem?_toList] at this
    rw [cell_of_row w g k cur e fz hg, this]
    simp only [Lib.strCells, List.getElem?_map, Array.getElem?_toList]
    rw [Array.getElem?_eq_getElem (show k < T.data.size from hk)]
    rfl

theorem u64_nat (n : Nat) (h : n < m64) : IntKind.u64.wrap (n : Int) = (n : Int) := by
  have e : IntKind.u64.wrap (n : Int) = (n : Int) % 18446744073709551616 := by simp [IntKind.wrap, IntKind.signed, IntKind.bits]
  unfold m64 at h
  rw [e]; omega
theorem be_step (m : Nat) (b : UInt8) (hm : m < 72057594037927936) : bits BinOp.or IntKind.u64 (IntKind.u64.wrap ((m : Int) * 256)) (IntKind.u64.wrap (b.toNat : Int)) = ((m * 256 + b.toNat : Nat) : Int) := by
  have hb : b.toNat < 256 := UInt8.toNat_lt b
  have e1 : ((m : Int) * 256) = ((m * 256 : Nat) : Int) := by omega
  rw [e1, u64_nat _ (by unfold m64; omega), u64_nat _ (by unfold m64; omega)]
  have e2 : m * 256 ||| b.toNat = m * 256 + b.toNat := by
    have := Nat.shiftLeft_add_eq_or_of_lt (b := b.toNat) (i := 8) (by omega) m
    rw [Nat.shiftLeft_eq] at this
    exact this.symm
  show IntKind.u64.wrap (((BitVec.ofInt 64 ((m * 256 : Nat) : Int)) ||| (BitVec.ofInt 64 (b.toNat : Int))).toNat : Int) = _
  rw [BitVec.ofInt_natCast, BitVec.ofInt_natCast, BitVec.toNat_or, BitVec.toNat_ofNat, BitVec.toNat_ofNat, Nat.mod_eq_of_lt (by omega), Nat.mod_eq_of_lt (by omega), e2]
  exact u64_nat _ (by unfold m64; omega)
/-! How far the reader comes. -/
def rM (r : RS) : Nat := r.rest.size + if r.short then 0 else 1
theorem rBytes_le (r : RS) (n : Nat) : (rBytes r n).2.rest.size ≤ r.rest.size ∧ (rBytes r n).1.size ≤ n ∧ (rBytes r n).1.size ≤ r.rest.size := by
  unfold rBytes; split
  · exact ⟨Nat.le_refl _, Nat.zero_le _, Nat.zero_le _⟩
  · rename_i h
    simp only [Bool.or_eq_true, decide_eq_true_eq, not_or, Nat.not_lt] at h
    simp only [ByteArray.size_extract]; omega
theorem rBytes_M (r : RS) (n : Nat) : rM (rBytes r n).2 ≤ rM r ∧ (r.short = false → (rBytes r n).2.short = true ∨ (rBytes r n).2.rest.size + n = r.rest.size) := by
  unfold rBytes rM; split
  · simp only [if_true]; exact ⟨by omega, fun _ => .inl trivial⟩
  · rename_i h
    simp only [Bool.or_eq_true, decide_eq_true_eq, not_or, Nat.not_lt, Bool.not_eq_true] at h
    simp only [ByteArray.size_extract, h.1, Bool.false_eq_true, if_false]
    exact ⟨by omega, fun _ => .inr (by omega)⟩
theorem rBytes_short (r : RS) (n : Nat) (h : r.short = true) : (rBytes r n).2.short = true := by simp [rBytes, h]
theorem rNumber_le (r : RS) : (rNumber r).2.rest.size ≤ r.rest.size := (rBytes_le r 8).1
theorem rNumber_lt (r : RS) : (rNumber r).1 < m64 := beN_m64 _ (by rw [data_len]; exact (rBytes_le r 8).2.1)
theorem rText_le (r : RS) : (rText r).2.rest.size ≤ r.rest.size ∧ (rText r).1.size ≤ r.rest.size :=
  ⟨Nat.le_trans (rBytes_le _ _).1 (rNumber_le r), Nat.le_trans (rBytes_le _ _).2.2 (rNumber_le r)⟩
theorem rText_M (r : RS) : rM (rText r).2 ≤ rM r := Nat.le_trans (rBytes_M _ _).1 (rBytes_M r 8).1
/-- One entry takes something, or there is too little. -/
theorem rEnt_M (r : RS) (h : r.short = false) : rM (rText (rNumber r).2).2 < rM r := by
  have h1 := rText_M (rNumber r).2
  rcases (rBytes_M r 8).2 h with h2 | h2
  · have h3 : (rText (rNumber r).2).2.short = true := rBytes_short _ _ (rBytes_short _ _ h2)
    have h4 := (rText_le (rNumber r).2).1
    have h5 := rNumber_le r
    unfold rM
    rw [h3, h]
    simp only [if_true, Bool.false_eq_true, if_false]
    omega
  · have h3 : rM (rNumber r).2 < rM r := by
      show (rBytes r 8).2.rest.size + _ < _
      unfold rM
      rw [h]
      simp only [Bool.false_eq_true, if_false]
      split <;> omega
    omega

set_option maxHeartbeats 1000000 in
set_option maxRecDepth 100000 in
theorem rnum_prog (b : Nat) (r : RS) (w : World) (h : Rd w b r) (hr : r.rest.size ≤ 10000000000) :
    Calls Tryz.prog 141 #[.pointer (some ⟨b, 0, none⟩)] w fun e w' => e = .returned (.int .u64 ((rNumber r).1 : Int)) ∧ Rd w' b (rNumber r).2 ∧ Only b w w' := by
  have H := Lib.hid (rbytes_prog b r 8 w h hr (by decide))
  have hsz : (rBytes r 8).1.size ≤ 8 := by
    unfold rBytes; split
    · exact Nat.zero_le _
    · simp only [ByteArray.size_extract]; omega
  unfold rNumber
  obtain ⟨⟨s, r'⟩, hs⟩ : ∃ x, rBytes r 8 = x := ⟨_, rfl⟩
  rw [hs] at H hsz ⊢
  simp only at H hsz ⊢
  have HSZ := Lib.hid hsz
  clear h hr hs
  go_enter Tryz.func141, Tryz.ntmps141
  go_wp2_with fail
  refine H.out.mono ?_
  rintro e w1 ⟨rfl, hd1, ho1⟩
  obtain ⟨cap, W, hrun, hrow, hbw⟩ := bytes_of (P := Tryz.prog) (w := w1) Tryz.underlying9 Tryz.underlying122 Tryz.underlying5 s (by omega)
  have HR := Lib.hid hrow
  have HD := Lib.hid (hd1.later hbw)
  have HO := Lib.hid (ho1.trans (Only.ofBelow hbw))
  obtain ⟨g, hg⟩ : ∃ g, w1.heap.size = g := ⟨_, rfl⟩
  rw [hg] at hrun HR
  clear hrow hd1 ho1 hbw hg
  go_wp2_with fail
  go_loop [3, 10] (fun n i => ∃ k : Nat, k ≤ s.size ∧ i = .int .i64 k ∧ n = .int .u64 (beN (s.data.toList.take k) : Int)) (fun _ i => s.size - (intOf i).toNat)
  case atStart => exact ⟨0, Nat.zero_le _, rfl, rfl⟩
  case round =>
    obtain ⟨k, hk, rfl, rfl⟩ := hrel
    by_cases hlt : k < s.size
    · have c := HR.out.cell k hlt
      go_wp2_with fail
      have hk8 : (s.data.toList.take k).length ≤ 7 := by rw [List.length_take]; have := HSZ.out; omega
      have hm := beN_lt (s.data.toList.take k)
      have hm2 : 256 ^ (s.data.toList.take k).length ≤ 256 ^ 7 := Nat.pow_le_pow_right (by decide) hk8
      have hst := be_step (beN (s.data.toList.take k)) s[k] (by
        have e7 : (256 : Nat) ^ 7 = 72057594037927936 := by decide
        omega)
      rw [hst, ← beN_snoc, ← take_snoc' s k hlt]
      refine ⟨⟨k + 1, by omega, by go_num, rfl⟩, ?_⟩
      simp [intOf]; omega
    · have hke : k = s.size := by omega
      subst hke
      rw [← data_len, List.take_length]
      go_wp2_with fail
      go_ret
      exact ⟨rfl, HD.out, HO.out⟩

set_option maxRecDepth 100000 in
theorem rtext_prog (b : Nat) (r : RS) (w : World) (h : Rd w b r) (hr : r.rest.size ≤ 10000000000) :
    Calls Tryz.prog 142 #[.pointer (some ⟨b, 0, none⟩)] w fun e w' => e = .returned (.string (rText r).1) ∧ Rd w' b (rText r).2 ∧ Only b w w' := by
  have H := Lib.hid (rnum_prog b r w h hr)
  have HL := Lib.hid (Nat.le_trans (rNumber_le r) hr)
  have HN := Lib.hid (rNumber_lt r)
  have HT := Lib.hid (Nat.le_trans (rText_le r).2 hr)
  unfold rText at HT ⊢
  obtain ⟨⟨n, r1⟩, h1⟩ : ∃ x, rNumber r = x := ⟨_, rfl⟩
  rw [h1] at H HL HN HT ⊢
  simp only at H HL HN HT ⊢
  have H2 := Lib.hid (fun W (hd : Rd W b r1) => rbytes_prog b r1 n W hd HL.out HN.out)
  obtain ⟨⟨s, r2⟩, h2⟩ : ∃ x, rBytes r1 n = x := ⟨_, rfl⟩
  rw [h2] at H2 HT ⊢
  simp only at H2 HT ⊢
  clear h hr h1 h2
  go_enter Tryz.func142, Tryz.ntmps142
  go_wp2_with fail
  refine H.out.mono ?_
  rintro e w1 ⟨rfl, hd1, ho1⟩
  have H2' := Lib.hid (H2.out w1 hd1)
  have HO1 := Lib.hid ho1
  clear hd1 ho1 H H2
  go_wp2_with fail
  refine H2'.out.mono ?_
  rintro e w2 ⟨rfl, hd2, ho2⟩
  have H3 := Lib.hid (clone_prog s w2 (by have := HT.out; omega))
  have HD2 := Lib.hid hd2
  have HO2 := Lib.hid (HO1.out.trans ho2)
  clear hd2 ho2 H2'
  go_wp2_with fail
  refine H3.out.mono ?_
  rintro e w3 ⟨rfl, hb3⟩
  have HB3 := Lib.hid hb3
  clear hb3 H3
  go_wp2_with fail
  go_ret
  exact ⟨rfl, HD2.out.later HB3.out, HO2.out.trans (Only.ofBelow HB3.out)⟩

theorem isEmpty_of {s : ByteArray} (h : s.size ≠ 0) : s.toList.isEmpty = false := by
  rw [ByteArray.toList_eq]
  cases he : s.data.toList with
  | nil => exact absurd (by rw [← data_len, he]; rfl) h
  | cons a l => rfl

theorem rEnts_end (f : Nat) (r : RS) (out : List Ent) (h : (decide (r.rest.size = 0) || r.short) = true) : rEnts f r out = (out, r) := by
  cases f with
  | zero => rfl
  | succ f => simp only [rEnts, h, if_true]
theorem rEnts_next (f : Nat) (r : RS) (out : List Ent) (h : (decide (r.rest.size = 0) || r.short) = false) : rEnts (f + 1) r out = rEnts f (rText (rNumber r).2).2 (out ++ [((rNumber r).1, (rText (rNumber r).2).1)]) := by
  simp only [rEnts, h, Bool.false_eq_true, if_false]
/-- How far a reader in memory comes. -/
def rdM (b : Nat) (w : World) : Nat := match w.cell? ⟨b, 0, none⟩, w.cell? ⟨b, 1, none⟩ with
  | some (.string s), some (.bool x) => s.size + if x then 0 else 1
  | _, _ => 0
theorem Rd.rdM {w : World} {b : Nat} {r : RS} (h : Rd w b r) : rdM b w = rM r := by
  obtain ⟨c0, c1, _⟩ := h.cells
  simp [Go.Proofs.YtflkdgghpmhbgaaGreat.rdM, c0, c1, rM]

set_option maxHeartbeats 2000000 in
set_option maxRecDepth 100000 in
theorem rents_prog (b : Nat) (r : RS) (w : World) (h : Rd w b r) (hr : r.rest.size ≤ 900000000) :
    Calls Tryz.prog 143 #[.pointer (some ⟨b, 0, none⟩)] w fun e w' => ∃ v, e = .returned v ∧ EOwn w' w.heap.size v (rEntries r).1 ∧ Rd w' b (rEntries r).2 ∧ Only b w w' := by
  have H := Lib.hid h
  have HR := Lib.hid hr
  have HB := Lib.hid h.lt
  obtain ⟨R, hR⟩ : ∃ R, rEntries r = R := ⟨_, rfl⟩
  rw [hR]
  have HE : Hid (rEnts (r.rest.size + 1) r [] = R) := Lib.hid hR
  clear h hr hR
  go_enter Tryz.func143, Tryz.ntmps143
  go_wp2_with fail
  go_loopw [3] (fun o wr => ∃ (f : Nat) (r' : RS) (out : List Ent), Hid (rEnts f r' out = R) ∧ Hid (rM r' ≤ f) ∧ Hid (out.length + rM r' ≤ r.rest.size + 1) ∧ Hid (EOwn wr w.heap.size o out) ∧ Hid (Rd wr b r') ∧ Hid (Only b w wr))
    (fun _ wr => rdM b wr)
  case atStart => exact ⟨_, r, [], HE, Lib.hid (by unfold rM; split <;> omega), Lib.hid (by unfold rM; simp; split <;> omega), Lib.hid (EOwn.nil _ _), H, Lib.hid (Only.refl _ _)⟩
  case round =>
    obtain ⟨f, r', out, HE1, HF, HL, HO, HD, HW⟩ := hrel
    clear HE H
    obtain ⟨c0, c1, c2⟩ := HD.out.cells
    have HM := Lib.hid HD.out.rdM
    obtain ⟨s, sh, wg⟩ := r'
    simp only at c0 c1 c2
    cases sh
    · by_cases h0 : s.size = 0
      · have hs : s = ⟨#[]⟩ := ByteArray.ext (Array.eq_empty_of_size_eq_zero h0)
        subst hs
        have HE2 : Hid ((out, (⟨⟨#[]⟩, false, wg⟩ : RS)) = R) := Lib.hid ((rEnts_end f _ out rfl).symm.trans HE1.out)
        clear HE1
        go_wp2_with fail
        go_ret
        rw [← HE2.out]
        exact ⟨_, rfl, HO.out, HD.out, HW.out⟩
      · have hie := isEmpty_of h0
        have hM : rM (⟨s, false, wg⟩ : RS) = s.size + 1 := by simp [rM]
        obtain ⟨f, rfl⟩ : ∃ g, f = g + 1 := ⟨f - 1, by have := HF.out; rw [hM] at this; omega⟩
        have hr' : s.size ≤ 900000000 := by have := HL.out; have := HR.out; rw [hM] at *; omega
        have HE2 : Hid (rEnts f (rText (rNumber ⟨s, false, wg⟩).2).2 (out ++ [((rNumber ⟨s, false, wg⟩).1, (rText (rNumber ⟨s, false, wg⟩).2).1)]) = R) := Lib.hid ((rEnts_next f ⟨s, false, wg⟩ out (by simp [h0])).symm.trans HE1.out)
        have HM2 := Lib.hid (rEnt_M ⟨s, false, wg⟩ rfl)
        have H1 := Lib.hid (rnum_prog b ⟨s, false, wg⟩ wr HD.out (by simp only; omega))
        have HN := Lib.hid (rNumber_lt ⟨s, false, wg⟩)
        have HS1 := Lib.hid (Nat.le_trans (rNumber_le ⟨s, false, wg⟩) hr')
        have HOL := Lib.hid (show out.length + 1 ≤ 1000000000 by have := HL.out; have := HR.out; omega)
        have HMM := Lib.hid hM
        obtain ⟨⟨n, r1⟩, hn⟩ : ∃ x, rNumber ⟨s, false, wg⟩ = x := ⟨_, rfl⟩
        rw [hn] at HE2 HM2 H1 HN HS1
        simp only at HE2 HM2 H1 HN HS1
        have hnI : (n : Int) ≤ 18446744073709551615 := by have := HN.out; unfold m64 at this; omega
        clear hn HE1 h0 hM
        obtain ⟨a, c, rfl, _⟩ := HO.out.shape
        go_wp2_with fail
        refine H1.out.mono ?_
        rintro e w1 ⟨rfl, hd1, ho1⟩
        have H2 := Lib.hid (rtext_prog b r1 w1 hd1 (by have := HS1.out; omega))
        have HO1 := Lib.hid ho1
        clear hd1 ho1 H1
        obtain ⟨⟨q, r2⟩, hq⟩ : ∃ x, rText r1 = x := ⟨_, rfl⟩
        rw [hq] at HE2 HM2 H2
        simp only at HE2 HM2 H2
        clear hq
        go_wp2_with fail
        refine H2.out.mono ?_
        rintro e w2 ⟨rfl, hd2, ho2⟩
        have ho02 := HO1.out.trans ho2
        have hoe : EOwn w2 w.heap.size (.slice a out.length c) out := HO.out.mv fun k hk => ho02.block k (HO.out.lt k hk) (by have := HO.out.low k hk; have := HB.out; omega)
        have HO2 := Lib.hid hoe
        have HD2 := Lib.hid hd2
        have HW2 := Lib.hid (HW.out.trans ho02)
        have HSZ := Lib.hid (Nat.le_trans HW.out.size ho02.size)
        clear hd2 ho2 H2 hoe ho02 HO HD HW HO1
        go_wp2_with (at_builtin; refine list_appE1 rfl _ _ rfl w.heap.size _ out rfl (HO2.out.later ((Below.refl _ _).alloc (Nat.le_refl _) _)) w2.heap.size _ (n, q) rfl (heap_alloc_new _ _) HOL.out (by have := HSZ.out; simp; omega) ?_)
        intro v' w3 hown hgrew
        have hd3 : Rd w3 b r2 := by
          unfold Rd
          rw [hgrew.block (b := b) (by have := HD2.out.lt; simp; omega) (fun e => by have := HO2.out.low b e; have := HB.out; omega), Lib.alloc_old _ _ _ HD2.out.lt]
          exact HD2.out
        have hw3 : Only b w w3 := by
          have hbel := hgrew.below (B := w.heap.size) (by have := HSZ.out; simp; omega) HO2.out.low
          have ha := HW2.out.alloc (.cells #[.int .u64 (n : Int), .string q] 70)
          exact ⟨hbel.os.trans ha.os, hbel.tape.trans ha.tape, hbel.output.trans ha.output, Nat.le_trans ha.size hbel.size, fun k hk hkb => (hbel.block k hk).trans (ha.block k hk hkb)⟩
        have HO3 := Lib.hid hown
        have HD3 := Lib.hid hd3
        have HW3 := Lib.hid hw3
        have HM3 := Lib.hid hd3.rdM
        clear hown hd3 hw3 hgrew
        go_wp2_with fail
        go_roundw
        case rel =>
          exact ⟨f, r2, _, HE2, Lib.hid (by have := HM2.out; have := HF.out; omega), Lib.hid (by have := HM2.out; have := HL.out; rw [List.length_append]; simp only [List.length_cons, List.length_nil]; omega), HO3, HD3, HW3⟩
        case measure => rw [HM3.out, HM.out]; exact HM2.out
    · have HE2 : Hid ((out, (⟨s, true, wg⟩ : RS)) = R) := Lib.hid ((rEnts_end f _ out (by simp)).symm.trans HE1.out)
      clear HE1
      go_wp2_with fail
      all_goals
        go_ret
        rw [← HE2.out]
        exact ⟨_, rfl, HO.out, HD.out, HW.out⟩

set_option maxRecDepth 100000 in
theorem rended_prog (b : Nat) (r : RS) (w : World) (h : Rd w b r) :
    Calls Tryz.prog 144 #[.pointer (some ⟨b, 0, none⟩)] w fun e w' => e = .returned (.bool (rEnded r)) ∧ w' = w := by
  obtain ⟨c0, c1, c2⟩ := h.cells
  obtain ⟨s, sh, wg⟩ := r
  simp only at c0 c1 c2
  clear h c2
  by_cases h0 : s.size = 0
  · have hs : s = ⟨#[]⟩ := ByteArray.ext (Array.eq_empty_of_size_eq_zero h0)
    subst hs
    have e1 : rEnded ⟨⟨#[]⟩, sh, wg⟩ = !sh := rfl
    rw [e1]
    cases sh
    all_goals
      go_enter Tryz.func144, Tryz.ntmps144
      go_wp2_with fail
      go_ret
      exact ⟨rfl, rfl⟩
  · have hie := isEmpty_of h0
    have e1 : rEnded ⟨s, sh, wg⟩ = false := by simp only [rEnded, h0, decide_false, Bool.false_and]
    rw [e1]
    clear h0 e1
    go_enter Tryz.func144, Tryz.ntmps144
    go_wp2_with fail
    go_ret
    exact ⟨rfl, rfl⟩

set_option maxHeartbeats 1000000 in
set_option maxRecDepth 100000 in
theorem rsealed_prog (b : Nat) (r : RS) (n : Nat) (w : World) (h : Rd w b r) (hr : r.rest.size ≤ 10000000000) (hn : n < m64) :
    Calls Tryz.prog 140 #[.pointer (some ⟨b, 0, none⟩), .int .u64 (n : Int)] w fun e w' => e = .returned (.string (rSealed r n).1) ∧ Rd w' b (rSealed r n).2 ∧ Only b w w' := by
  have H := Lib.hid (rbytes_prog b r n w h hr hn)
  have HS := Lib.hid (Nat.le_trans (rBytes_le r n).2.2 hr)
  have HR := Lib.hid (Nat.le_trans (rBytes_le r n).1 hr)
  unfold rSealed
  obtain ⟨⟨s, r1⟩, h1⟩ : ∃ x, rBytes r n = x := ⟨_, rfl⟩
  rw [h1] at H HS HR ⊢
  simp only at H HS HR ⊢
  have H2 := Lib.hid (fun W (hd : Rd W b r1) => rnum_prog b r1 W hd HR.out)
  obtain ⟨⟨m, r2⟩, h2⟩ : ∃ x, rNumber r1 = x := ⟨_, rfl⟩
  rw [h2] at H2 ⊢
  simp only at H2 ⊢
  have HC := Lib.hid (fun W => sum_prog s W HS.out)
  clear h hr hn h1 h2
  obtain ⟨q, sh, wg⟩ := r2
  simp only at H2 ⊢
  go_enter Tryz.func140, Tryz.ntmps140
  go_wp2_with fail
  refine H.out.mono ?_
  rintro e w1 ⟨rfl, hd1, ho1⟩
  have H2' := Lib.hid (H2.out w1 hd1)
  have HO1 := Lib.hid ho1
  clear hd1 ho1 H H2
  go_wp2_with fail
  refine H2'.out.mono ?_
  rintro e w2 ⟨rfl, hd2, ho2⟩
  obtain ⟨c0, c1, c2⟩ := hd2.cells
  obtain ⟨z0, z1, z2⟩ := hd2.free
  simp only at c0 c1 c2
  have HO2 := Lib.hid (HO1.out.trans ho2)
  have HD := Lib.hid (fun x => hd2.set2 x)
  clear hd2 ho2 H2' HO1
  cases wg
  · cases sh
    · by_cases hm : m = fnv s
      · have hmI : ((m : Int) != (fnv s : Int)) = false := by simp [hm]
        have HM := Lib.hid hm
        clear hm
        go_wp2_with fail
        refine (HC.out w2).mono ?_
        rintro e w3 ⟨rfl, rfl⟩
        go_wp2_with fail
        go_ret
        rw [show (false || !false && !decide (m = fnv s)) = false by simp [HM.out]]
        exact ⟨rfl, HD.out false, HO2.out.setCell 2 _⟩
      · have hmI : ((m : Int) != (fnv s : Int)) = true := by simp; omega
        have HM := Lib.hid hm
        clear hm
        go_wp2_with fail
        refine (HC.out w2).mono ?_
        rintro e w3 ⟨rfl, rfl⟩
        go_wp2_with fail
        go_ret
        rw [show (false || !false && !decide (m = fnv s)) = true by simp [HM.out]]
        exact ⟨rfl, HD.out true, HO2.out.setCell 2 _⟩
    · go_wp2_with fail
      go_ret
      rw [show (false || !true && !decide (m = fnv s)) = false by simp]
      exact ⟨rfl, HD.out false, HO2.out.setCell 2 _⟩
  · go_wp2_with fail
    go_ret
    rw [show (true || !sh && !decide (m = fnv s)) = true by simp]
    exact ⟨rfl, HD.out true, HO2.out.setCell 2 _⟩

theorem rSealed_le (r : RS) (n : Nat) : (rSealed r n).2.rest.size ≤ r.rest.size ∧ (rSealed r n).1.size ≤ n ∧ (rSealed r n).1.size ≤ r.rest.size :=
  ⟨Nat.le_trans (rNumber_le _) (rBytes_le r n).1, (rBytes_le r n).2.1, (rBytes_le r n).2.2⟩
theorem rBytes_full (r : RS) (n : Nat) (h : (rBytes r n).2.short = false) : (rBytes r n).1.size = n ∧ (rBytes r n).2.rest.size + n = r.rest.size ∧ r.short = false := by
  unfold rBytes at h ⊢
  split at h
  · cases h
  · rename_i h1
    simp only [Bool.or_eq_true, decide_eq_true_eq, not_or, Nat.not_lt, Bool.not_eq_true] at h1
    rw [if_neg (by simp [h1.1]; omega)]
    simp only [ByteArray.size_extract]
    exact ⟨by omega, by omega, h1.1⟩
theorem rNumber_short (r : RS) (h : (rNumber r).2.short = false) : r.short = false ∧ (rNumber r).2.rest.size + 8 = r.rest.size :=
  ⟨(rBytes_full r 8 h).2.2, (rBytes_full r 8 h).2.1⟩
theorem rSealed_full (r : RS) (n : Nat) (h : (rSealed r n).2.short = false) : (rSealed r n).1.size = n ∧ (rSealed r n).2.rest.size + n + 8 = r.rest.size := by
  have h1 := rNumber_short _ h
  have h2 := rBytes_full r n h1.1
  have h3 : (rSealed r n).2.rest.size = (rNumber (rBytes r n).2).2.rest.size := rfl
  exact ⟨h2.1, by rw [h3]; omega⟩

set_option maxHeartbeats 1000000 in
set_option maxRecDepth 100000 in
theorem rrecord_prog (b : Nat) (r : RS) (w : World) (h : Rd w b r) (hr : r.rest.size ≤ 900000000) :
    Calls Tryz.prog 94 #[.pointer (some ⟨b, 0, none⟩)] w fun e w' => e = .returned (.tuple #[.int .u8 ((rRecord r).1.1.toNat : Int), .string (rRecord r).1.2]) ∧ Rd w' b (rRecord r).2 ∧ Only b w w' := by
  have H := Lib.hid (rsealed_prog b r 9 w h (by omega) (by decide))
  have HR := Lib.hid (Nat.le_trans (rSealed_le r 9).1 hr)
  have HF := Lib.hid (fun hx => rSealed_full r 9 hx)
  have HB := Lib.hid h.lt
  unfold rRecord
  obtain ⟨⟨s, r1⟩, h1⟩ : ∃ x, rSealed r 9 = x := ⟨_, rfl⟩
  rw [h1] at H HR HF ⊢
  simp only at H HR HF ⊢
  clear h hr h1
  obtain ⟨q, sh, wg⟩ := r1
  simp only at HR HF ⊢
  cases sh
  · cases wg
    · have hs9 : s.size = 9 := (HF.out rfl).1
      have hpos : 0 < s.size := by omega
      have e0 : s.data.getD 0 0 = s[0]'hpos := by
        unfold Array.getD
        rw [dif_pos (show 0 < s.data.size from hpos)]
        rfl
      have hr8 : (s.extract 1 s.size).size = 8 := by rw [ByteArray.size_extract]; omega
      have HN := Lib.hid (fun W b2 (hd : Rd W b2 ⟨s.extract 1 s.size, false, false⟩) => rnum_prog b2 ⟨s.extract 1 s.size, false, false⟩ W hd (by simp only; omega))
      have HNL := Lib.hid (rNumber_lt ⟨s.extract 1 s.size, false, false⟩)
      simp only [Bool.false_or, Bool.false_eq_true, if_false, e0]
      obtain ⟨⟨n, rr⟩, hn⟩ : ∃ x, rNumber ⟨s.extract 1 s.size, false, false⟩ = x := ⟨_, rfl⟩
      rw [hn] at HN HNL ⊢
      simp only at HN HNL ⊢
      have HS := Lib.hid (fun W (hd : Rd W b ⟨q, false, false⟩) => rsealed_prog b ⟨q, false, false⟩ n W hd (by have := HR.out; simp only; omega) HNL.out)
      obtain ⟨⟨t, r3⟩, ht⟩ : ∃ x, rSealed ⟨q, false, false⟩ n = x := ⟨_, rfl⟩
      rw [ht] at HS ⊢
      simp only at HS ⊢
      have hI0 : (0 : Int) < (s.size : Int) := by omega
      have hI1 : (1 : Int) ≤ (s.size : Int) := by omega
      have HS9 := Lib.hid hs9
      clear hn ht hr8 e0 hs9
      go_enter Tryz.func94, Tryz.ntmps94
      go_wp2_with fail
      refine H.out.mono ?_
      rintro e w1 ⟨rfl, hd1, ho1⟩
      obtain ⟨c0, c1, c2⟩ := hd1.cells
      simp only at c0 c1 c2
      have HD1 := Lib.hid hd1
      have HO1 := Lib.hid ho1
      clear hd1 ho1 H
      go_wp2_with fail
      obtain ⟨W0, hW0⟩ : ∃ W0, W0 = w1.alloc (.cells #[.string (s.extract 1 s.size), .bool false, .bool false] 171) := ⟨_, rfl⟩
      have hd0 : Rd W0 w1.heap.size ⟨s.extract 1 s.size, false, false⟩ := by rw [hW0]; exact heap_alloc_new _ _
      have hd0b : Rd W0 b ⟨q, false, false⟩ := by rw [hW0]; exact HD1.out.later ((Below.refl _ _).alloc (Nat.le_refl _) _)
      have ho0 : Only b w W0 := by rw [hW0]; exact HO1.out.alloc _
      have hne : b ≠ w1.heap.size := by have := HD1.out.lt; omega
      obtain ⟨g, hg⟩ : ∃ g, w1.heap.size = g := ⟨_, rfl⟩
      rw [← hW0]
      rw [hg] at hd0 hne ⊢
      have HN' := Lib.hid (HN.out W0.drew g hd0)
      have HD0 := Lib.hid hd0b
      have HO0 := Lib.hid ho0
      have HNE := Lib.hid hne
      have HLW : Hid (w.heap.size ≤ g) := Lib.hid (by rw [← hg]; exact HO1.out.size)
      have HS' := Lib.hid (fun W (ho : Only g W0.drew W) => HS.out W (by
        unfold Rd
        rw [ho.block b (by have := HD0.out.lt; simpa using this) HNE.out]
        exact HD0.out))
      clear hW0 hd0 hd0b ho0 hne hg HN HS HD1 HO1 c0 c1 c2
      go_region_with (first
        | (go_at_call 141; (with_reducible refine HN'.out.mono ?_); rintro e w2 ⟨rfl, hd2, ho2⟩)
        | (go_at_call 140; (with_reducible refine (HS'.out _ ho2).mono ?_); rintro e w3 ⟨rfl, hd3, ho3⟩))
      all_goals
        have HD3 := Lib.hid hd3
        have HO3 : Hid (Only b w w3) := Lib.hid (by
          have h1 : Only b w w2 := ⟨ho2.os.trans HO0.out.os, ho2.tape.trans HO0.out.tape, ho2.output.trans HO0.out.output, Nat.le_trans HO0.out.size ho2.size, fun k hk hkb => (ho2.block k (Nat.lt_of_lt_of_le hk HO0.out.size) (by have := HLW.out; omega)).trans (HO0.out.block k hk hkb)⟩
          exact h1.trans ho3)
        clear hd2 ho2 hd3 ho3
        go_wp2_with fail
        go_ret2
        exact ⟨rfl, HD3.out, HO3.out⟩
    · simp only [Bool.or_true, if_true]
      go_enter Tryz.func94, Tryz.ntmps94
      go_wp2_with fail
      refine H.out.mono ?_
      rintro e w1 ⟨rfl, hd1, ho1⟩
      obtain ⟨c0, c1, c2⟩ := hd1.cells
      simp only at c0 c1 c2
      have HD1 := Lib.hid hd1
      have HO1 := Lib.hid ho1
      clear hd1 ho1 H
      go_wp2_with fail
      go_ret2
      exact ⟨rfl, HD1.out, HO1.out⟩
  · simp only [Bool.true_or, if_true]
    go_enter Tryz.func94, Tryz.ntmps94
    go_wp2_with fail
    refine H.out.mono ?_
    rintro e w1 ⟨rfl, hd1, ho1⟩
    obtain ⟨c0, c1, c2⟩ := hd1.cells
    simp only at c0 c1 c2
    have HD1 := Lib.hid hd1
    have HO1 := Lib.hid ho1
    clear hd1 ho1 H
    go_wp2_with fail
    go_ret2
    exact ⟨rfl, HD1.out, HO1.out⟩
end Go.Proofs.YtflkdgghpmhbgaaGreat
namespace Go.Proofs.YtflkdgghpmhbgaaGreat
open Go.RowKit

def ctL (c : CT) (v : Value) : List Value := [.int .u64 (c.term : Int), .int .i64 c.vote, .int .u64 (c.base : Int), .int .u64 (c.bterm : Int), .string c.state, v]
/-- Block b begins with this content; its entries lie in v; X stands behind it. -/
def CtAt (w : World) (b : Nat) (ty : TypeId) (X : List Value) (v : Value) (c : CT) : Prop :=
  w.heap[b]? = some (.cells (ctL c v ++ X).toArray ty (0, 0)) ∧ EOwn w 0 v c.ents ∧ v.ownBlock ≠ some b
section
variable {w w' : World} {b : Nat} {ty : TypeId} {X : List Value} {v : Value} {c : CT}
theorem CtAt.lt (h : CtAt w b ty X v c) : b < w.heap.size := (Array.getElem?_eq_some_iff.1 h.1).1
theorem CtAt.cells (h : CtAt w b ty X v c) : w.cell? ⟨b, 0, none⟩ = some (.int .u64 (c.term : Int)) ∧ w.cell? ⟨b, 1, none⟩ = some (.int .i64 c.vote) ∧ w.cell? ⟨b, 2, none⟩ = some (.int .u64 (c.base : Int)) ∧
    w.cell? ⟨b, 3, none⟩ = some (.int .u64 (c.bterm : Int)) ∧ w.cell? ⟨b, 4, none⟩ = some (.string c.state) ∧ w.cell? ⟨b, 5, none⟩ = some v := by
  have h1 := h.1
  simp [World.cell?, h1, ctL]
theorem CtAt.free (h : CtAt w b ty X v c) (o : Nat) : w.frozen? ⟨b, o, none⟩ = false := by
  have h1 := h.1
  simp [World.frozen?, h1]
theorem CtAt.mv (h : CtAt w b ty X v c) (hb : w'.heap[b]? = w.heap[b]?) (hv : ∀ k, v.ownBlock = some k → w'.heap[k]? = w.heap[k]?) : CtAt w' b ty X v c :=
  ⟨by rw [hb]; exact h.1, h.2.1.mv hv, h.2.2⟩
theorem CtAt.later (h : CtAt w b ty X v c) (hb : Below w.heap.size w w') : CtAt w' b ty X v c := h.mv (hb.block b h.lt) fun k hk => hb.block k (h.2.1.lt k hk)
theorem CtAt.same (h : CtAt w b ty X v c) (hs : Same w w') : CtAt w' b ty X v c := h.later (hs.below _)
end
theorem u64_nat' (n : Nat) (h : n ≤ 18446744073709551615) : IntKind.u64.wrap (n : Int) = (n : Int) := u64_nat n (by unfold m64; omega)
theorem lastN_int (c : CT) (h : c.ents.length ≤ 10000000000) : IntKind.u64.wrap ((c.base : Int) + IntKind.u64.wrap (c.ents.length : Int)) = (c.lastN : Int) := by
  rw [u64_nat' _ (by omega)]
  have e : ∀ x : Int, IntKind.u64.wrap x = x % 18446744073709551616 := fun x => by simp [IntKind.wrap, IntKind.signed, IntKind.bits]
  rw [e]; unfold CT.lastN m64; omega

set_option maxRecDepth 100000 in
theorem last_prog {ty : TypeId} {X : List Value} (b : Nat) (v : Value) (c : CT) (w : World) (h : CtAt w b ty X v c) (hl : c.ents.length ≤ 10000000000) :
    Calls Tryz.prog 80 #[.pointer (some ⟨b, 0, none⟩)] w fun e w' => e = .returned (.int .u64 (c.lastN : Int)) ∧ Same w w' := by
  obtain ⟨c0, c1, c2, c3, c4, c5⟩ := h.cells
  obtain ⟨a, cp, rfl, _⟩ := h.2.1.shape
  have hL := lastN_int c hl
  have hlI : (c.ents.length : Int) ≤ 10000000000 := by omega
  clear c0 c1 c3 c4 h hl
  go_enter Tryz.func80, Tryz.ntmps80
  go_wp2_with fail
  go_quiet (fail)
  go_wp2_with fail
  go_ret
  exact ⟨rfl, _, rfl⟩

set_option maxRecDepth 100000 in
theorem takes_prog {ty : TypeId} {X : List Value} (b : Nat) (v : Value) (c : CT) (behind n : Nat) (w : World) (h : CtAt w b ty X v c) (hl : c.ents.length ≤ 10000000000) (hb : behind < m64) (hn : n ≤ 10000000000) :
    Calls Tryz.prog 145 #[.pointer (some ⟨b, 0, none⟩), .int .u64 (behind : Int), .int .i64 (n : Int)] w fun e w' => e = .returned (.bool (c.takes behind n)) ∧ Same w w' := by
  have H := Lib.hid (last_prog b v c w h hl)
  obtain ⟨c0, c1, c2, c3, c4, c5⟩ := h.cells
  have hbI : (behind : Int) ≤ 18446744073709551615 := by unfold m64 at hb; omega
  have hb0 : (0 : Int) ≤ (behind : Int) := by omega
  have hnI : (n : Int) ≤ 10000000000 := by omega
  clear c0 c1 c3 c4 c5 h hl
  by_cases h1 : c.base ≤ behind
  · have h1I : (c.base : Int) ≤ (behind : Int) := by omega
    by_cases h2 : behind ≤ c.lastN
    · have h2I : (behind : Int) ≤ (c.lastN : Int) := by omega
      by_cases h3 : n ≤ 18446744073709551615 - behind
      · have h3I : (n : Int) ≤ 18446744073709551615 - (behind : Int) := by unfold m64 at hb; omega
        have e1 : c.takes behind n = true := by simp [CT.takes, h1, h2, h3]
        rw [e1]
        clear e1 h1 h2 h3 hb hn
        go_enter Tryz.func145, Tryz.ntmps145
        go_wp2_with fail
        refine H.out.mono ?_
        rintro e w1 ⟨rfl, hs1⟩
        go_wp2_with fail
        go_ret
        exact ⟨rfl, hs1⟩
      · have h3I : ¬ (n : Int) ≤ 18446744073709551615 - (behind : Int) := by unfold m64 at hb; omega
        have hd : decide ((n : Int) ≤ 18446744073709551615 - (behind : Int)) = false := decide_eq_false h3I
        have e1 : c.takes behind n = false := by simp only [CT.takes, h3, decide_false, Bool.and_false]
        rw [e1]
        clear e1 h1 h2 h3 hb hn
        go_enter Tryz.func145, Tryz.ntmps145
        go_wp2_with fail
        refine H.out.mono ?_
        rintro e w1 ⟨rfl, hs1⟩
        go_wp2_with fail
        go_ret
        exact ⟨rfl, hs1⟩
    · have h2I : ¬ (behind : Int) ≤ (c.lastN : Int) := by omega
      have e1 : c.takes behind n = false := by simp only [CT.takes, h2, decide_false, Bool.false_and, Bool.and_false]
      rw [e1]
      clear e1 h1 h2 hb hn
      go_enter Tryz.func145, Tryz.ntmps145
      go_wp2_with fail
      refine H.out.mono ?_
      rintro e w1 ⟨rfl, hs1⟩
      go_wp2_with fail
      go_ret
      exact ⟨rfl, hs1⟩
  · have h1I : ¬ (c.base : Int) ≤ (behind : Int) := by omega
    have e1 : c.takes behind n = false := by simp only [CT.takes, h1, decide_false, Bool.false_and]
    rw [e1]
    clear e1 h1 hb hn H
    go_enter Tryz.func145, Tryz.ntmps145
    go_wp2_with fail
    go_ret
    exact ⟨rfl, Same.refl _⟩

set_option maxRecDepth 100000 in
theorem votes_prog {ty : TypeId} {X : List Value} (b : Nat) (v : Value) (c : CT) (t : Nat) (x : Int) (w : World) (h : CtAt w b ty X v c) :
    Calls Tryz.prog 146 #[.pointer (some ⟨b, 0, none⟩), .int .u64 (t : Int), .int .i64 x] w fun e w' => e = .returned (.bool (c.votes t x)) ∧ w' = w := by
  obtain ⟨c0, c1, c2, c3, c4, c5⟩ := h.cells
  clear c1 c2 c3 c4 c5 h
  by_cases h1 : c.term ≤ t
  · have h1I : (c.term : Int) ≤ (t : Int) := by omega
    have h1J : ¬ (t : Int) < (c.term : Int) := by omega
    by_cases h2 : -1 ≤ x
    · have e1 : c.votes t x = true := by simp [CT.votes, h1, h2]
      rw [e1]
      clear e1 h1
      go_enter Tryz.func146, Tryz.ntmps146
      go_wp2_with fail
      go_ret
      exact ⟨rfl, rfl⟩
    · have e1 : c.votes t x = false := by simp only [CT.votes, h2, decide_false, Bool.and_false]
      rw [e1]
      clear e1 h1
      go_enter Tryz.func146, Tryz.ntmps146
      go_wp2_with fail
      go_ret
      exact ⟨rfl, rfl⟩
  · have h1I : ¬ (c.term : Int) ≤ (t : Int) := by omega
    have e1 : c.votes t x = false := by simp only [CT.votes, h1, decide_false, Bool.false_and]
    rw [e1]
    clear e1 h1
    go_enter Tryz.func146, Tryz.ntmps146
    go_wp2_with fail
    go_ret
    exact ⟨rfl, rfl⟩

/-- The entry at an index. -/
def CT.at (c : CT) (i : Nat) : Option Ent := if i ≤ c.base ∨ c.base + c.ents.length < i then none else c.ents[i - c.base - 1]?
def entV : Option Ent → Value
  | some e => .agg #[.int .u64 (e.1 : Int), .string e.2]
  | none => .agg #[.int .u64 0, .string ⟨#[]⟩]
theorem lastN_of {c : CT} (h : c.base + c.ents.length < m64) : c.lastN = c.base + c.ents.length := Nat.mod_eq_of_lt h

set_option maxHeartbeats 1000000 in
set_option maxRecDepth 100000 in
theorem at_prog {ty : TypeId} {X : List Value} (b : Nat) (v : Value) (c : CT) (i : Nat) (w : World) (h : CtAt w b ty X v c) (hl : c.ents.length ≤ 10000000000) (hc : c.base + c.ents.length < m64) :
    Calls Tryz.prog 81 #[.pointer (some ⟨b, 0, none⟩), .int .u64 (i : Int)] w fun e w' => e = .returned (.tuple #[entV (c.at i), .bool (c.at i).isSome]) ∧ Below w.heap.size w w' := by
  have hlast := lastN_of hc
  by_cases h1 : i ≤ c.base
  · obtain ⟨c0, c1, c2, c3, c4, c5⟩ := h.cells
    have h1I : (i : Int) ≤ (c.base : Int) := by omega
    have e1 : c.at i = none := by simp [CT.at, h1]
    rw [e1]
    have hlt := h.lt
    clear c0 c1 c3 c4 c5 h hl hlast e1 h1
    go_enter Tryz.func81, Tryz.ntmps81
    go_wp2_with fail
    exact bodyPost_ret (v := .tuple #[entV none, .bool (none : Option Ent).isSome]) (by simp [results, Tryz.results81, go_sem, entV]) rfl ⟨rfl, ((Below.refl _ _).alloc (Nat.le_refl _) _)⟩
  · have h1I : ¬ (i : Int) ≤ (c.base : Int) := by omega
    have HL := Lib.hid (fun W (hW : CtAt W b ty X v c) => last_prog b v c W hW hl)
    have hlt := h.lt
    by_cases h2 : c.base + c.ents.length < i
    · have h2I : (c.lastN : Int) < (i : Int) := by omega
      have e1 : c.at i = none := by simp [CT.at, h2]
      rw [e1]
      have H0 := h.later ((Below.refl _ _).alloc (Nat.le_refl _) (.cells #[.int .u64 0, .string ⟨#[]⟩] 70))
      have HL' := Lib.hid (HL.out _ H0)
      obtain ⟨c0, c1, c2, c3, c4, c5⟩ := h.cells
      clear c0 c1 c3 c4 c5 h hl hlast e1 h1 h2 H0 HL
      go_enter Tryz.func81, Tryz.ntmps81
      go_wp2_with fail
      refine HL'.out.mono ?_
      rintro e w1 ⟨rfl, n1, rfl⟩
      go_wp2_with fail
      exact bodyPost_ret (v := .tuple #[entV none, .bool (none : Option Ent).isSome]) (by simp [results, Tryz.results81, go_sem, entV]) rfl ⟨rfl, by
        have h1 : Below w.heap.size w (w.alloc (.cells #[.int .u64 0, .string ⟨#[]⟩] 70)) := (Below.refl _ _).alloc (Nat.le_refl _) _
        exact ((h1.trans ((Same.of _ n1).below _)).setCell (Nat.le_refl _) _).setCell (Nat.le_refl _) _⟩
    · have h2I : ¬ (c.lastN : Int) < (i : Int) := by omega
      have hk : i - c.base - 1 < c.ents.length := by omega
      obtain ⟨⟨t, q⟩, hx⟩ : ∃ x, c.ents[i - c.base - 1]? = some x := ⟨_, List.getElem?_eq_getElem hk⟩
      have e1 : c.at i = some (t, q) := by rw [CT.at, if_neg (by omega), hx]
      rw [e1]
      have H0 := h.later ((Below.refl _ _).alloc (Nat.le_refl _) (.cells #[.int .u64 0, .string ⟨#[]⟩] 70))
      obtain ⟨a, cp, rfl, hcp, _, hsp⟩ := h.2.1.shape
      obtain ⟨a', cp', e0, _, hcells⟩ := H0.2.1.sl
      injection e0 with e2 e3 e4
      subst e2
      obtain ⟨g, o, rfl, hg, hcs⟩ := hcells (fun e => by rw [e] at hk; simp at hk)
      obtain rfl : o = 0 := by have := hsp _ rfl; simpa using this
      obtain ⟨d0, d1⟩ := hcs _ _ hx
      rw [Nat.zero_add] at d0 d1
      have HL' := Lib.hid (HL.out _ H0)
      obtain ⟨c0, c1, c2, c3, c4, c5⟩ := h.cells
      obtain ⟨g0, g1, g2, g3, g4, g5⟩ := H0.cells
      obtain ⟨k, hkk⟩ : ∃ k, k = i - c.base - 1 := ⟨_, rfl⟩
      have hi1 : IntKind.u64.wrap (IntKind.u64.wrap ((i : Int) - (c.base : Int)) - 1) = (k : Int) := by
        have e : ∀ x : Int, IntKind.u64.wrap x = x % 18446744073709551616 := fun x => by simp [IntKind.wrap, IntKind.signed, IntKind.bits]
        rw [e, e]; unfold m64 at hc; omega
      have hi2 : (i : Int) - (c.base : Int) - 1 = (k : Int) := by omega
      have hkI : (k : Int) < (c.ents.length : Int) := by omega
      have hk0 : (0 : Int) ≤ (k : Int) := by omega
      rw [← hkk] at d0 d1
      clear c0 c1 c3 c4 g0 g1 g3 g4 h hl hlast e1 h1 h2 H0 HL hcells hcs hx hkk e3 e4 hc hk
      go_enter Tryz.func81, Tryz.ntmps81
      go_wp2_with fail
      refine HL'.out.mono ?_
      rintro e w1 ⟨rfl, n1, rfl⟩
      go_wp2_with fail
      clear hsp
      go_region
      all_goals
        go_wp2_with fail
        exact bodyPost_ret (v := .tuple #[entV (some (t, q)), .bool (some (t, q) : Option Ent).isSome]) (by simp [results, Tryz.results81, go_sem, entV]) rfl ⟨rfl, by
          have h1 : Below w.heap.size w (w.alloc (.cells #[.int .u64 0, .string ⟨#[]⟩] 70)) := (Below.refl _ _).alloc (Nat.le_refl _) _
          exact ((h1.trans ((Same.of _ (n1 + 1)).below _)).setCell (Nat.le_refl _) _).setCell (Nat.le_refl _) _⟩

/-- The term at an index. -/
def CT.termAt (c : CT) (i : Nat) : Option Nat := if i = c.base then some c.bterm else (c.at i).map (·.1)
def numV : Option Nat → Value
  | some n => .int .u64 (n : Int)
  | none => .int .u64 0
set_option maxHeartbeats 1000000 in
set_option maxRecDepth 100000 in
theorem termAt_prog {ty : TypeId} {X : List Value} (b : Nat) (v : Value) (c : CT) (i : Nat) (w : World) (h : CtAt w b ty X v c) (hl : c.ents.length ≤ 10000000000) (hc : c.base + c.ents.length < m64) :
    Calls Tryz.prog 148 #[.pointer (some ⟨b, 0, none⟩), .int .u64 (i : Int)] w fun e w' => e = .returned (.tuple #[numV (c.termAt i), .bool (c.termAt i).isSome]) ∧ Below w.heap.size w w' := by
  have H := Lib.hid (at_prog b v c i w h hl hc)
  obtain ⟨c0, c1, c2, c3, c4, c5⟩ := h.cells
  clear c0 c1 c4 c5 h hl hc
  by_cases h1 : i = c.base
  · have h1I : ((i : Int) == (c.base : Int)) = true := by simp [h1]
    have e1 : c.termAt i = some c.bterm := by simp [CT.termAt, h1]
    rw [e1]
    clear e1 h1
    go_enter Tryz.func148, Tryz.ntmps148
    go_wp2_with fail
    go_ret2
    exact ⟨rfl, Below.refl _ _⟩
  · have h1I : ((i : Int) == (c.base : Int)) = false := by simp; omega
    have e1 : c.termAt i = (c.at i).map (·.1) := by simp [CT.termAt, h1]
    rw [e1]
    obtain ⟨x, hx⟩ : ∃ x, c.at i = x := ⟨_, rfl⟩
    rw [hx] at H ⊢
    clear e1 h1 hx
    cases x with
    | none =>
      unfold entV at H
      go_enter Tryz.func148, Tryz.ntmps148
      go_wp2_with fail
      refine H.out.mono ?_
      rintro e w1 ⟨rfl, hb1⟩
      have HB := Lib.hid (hb1.trans ((Below.refl w1.heap.size w1).alloc (Nat.le_refl _) (.cells #[.int .u64 0, .string ⟨#[]⟩] 70) |>.mono hb1.size))
      clear hb1
      go_wp2_with fail
      go_ret2
      exact ⟨rfl, HB.out⟩
    | some y =>
      unfold entV at H
      go_enter Tryz.func148, Tryz.ntmps148
      go_wp2_with fail
      refine H.out.mono ?_
      rintro e w1 ⟨rfl, hb1⟩
      have HB := Lib.hid (hb1.trans ((Below.refl w1.heap.size w1).alloc (Nat.le_refl _) (.cells #[.int .u64 (y.1 : Int), .string y.2] 70) |>.mono hb1.size))
      clear hb1
      go_wp2_with fail
      go_ret2
      exact ⟨rfl, HB.out⟩
end Go.Proofs.YtflkdgghpmhbgaaGreat
namespace Go.Proofs.YtflkdgghpmhbgaaGreat
open Go.RowKit

/-- s[l:]. -/
theorem slice_from (a : Option Addr) (n cp l : Nat) (h : l ≤ n) (W : World) : (Instr.slice 38 (.slice a n cp) (some (.int .i64 (l : Int))) none none).run Tryz.prog W =
    .ok (.slice (if cp = l then a else a.map (·.add (l * 2))) (n - l) (cp - l)) W := by
  simp [Instr.slice, Instr.sliceBounds, Instr.sliceBound, asIntOf, run_underlying Tryz.underlying38, h]
/-- s[l:h]. -/
theorem slice_both (a : Option Addr) (n cp l h : Nat) (h1 : l ≤ h) (h2 : h ≤ cp) (W : World) : (Instr.slice 38 (.slice a n cp) (some (.int .i64 (l : Int))) (some (.int .i64 (h : Int))) none).run Tryz.prog W =
    .ok (.slice (if cp = l then a else a.map (·.add (l * 2))) (h - l) (cp - l)) W := by
  simp [Instr.slice, Instr.sliceBounds, Instr.sliceBound, asIntOf, run_underlying Tryz.underlying38, h1, h2]
/-- s[:h]. -/
theorem slice_to (a : Option Addr) (n cp h : Nat) (h2 : h ≤ cp) (W : World) : (Instr.slice 38 (.slice a n cp) none (some (.int .i64 (h : Int))) none).run Tryz.prog W =
    .ok (.slice (if cp = 0 then a else a.map (·.add 0)) h cp) W := by
  simp [Instr.slice, Instr.sliceBounds, Instr.sliceBound, asIntOf, run_underlying Tryz.underlying38, h2]

set_option maxHeartbeats 1000000 in
set_option maxRecDepth 100000 in
theorem insert_prog (s v : Value) (E E2 : List Ent) (w : World) (h : EOwn w 0 s E) (hv : ESl w v E2) (hl : E.length + E2.length ≤ 1000000000) :
    Calls Tryz.prog 165 #[s, .int .i64 (E.length : Int), v] w fun e w' => ∃ v', e = .returned v' ∧ EOwn w' 0 v' (E ++ E2) ∧ Grew w s w' v' := by
  have H := Lib.hid h
  have HV := Lib.hid hv
  have HL := Lib.hid hl
  obtain ⟨a, cp, rfl, hcp, hcm, hsp⟩ := h.shape
  obtain ⟨a2, cp2, rfl, hcp2, _⟩ := hv
  have h1 : (E.length : Int) ≤ 1000000000 := by omega
  have h2 : (E2.length : Int) ≤ 1000000000 := by omega
  have hcpI : (E.length : Int) ≤ (cp : Int) := by omega
  unfold maxLen at hcm
  have hs1 := slice_from a E.length cp E.length (Nat.le_refl _) w
  obtain ⟨X, hX⟩ : ∃ X, (Value.slice (if cp = E.length then a else a.map (·.add (E.length * 2))) (E.length - E.length) (cp - E.length)) = X := ⟨_, rfl⟩
  rw [hX] at hs1
  clear h hl hsp hcp2 hX
  by_cases h0 : E2 = []
  · subst h0
    have e0 : ((([] : List Ent).length : Nat) : Int) = 0 := rfl
    rw [List.append_nil]
    go_enter Tryz.func165, Tryz.ntmps165
    go_wp2_with fail
    go_ret
    exact ⟨_, rfl, H.out, Grew.refl _ _⟩
  · have hne : E2.length ≠ 0 := fun e => h0 (List.eq_nil_of_length_eq_zero e)
    have hneI : ((E2.length : Int) == 0) = false := by simp; exact h0
    clear h0 hne
    go_enter Tryz.func165, Tryz.ntmps165
    go_wp2_with (at_builtin; refine list_appE rfl _ _ rfl 0 _ E rfl H.out _ E2 rfl HV.out HL.out (Nat.zero_le _) ?_)
    intro v' w' ho hg
    obtain ⟨a3, c3, hv3, _⟩ := ho.shape
    obtain ⟨m, hm⟩ : ∃ m, (E ++ E2).length = m := ⟨_, rfl⟩
    rw [hm] at hv3
    subst hv3
    have HO := Lib.hid ho
    have HG := Lib.hid hg
    clear ho hg hm
    go_wp2_with fail
    go_ret
    exact ⟨_, rfl, HO.out, HG.out⟩

/-- append into the room behind what is owned. -/
theorem appE_room {w : World} {g n cp ty : Nat} {l m : List Ent} {xv : Value} (h : EOwn w 0 (.slice (some ⟨g, 0, none⟩) n cp) l) (hn : l.length = n) (hx : ESl w xv m) (hroom : n + m.length ≤ cp) :
    ∃ w', (Builtin.append_ #[38, 38] ty #[.slice (some ⟨g, 0, none⟩) n cp, xv]).run Tryz.prog w = .ok (.slice (some ⟨g, 0, none⟩) (n + m.length) cp) w' ∧ EOwn w' 0 (.slice (some ⟨g, 0, none⟩) (n + m.length) cp) (l ++ m) ∧ Only g w w' := by
  obtain ⟨i, hi, hz, hsz, hby⟩ := info_parts Tryz.entSl.info
  obtain ⟨ad, c, rfl, _, hcells⟩ := hx
  by_cases hm : m = []
  · subst hm
    exact ⟨w, run_append_empty (P := Tryz.prog) (w := w) 0 38 ty 70 i 2 Tryz.underlying38 hi _ l.length (entC l) h ad c, by simpa using h, Only.refl _ _⟩
  · obtain ⟨g2, o2, rfl, hg2, hc⟩ := hcells hm
    rcases h.2 with ⟨h1, _⟩ | ⟨g', cap', cur, he, hB, hg, hnc, hcm, hcs, ht⟩
    · cases h1
    · injection he with h5 h6 h7
      injection h5 with h5
      obtain rfl : g = g' := by simpa using h5
      subst h7
      have hlen : (entC m).length = m.length * i.size := by rw [entC_length, hsz]
      have hfit : n * 2 + (entC m).length ≤ cur.size := by rw [entC_length, hcs]; omega
      have hr := run_append_room_cells (P := Tryz.prog) w 38 ty 70 i Tryz.underlying38 hi g 0 n cp ⟨g2, o2, none⟩ m.length c (entC m) hlen (fun j u hu => by
        have := ESl.news hc j u hu
        unfold Addr.add
        split
        · rename_i h0; subst h0; simpa using this
        · exact this) (entC_one m) hroom (fun j hj => by
          have : n * i.size + j < cur.size := by rw [hsz]; omega
          simp [World.cell?, hg, this]) (fun j _ => by simp [World.frozen?, hg])
      rw [hsz, Nat.zero_add] at hr
      obtain ⟨q1, q2⟩ := setCells_heap (entC m) w g (n * 2) cur 70 hg hfit
      refine ⟨_, hr, ⟨entC_length _, .inr ⟨g, cp, _, by rw [List.length_append, hn], hB, q1, by rw [List.length_append]; omega, hcm, ?_, ?_⟩⟩, q2⟩
      · simp only [List.size_toArray, List.length_append, List.length_take, List.length_drop, Array.length_toList]
        omega
      · have hcl : (cur.toList.take (n * 2) ++ entC m).length = (l ++ m).length * 2 := by
          rw [List.length_append, entC_length, List.length_append, List.length_take, Array.length_toList]; omega
        rw [List.toList_toArray, ← hcl, List.take_left, entC_append, ← ht, hn]
theorem list_appR {P : Program} {w : World} {ops : Array Oper} {rest : List Oper} {o : Oper} {a : Act} {Q : Exit → Act → World → Prop} (hgd : o.guard = none) (sl x : Operand) (t u : TypeId)
    (ho : o.op = .call { callee := .builtin .append, args := #[sl, x], argTypes := #[t, u] })
    (v xv v' : Value) (W : World) (hs : a.eval sl = v) (hx : a.eval x = xv) (hr : (Builtin.append_ #[t, u] o.type #[v, xv]).run P w = .ok v' W)
    (h : wpList P ops Q rest (a.put o.dst v') W) : wpList P ops Q (o :: rest) a w := by
  refine wpList_plain hgd fun K hK => ?_
  unfold Oper.wp execOp
  simp only [ho, resolve, invoke, builtin, Sem.run_bind, Sem.run_pure, Result.andThen_ok, List.map_toArray, List.map_cons, List.map_nil, hs, hx, hr]
  exact hK _ _ h
theorem Grew.ofOnly {g n n' c c' : Nat} {w w' : World} (h : Only g w w') : Grew w (.slice (some ⟨g, 0, none⟩) n c) w' (.slice (some ⟨g, 0, none⟩) n' c') :=
  ⟨⟨h.os, h.tape, h.output, h.size, fun k hk hne => h.block k hk (fun e => hne (by rw [e]; rfl))⟩, fun _ h => .inl h⟩

set_option maxHeartbeats 2000000 in
set_option maxRecDepth 100000 in
theorem replace_prog (s v : Value) (E E2 : List Ent) (i : Nat) (w : World) (h : EOwn w 0 s E) (hv : ESl w v E2) (hi : i ≤ E.length) (hl : E.length + E2.length ≤ 1000000000) :
    Calls Tryz.prog 147 #[s, .int .i64 (i : Int), .int .i64 (E.length : Int), v] w fun e w' => ∃ v', e = .returned v' ∧ EOwn w' 0 v' (E.take i ++ E2) ∧ Grew w s w' v' := by
  have H := Lib.hid h
  have HV := Lib.hid hv
  have HL := Lib.hid hl
  have HI := Lib.hid hi
  have HIN := Lib.hid (fun e : i = E.length => e ▸ insert_prog s v E E2 w h hv hl)
  obtain ⟨a, cp, rfl, hcp, hcm, hsp⟩ := h.shape
  obtain ⟨a2, cp2, rfl, hcp2, _⟩ := hv
  have h1 : (E.length : Int) ≤ 1000000000 := by omega
  have h2 : (E2.length : Int) ≤ 1000000000 := by omega
  have hcpI : (E.length : Int) ≤ (cp : Int) := by omega
  have hiI : (i : Int) ≤ (E.length : Int) := by omega
  unfold maxLen at hcm
  have hs1 := slice_both a E.length cp i E.length hi hcp w
  obtain ⟨X, hX⟩ : ∃ X, (Value.slice (if cp = i then a else a.map (·.add (i * 2))) (E.length - i) (cp - i)) = X := ⟨_, rfl⟩
  rw [hX] at hs1
  clear hcp2 hX
  by_cases h0 : i = E.length
  · have HK := Lib.hid (HIN.out h0)
    subst h0
    rw [List.take_length]
    clear HIN h hl hsp hi
    go_enter Tryz.func147, Tryz.ntmps147
    go_wp2_with fail
    refine HK.out.mono ?_
    rintro e w1 ⟨v', rfl, ho, hg⟩
    obtain ⟨a3, c3, hv3, _⟩ := ho.shape
    obtain ⟨m, hm⟩ : ∃ m, (E ++ E2).length = m := ⟨_, rfl⟩
    rw [hm] at hv3
    subst hv3
    have HO := Lib.hid ho
    have HG := Lib.hid hg
    clear ho hg hm
    go_wp2_with fail
    go_ret
    exact ⟨_, rfl, HO.out, HG.out⟩
  · have hneI : ((i : Int) == (E.length : Int)) = false := by simp; omega
    obtain ⟨g, rfl⟩ : ∃ g, a = some ⟨g, 0, none⟩ := by
      rcases EOwn.zero 0 h with h3 | ⟨_, _, h3⟩
      · exact h3
      · exfalso; apply h0; rw [h3] at hi ⊢; simpa using hi
    have hcut := h.cut i hi
    have hs2 := slice_to (some ⟨g, 0, none⟩) E.length cp i (by omega) w
    have e3 : (if cp = 0 then some (⟨g, 0, none⟩ : Addr) else (some (⟨g, 0, none⟩ : Addr)).map (·.add 0)) = some ⟨g, 0, none⟩ := by split <;> rfl
    rw [e3] at hs2
    have hti : (E.take i).length = i := by rw [List.length_take]; omega
    have HT := Lib.hid hti
    have HC := Lib.hid hcut
    clear HIN h hsp hcut e3 hti
    by_cases hb : i + E2.length < E.length
    · have hbI : (i : Int) + (E2.length : Int) < (E.length : Int) := by omega
      obtain ⟨w1, hr1, ho1, hon1⟩ := appE_room (ty := 38) HC.out HT.out HV.out (by omega)
      have hlen : (E.take i ++ E2).length = i + E2.length := by rw [List.length_append, HT.out]
      obtain ⟨w2, hr2, ho2, hon2⟩ := clear_behind (ty := 0) ho1 hlen hb hcp
      have hs3 := slice_from (some ⟨g, 0, none⟩) E.length cp (i + E2.length) (Nat.le_of_lt hb) w1
      have e4 : (if cp = i + E2.length then some (⟨g, 0, none⟩ : Addr) else (some (⟨g, 0, none⟩ : Addr)).map (·.add ((i + E2.length) * 2))) = some ⟨g, (i + E2.length) * 2, none⟩ := by
        rw [if_neg (by omega)]
        simp only [Option.map_some, Addr.add_mid, Nat.zero_add]
      rw [e4] at hs3
      have hip : ((i + E2.length : Nat) : Int) = (i : Int) + (E2.length : Int) := by omega
      rw [hip] at hs3
      have HO := Lib.hid ho2
      have HG : Hid (Grew w (.slice (some ⟨g, 0, none⟩) E.length cp) w2 (.slice (some ⟨g, 0, none⟩) (i + E2.length) cp)) := Lib.hid (Grew.ofOnly (hon1.trans hon2))
      clear ho1 hon1 ho2 hon2 hlen e4 hb hi hl hip h0
      go_enter Tryz.func147, Tryz.ntmps147
      go_wp2_with (at_builtin; refine list_appR rfl _ _ _ _ rfl _ _ _ w1 rfl rfl hr1 ?_)
      go_wp2_with fail
      go_ret
      exact ⟨_, rfl, HO.out, HG.out⟩
    · have hbI : ¬ ((i : Int) + (E2.length : Int) < (E.length : Int)) := by omega
      clear hb h0
      go_enter Tryz.func147, Tryz.ntmps147
      go_wp2_with (at_builtin; refine list_appE rfl _ _ rfl 0 _ (E.take i) rfl HC.out _ E2 rfl HV.out (by have := HT.out; have := HL.out; have := HI.out; omega) (Nat.zero_le _) ?_)
      intro v' w' ho hg
      have hlen : (E.take i ++ E2).length = i + E2.length := by rw [List.length_append, HT.out]
      obtain ⟨a3, c3, hv3, hc3, hm3, hsp3⟩ := ho.shape
      rw [hlen] at hv3 hc3
      subst hv3
      have HO := Lib.hid ho
      have HG := Lib.hid hg
      clear ho hg hlen hsp3
      go_wp2_with fail
      go_ret
      exact ⟨_, rfl, HO.out, HG.out.grow, HG.out.loc⟩
end Go.Proofs.YtflkdgghpmhbgaaGreat
