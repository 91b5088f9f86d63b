/- disk: the reference. -/
import Derived.Test.YtalndhnpeapdlaaDDisk2
namespace Go.Proofs.Ytalndhnpeapdlaa
open Go.RowKit

/-- From w to w' block b alone has turned, beside new blocks. -/
structure But (b : Nat) (w w' : World) : Prop where
  os : w'.os = w.os
  tape : w'.tape = w.tape
  output : w'.output = w.output
  size : w.heap.size ≤ w'.heap.size
  block : ∀ k, k < w.heap.size → k ≠ b → w'.heap[k]? = w.heap[k]?
theorem But.refl (b : Nat) (w : World) : But b w w := ⟨rfl, rfl, rfl, Nat.le_refl _, fun _ _ _ => rfl⟩
theorem But.below {b B : Nat} {w w' : World} (h : But b w w') (hB : B ≤ b) (hw : B ≤ w.heap.size) : Below B w w' := ⟨h.os, h.tape, h.output, h.size, fun k hk => h.block k (by omega) (by omega)⟩
theorem But.ofBelow {b : Nat} {w w' : World} (h : Below w.heap.size w w') : But b w w' := ⟨h.os, h.tape, h.output, h.size, fun k hk _ => h.block k hk⟩
theorem But.trans {b : Nat} {w1 w2 w3 : World} (h : But b w1 w2) (k : But b w2 w3) : But b w1 w3 := ⟨k.os.trans h.os, k.tape.trans h.tape, k.output.trans h.output, Nat.le_trans h.size k.size, fun j hj hn => (k.block j (Nat.lt_of_lt_of_le hj h.size) hn).trans (h.block j hj hn)⟩
theorem But.set (b o : Nat) (w : World) (v : Value) : But b w (w.setCell ⟨b, o, none⟩ v) := ⟨rfl, rfl, rfl, by simp, fun k _ hn => by
  exact heap_setCell_other w ⟨b, o, none⟩ k v hn⟩

/-- Block b is the reference's disk. -/
def Rf (w : World) (b : Nat) (S U : ByteArray) (f : Int) (off : Bool) : Prop := w.heap[b]? = some (.cells #[.string S, .string U, .int .i64 f, .bool off] 37 (0, 0))
section
variable {w w' : World} {b : Nat} {S U : ByteArray} {f : Int} {off : Bool}
theorem Rf.lt (h : Rf w b S U f off) : b < w.heap.size := (Array.getElem?_eq_some_iff.1 h).1
theorem Rf.cells (h : Rf w b S U f off) : w.cell? ⟨b, 0, none⟩ = some (.string S) ∧ w.cell? ⟨b, 1, none⟩ = some (.string U) ∧ w.cell? ⟨b, 2, none⟩ = some (.int .i64 f) ∧ w.cell? ⟨b, 3, none⟩ = some (.bool off) := by
  unfold Rf at h
  simp [World.cell?, h]
theorem Rf.free (h : Rf w b S U f off) : w.frozen? ⟨b, 0, none⟩ = false ∧ w.frozen? ⟨b, 1, none⟩ = false ∧ w.frozen? ⟨b, 2, none⟩ = false ∧ w.frozen? ⟨b, 3, none⟩ = false := by
  unfold Rf at h
  simp [World.frozen?, h]
theorem Rf.keep (h : Rf w b S U f off) (hb : w'.heap[b]? = w.heap[b]?) : Rf w' b S U f off := by unfold Rf at *; rw [hb]; exact h
theorem Rf.later (h : Rf w b S U f off) (hb : Below w.heap.size w w') : Rf w' b S U f off := h.keep (hb.block b h.lt)
theorem Rf.drewN (h : Rf w b S U f off) (n : Nat) : Rf (w.drewN n) b S U f off := h
theorem Rf.set0 (h : Rf w b S U f off) (x : ByteArray) : Rf (w.setCell ⟨b, 0, none⟩ (.string x)) b x U f off := heap_setCell_same w b 0 _ _ _ h
theorem Rf.set1 (h : Rf w b S U f off) (x : ByteArray) : Rf (w.setCell ⟨b, 1, none⟩ (.string x)) b S x f off := heap_setCell_same w b 1 _ _ _ h
theorem Rf.set2 (h : Rf w b S U f off) (x : Int) : Rf (w.setCell ⟨b, 2, none⟩ (.int .i64 x)) b S U x off := heap_setCell_same w b 2 _ _ _ h
theorem Rf.set3 (h : Rf w b S U f off) (x : Bool) : Rf (w.setCell ⟨b, 3, none⟩ (.bool x)) b S U f x := heap_setCell_same w b 3 _ _ _ h
end

theorem new_ref (w : World) : Calls Try.prog 8 #[] w fun e w' => e = .returned (.pointer (some ⟨w.heap.size, 0, none⟩)) ∧ Rf w' w.heap.size ⟨#[]⟩ ⟨#[]⟩ (-1) false ∧ Below w.heap.size w w' := by
  go_enter Try.func8, Try.ntmps8
  go_wp2_with fail
  go_ret
  exact ⟨rfl, heap_alloc_new _ _, (Below.refl _ _).alloc (Nat.le_refl _) _⟩

/-- The reference's step: whether it is done, and what it leaves. -/
def rfOk (f : Int) (off : Bool) : Bool := !off && decide (f ≠ 0)
def rfOff (f : Int) (off : Bool) : Bool := off || decide (f = 0)
def rfF (f : Int) (off : Bool) : Int := if !off && decide (0 < f) then f - 1 else f

section
variable {w : World} {b : Nat} {S U : ByteArray} {f : Int} {off : Bool}
theorem step_ref (h : Rf w b S U f off) (h1 : -1 ≤ f) (h2 : f ≤ 9223372036854775807) : Calls Try.prog 22 #[.pointer (some ⟨b, 0, none⟩)] w fun e w' =>
    e = .returned (.int .i64 (errOf (rfOk f off))) ∧ Rf w' b S U (rfF f off) (rfOff f off) ∧ But b w w' := by
  obtain ⟨c0, c1, c2, c3⟩ := h.cells
  obtain ⟨z0, z1, z2, z3⟩ := h.free
  cases off
  · by_cases h0 : f = 0
    · subst h0
      go_enter Try.func22, Try.ntmps22
      go_wp2_with fail
      go_ret
      exact ⟨rfl, h.set3 true, But.set _ _ _ _⟩
    · have hf0 : (f == 0) = false := by simp only [beq_eq_false_iff_ne]; exact h0
      have e1 : rfOk f false = true := by simp [rfOk, h0]
      have e2 : rfOff f false = false := by simp [rfOff, h0]
      rw [e1, e2]
      clear e1 e2
      by_cases hp : 0 < f
      · have e3 : rfF f false = f - 1 := by simp [rfF, hp]
        have hf1 : (1 : Int) ≤ f := by omega
        rw [e3]
        clear e3 h0
        go_enter Try.func22, Try.ntmps22
        go_wp2_with fail
        go_ret
        exact ⟨rfl, h.set2 (f - 1), But.set _ _ _ _⟩
      · have e3 : rfF f false = f := by simp [rfF, hp]
        rw [e3]
        clear e3 h0
        go_enter Try.func22, Try.ntmps22
        go_wp2_with fail
        go_ret
        exact ⟨rfl, h, But.refl _ _⟩
  · go_enter Try.func22, Try.ntmps22
    go_wp2_with fail
    go_ret
    have e3 : rfF f true = f := by simp [rfF]
    rw [e3]
    exact ⟨rfl, h, But.refl _ _⟩

theorem append_ref (h : Rf w b S U f off) (h1 : -1 ≤ f) (h2 : f ≤ 9223372036854775807) (s : ByteArray) (hU : U.size ≤ 100000) (hs : s.size ≤ 100000) :
    Calls Try.prog 10 #[.pointer (some ⟨b, 0, none⟩), .string s] w fun e w' =>
      e = .returned (.int .i64 (errOf (rfOk f off))) ∧ Rf w' b S (if rfOk f off then U ++ s else U) (rfF f off) (rfOff f off) ∧ But b w w' := by
  have H := Lib.hid (step_ref h h1 h2)
  obtain ⟨f', hf'⟩ : ∃ f', f' = rfF f off := ⟨_, rfl⟩
  obtain ⟨o', ho'⟩ : ∃ o', o' = rfOff f off := ⟨_, rfl⟩
  rw [← hf', ← ho'] at H ⊢
  cases hok : rfOk f off
  · rw [hok] at H
    clear hf' ho' hok
    go_enter Try.func10, Try.ntmps10
    go_wp2_with fail
    refine H.out.mono ?_
    rintro e w1 ⟨rfl, hr, hb⟩
    unfold errOf
    go_wp2_with fail
    go_ret
    exact ⟨rfl, hr, hb⟩
  · rw [hok] at H
    clear hf' ho' hok
    go_enter Try.func10, Try.ntmps10
    go_wp2_with fail
    refine H.out.mono ?_
    rintro e w1 ⟨rfl, hr, hb⟩
    obtain ⟨c0, c1, c2, c3⟩ := hr.cells
    obtain ⟨z0, z1, z2, z3⟩ := hr.free
    unfold errOf
    go_wp2_with fail
    go_ret
    exact ⟨rfl, hr.set1 (U ++ s), hb.trans (But.set _ _ _ _)⟩

theorem sync_ref (h : Rf w b S U f off) (h1 : -1 ≤ f) (h2 : f ≤ 9223372036854775807) (hU : U.size ≤ 100000) (hs : S.size ≤ 100000) :
    Calls Try.prog 12 #[.pointer (some ⟨b, 0, none⟩)] w fun e w' =>
      e = .returned (.int .i64 (errOf (rfOk f off))) ∧ Rf w' b (if rfOk f off then S ++ U else S) (if rfOk f off then ⟨#[]⟩ else U) (rfF f off) (rfOff f off) ∧ But b w w' := by
  have H := Lib.hid (step_ref h h1 h2)
  obtain ⟨f', hf'⟩ : ∃ f', f' = rfF f off := ⟨_, rfl⟩
  obtain ⟨o', ho'⟩ : ∃ o', o' = rfOff f off := ⟨_, rfl⟩
  rw [← hf', ← ho'] at H ⊢
  cases hok : rfOk f off
  · rw [hok] at H
    clear hf' ho' hok
    go_enter Try.func12, Try.ntmps12
    go_wp2_with fail
    refine H.out.mono ?_
    rintro e w1 ⟨rfl, hr, hb⟩
    unfold errOf
    go_wp2_with fail
    go_ret
    exact ⟨rfl, hr, hb⟩
  · rw [hok] at H
    clear hf' ho' hok
    go_enter Try.func12, Try.ntmps12
    go_wp2_with fail
    refine H.out.mono ?_
    rintro e w1 ⟨rfl, hr, hb⟩
    obtain ⟨c0, c1, c2, c3⟩ := hr.cells
    obtain ⟨z0, z1, z2, z3⟩ := hr.free
    unfold errOf
    have hSU : ¬ (9223372036854775807 < S.size + U.size) := by omega
    go_wp2_with fail
    go_still_tail 12, (by kernel_rfl)
    change wpList _ _ _ _ _ w1.drew
    go_wp2_with fail
    go_ret
    refine ⟨rfl, ((hr.drewN 1).set0 (S ++ U)).set1 _, ?_⟩
    exact ((hb.trans (But.ofBelow (w' := w1.drew) ((Below.refl _ w1).drew))).trans (But.set b 0 _ (.string (S ++ U)))).trans (But.set _ _ _ _)

theorem swap_ref (h : Rf w b S U f off) (h1 : -1 ≤ f) (h2 : f ≤ 9223372036854775807) (s : ByteArray) :
    Calls Try.prog 14 #[.pointer (some ⟨b, 0, none⟩), .string s] w fun e w' =>
      e = .returned (.int .i64 (errOf (rfOk f off))) ∧ Rf w' b (if rfOk f off then s else S) (if rfOk f off then ⟨#[]⟩ else U) (rfF f off) (rfOff f off) ∧ But b w w' := by
  have H := Lib.hid (step_ref h h1 h2)
  obtain ⟨f', hf'⟩ : ∃ f', f' = rfF f off := ⟨_, rfl⟩
  obtain ⟨o', ho'⟩ : ∃ o', o' = rfOff f off := ⟨_, rfl⟩
  rw [← hf', ← ho'] at H ⊢
  cases hok : rfOk f off
  · rw [hok] at H
    clear hf' ho' hok
    go_enter Try.func14, Try.ntmps14
    go_wp2_with fail
    refine H.out.mono ?_
    rintro e w1 ⟨rfl, hr, hb⟩
    unfold errOf
    go_wp2_with fail
    go_ret
    exact ⟨rfl, hr, hb⟩
  · rw [hok] at H
    clear hf' ho' hok
    go_enter Try.func14, Try.ntmps14
    go_wp2_with fail
    refine H.out.mono ?_
    rintro e w1 ⟨rfl, hr, hb⟩
    obtain ⟨c0, c1, c2, c3⟩ := hr.cells
    obtain ⟨z0, z1, z2, z3⟩ := hr.free
    unfold errOf
    go_wp2_with fail
    go_ret
    exact ⟨rfl, (hr.set0 s).set1 _, (hb.trans (But.set _ _ _ _)).trans (But.set _ _ _ _)⟩

theorem crash_ref (h : Rf w b S U f off) (x : Int) (hU : U.size ≤ 100000) (hs : S.size ≤ 100000) :
    Calls Try.prog 17 #[.pointer (some ⟨b, 0, none⟩), .int .i64 x] w fun e w' =>
      e = .returned (.tuple #[]) ∧ Rf w' b (S ++ U.extract 0 (min x.toNat U.size)) ⟨#[]⟩ (-1) false ∧ But b w w' := by
  obtain ⟨c0, c1, c2, c3⟩ := h.cells
  obtain ⟨z0, z1, z2, z3⟩ := h.free
  obtain ⟨m, hm⟩ : ∃ m, m = min x.toNat U.size := ⟨_, rfl⟩
  rw [← hm]
  obtain ⟨X, hX⟩ : ∃ X, (if x < 0 then 0 else x) = X := ⟨_, rfl⟩
  have hM : (if (U.size : Int) < X then (U.size : Int) else X) = (m : Int) := by split <;> split at hX <;> omega
  have hmU : (m : Int) ≤ (U.size : Int) := by omega
  have hm0 : (0 : Int) ≤ (m : Int) := by omega
  have HS : (U.extract 0 m).size = m := extract_size U m (by omega)
  obtain ⟨V, hV⟩ : ∃ V, U.extract 0 m = V := ⟨_, rfl⟩
  rw [hV] at HS ⊢
  have hSV : ¬ (9223372036854775807 < S.size + V.size) := by omega
  clear hm HS
  go_enter Try.func17, Try.ntmps17
  go_wp2_with fail
  go_still_tail 14, (by kernel_rfl)
  change wpList _ _ _ _ _ w.drew
  go_wp2_with fail
  go_end0
  refine ⟨rfl, ((((h.drewN 1).set0 (S ++ V)).set1 _).set3 false).set2 (-1), ?_⟩
  exact ((((But.ofBelow (w' := w.drew) ((Below.refl _ w).drew)).trans (But.set b 0 _ (.string (S ++ V)))).trans (But.set b 1 _ (.string ⟨#[]⟩))).trans (But.set b 3 _ (.bool false))).trans (But.set b 2 _ (.int .i64 (-1)))
end
end Go.Proofs.Ytalndhnpeapdlaa
