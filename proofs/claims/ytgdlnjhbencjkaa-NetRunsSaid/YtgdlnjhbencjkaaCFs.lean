/- strings.Clone, codec.N, S, firstSize. -/
import Derived.Test.YtgdlnjhbencjkaaCPlain
import Derived.Test.YtgdlnjhbencjkaaCSize
import Derived.Lib.BufferWrite
import Derived.Lib.UnsafeStr
import Derived.Laws.MakeOwn
import Derived.Deep.RegionHeld3
import Derived.Deep.QuietTactic
import Derived.BigQuiet
namespace Go.Proofs.Ytgdlnjhbencjkaa
open Go.RowKit

set_option maxHeartbeats 4000000 in
set_option maxRecDepth 100000 in
theorem lclone_prog (s : ByteArray) (w : World) (hlim : s.size ≤ 281474976710656) :
    Calls Try.prog 62 #[.string s] w fun e w' => e = .returned (.string s) ∧ Below w.heap.size w w' := by
  by_cases h0 : s.size = 0
  · have hs : s = ⟨#[]⟩ := ByteArray.ext (Array.eq_empty_of_size_eq_zero h0)
    subst hs
    go_enter Try.func62, Try.ntmps62
    go_wp2
    go_ret
    exact ⟨rfl, Below.refl _ _⟩
  · have info5 : (Try.prog.info? 5).map (fun i => (i.zero, i.size, i.bytes)) = some (some (.int .u8 0), 1, 1) := by kernel_rfl
    obtain ⟨i0, hi, hz0, hz1, hz2⟩ := info_parts info5
    have hinfo : (Try.prog.info? 5).map (·.size) = some 1 := by rw [hi]; simp [hz1]
    have hco : Try.prog.cellsOf 5 = 1 := by simp [Program.cellsOf, hi, hz1]
    obtain ⟨M, hM⟩ : ∃ M, M = madeCells (Value.int .u8 0).cells (((s.size : Nat) : Int).toNat * i0.size) := ⟨_, rfl⟩
    have hMs : M.size = s.size := by rw [hM, size_madeCells, hz1]; simp
    have hmk : ∀ W : World, (Instr.makeSlice 90 (.int .i64 (s.size : Int)) (.int .i64 (s.size : Int))).run Try.prog W = .ok (.slice (some ⟨W.heap.size, 0, none⟩) s.size s.size) (W.alloc (.cells M 5)) := fun W => by
      have h := run_make (P := Try.prog) W 90 5 i0 (.int .u8 0) Try.underlying90 hi hz0 .i64 .i64 (s.size : Int) (s.size : Int) (by omega) (by omega) (by rw [hz2]; omega) (by omega)
      rw [← hM] at h
      simpa using h
    clear hM
    have hcp := Lib.run_copy_row_string (P := Try.prog) (w.alloc (.cells M 5)) 90 9 3 5 w.heap.size 0 s.size s.size s M 5 Try.underlying90 hinfo (heap_alloc_new w _) (Nat.le_refl _) (by omega)
    obtain ⟨Y, hY⟩ : ∃ Y, Y = (M.toList.take 0 ++ Lib.byteCells s.data.toList ++ M.toList.drop (0 + s.size)).toArray := ⟨_, rfl⟩
    rw [← hY] at hcp
    have hYl : Y.toList = Lib.byteCells s.data.toList := by
      rw [hY, List.toList_toArray, List.take_zero, List.nil_append, List.drop_of_length_le (by rw [Array.length_toList]; omega), List.append_nil]
    have hYs : Y.size = s.size := by rw [← Array.length_toList, hYl, Lib.byteCells_length, ← Lib.size_eq]
    have hgY : ((w.alloc (.cells M 5)).setRow w.heap.size Y).heap[w.heap.size]? = some (.cells Y 5 (0, 0)) := setRow_heap _ _ M _ 5 (0, 0) (heap_alloc_new w _)
    have hne : s.data.toList ≠ [] := fun e => h0 (by rw [Lib.size_eq, e]; rfl)
    have hUS := Lib.run_unsafeString_row (P := Try.prog) ((w.alloc (.cells M 5)).setRow w.heap.size Y) 108 3 9 5 Try.underlying108 hco w.heap.size Y.size (by unfold World.shape?; rw [hgY]) s.data.toList hne (by rw [← Lib.size_eq]; omega) (by rw [← Lib.size_eq]; omega)
      (fun j x hx => Lib.cells_of_row hgY Y.size j _ (by rw [List.take_of_length_le (by rw [Array.length_toList]; exact Nat.le_refl _), hYl]; simp [Lib.byteCells, hx]))
    rw [← Lib.size_eq] at hUS
    clear hY
    go_enter Try.func62, Try.ntmps62
    go_wp2
    go_ret
    have hb1 : Below w.heap.size w (w.alloc (.cells M 5)) := (Below.refl _ w).alloc (Nat.le_refl _) _
    have hb2 : Below w.heap.size (w.alloc (.cells M 5)) ((w.alloc (.cells M 5)).setRow w.heap.size Y) := ⟨rfl, rfl, rfl, by simp, fun k hk => setRow_other _ _ _ _ (by omega)⟩
    exact ⟨rfl, Lib.below_freeze (hb1.trans hb2) (p := ⟨w.heap.size, 0, none⟩) (Nat.le_refl _) _⟩

theorem clone_prog (s : ByteArray) (w : World) (hlim : s.size ≤ 281474976710656) :
    Calls Try.prog 61 #[.string s] w fun e w' => e = .returned (.string s) ∧ Below w.heap.size w w' := by
  have H := Lib.hid (lclone_prog s w hlim)
  go_enter Try.func61, Try.ntmps61
  go_wp2_with fail
  refine H.out.mono ?_
  rintro e w1 ⟨rfl, hb⟩
  go_wp2
  go_ret
  exact ⟨rfl, hb⟩

theorem n_prog (n : Int) (w : World) : Calls Try.prog 31 #[.int .u64 n] w fun e w' => e = .returned (nodeV 0 n ⟨#[]⟩ (.slice none 0 0)) ∧ Below w.heap.size w w' := by
  go_enter Try.func31, Try.ntmps31
  go_wp2
  exact bodyPost_ret (v := nodeV 0 n ⟨#[]⟩ (.slice none 0 0)) (by simp [results, Try.results31, go_sem, nodeV]) rfl ⟨rfl, (Below.refl _ _).alloc (Nat.le_refl _) _⟩
theorem s_prog (s : ByteArray) (w : World) : Calls Try.prog 34 #[.string s] w fun e w' => e = .returned (nodeV 1 0 s (.slice none 0 0)) ∧ Below w.heap.size w w' := by
  go_enter Try.func34, Try.ntmps34
  go_wp2
  exact bodyPost_ret (v := nodeV 1 0 s (.slice none 0 0)) (by simp [results, Try.results34, go_sem, nodeV]) rfl ⟨rfl, (Below.refl _ _).alloc (Nat.le_refl _) _⟩


def szQ (i acc f : Nat) (l : List UInt8) : Option (Nat × List UInt8) :=
  match szP f l with
  | none => none
  | some (m, q) => if 0 < i ∧ m = 0 then none else some (acc + 128 ^ i * m, q)
theorem szQ_start (f : Nat) (l : List UInt8) : szQ 0 0 f l = szP f l := by
  unfold szQ
  cases szP f l with
  | none => rfl
  | some p => simp
theorem szQ_step (i acc f : Nat) (c : UInt8) (r : List UInt8) (h : 128 ≤ c.toNat) : szQ i acc (f + 1) (c :: r) = szQ (i + 1) (acc + 128 ^ i * (c.toNat % 128)) f r := by
  unfold szQ
  rw [szP, if_neg (by omega)]
  cases szP f r with
  | none => rfl
  | some p =>
    obtain ⟨m, q⟩ := p
    simp only []
    by_cases hm : m = 0
    · rw [if_pos hm, if_pos ⟨by omega, hm⟩]
    · rw [if_neg hm, if_neg (by omega)]
      simp only []
      rw [if_neg (by omega)]
      congr 2
      rw [Nat.pow_succ, Nat.mul_add, ← Nat.mul_assoc, Nat.add_assoc]
theorem szQ_last (i acc f : Nat) (c : UInt8) (r : List UInt8) (h : c.toNat < 128) : szQ i acc (f + 1) (c :: r) = if 0 < i ∧ c.toNat = 0 then none else some (acc + 128 ^ i * c.toNat, r) := by
  unfold szQ
  rw [szP, if_pos h]
theorem szQ_end (i acc f : Nat) (l : List UInt8) (h : f = 0 ∨ l = []) : szQ i acc f l = none := by
  unfold szQ
  rcases h with rfl | rfl
  · simp [szP]
  · cases f <;> simp [szP]

def FsRes (l : List UInt8) (w : World) (e : Ending) (w' : World) : Prop :=
  ∃ (m : Nat) (r : ByteArray) (b : Bool), e = .returned (.tuple #[.int .i64 m, .string r, .bool b]) ∧ Same w w' ∧ (b = true → szP 4 l = some (m, r.data.toList)) ∧ (b = false → szP 4 l = none)
theorem FsEnd {a b : Int} {r r' : Value} {x y : Bool} (h : a = b) (hr : r = r') (hx : x = y) : Ending.returned (.tuple #[.int .i64 a, r, .bool x]) = .returned (.tuple #[.int .i64 b, r', .bool y]) := by rw [h, hr, hx]
def FsRel (s : ByteArray) (w : World) (a i : Value) (wr : World) : Prop :=
  ∃ (k acc : Nat), k ≤ 4 ∧ k ≤ s.size ∧ i = .int .i64 k ∧ a = .int .i64 acc ∧ acc < 128 ^ k ∧ Hid (szQ k acc (4 - k) (s.data.toList.drop k) = szP 4 s.data.toList) ∧ Same w wr

set_option maxRecDepth 30000 in
set_option maxHeartbeats 1000000 in
theorem firstSize_prog (s : ByteArray) (w : World) (hs : s.size ≤ 100000000) : Calls Try.prog 56 #[.string s] w (FsRes s.data.toList w) := by
  go_enter Try.func56, Try.ntmps56
  have hsI : (s.size : Int) ≤ 100000000 := by omega
  by_cases h4 : (4 : Int) ≤ (s.size : Int)
  all_goals
    go_wp2_with fail
    go_loopw [5, 10] (FsRel s w) (fun _ i _ => 4 - (intOf i).toNat)
    case atStart => exact ⟨0, 0, by omega, by omega, rfl, rfl, by omega, Lib.hid (by rw [szQ_start]; simp), Same.refl w⟩
    case round =>
      obtain ⟨k, acc, hk4, hks, rfl, rfl, hacc, hz, hsm⟩ := hrel
      by_cases hlt : k < 4 ∧ k < s.size
      · obtain ⟨hl4, hls⟩ := hlt
        have hdrop : s.data.toList.drop k = s[k] :: s.data.toList.drop (k + 1) := by
          rw [List.drop_eq_getElem_cons (by simpa using hls)]; rfl
        have hex : Hid ((s.extract (k + 1) s.size).data.toList = s.data.toList.drop (k + 1)) := Lib.hid (by simp only [ByteArray.data_extract, Array.toList_extract, List.extract_eq_take_drop]; exact List.take_of_length_le (by simp))
        obtain ⟨c, hc⟩ : ∃ c, c = s[k] := ⟨_, rfl⟩
        have hc256 := c.toNat_lt
        rw [hdrop, ← hc] at hz
        have HC := Lib.hid hc
        clear hdrop
        by_cases hcs : c.toNat < 128
        · have hlt : (c.toNat : Int) < 128 := by omega
          have hlast := szQ_last k acc (4 - k - 1) c (s.data.toList.drop (k + 1)) hcs
          rw [show 4 - k - 1 + 1 = 4 - k by omega] at hlast
          have hz' := hz.out
          rw [hlast] at hz'
          obtain ⟨A, hA⟩ : ∃ A, A = acc + 128 ^ k * c.toNat := ⟨_, rfl⟩
          rw [← hA] at hz'
          have HZ := Lib.hid hz'
          have HA := Lib.hid hA
          clear hA
          have hn : ¬ ((128 : Int) ≤ (c.toNat : Int)) := by omega
          clear hlast hz' hz hcs
          by_cases hpos : 0 < c.toNat
          · have hd0 : decide (0 < c.toNat) = true := by simpa using hpos
            have hp : (0 : Int) < (c.toNat : Int) := by omega
            rw [hc] at hlt hn hd0 hp
            clear hc
            have : k = 0 ∨ k = 1 ∨ k = 2 ∨ k = 3 := by omega
            rcases this with rfl | rfl | rfl | rfl
            all_goals (try (exfalso; omega))
            all_goals
              try have e1 : (1 : Int) ≤ (s.size : Int) := by omega
              try have e2 : (2 : Int) ≤ (s.size : Int) := by omega
              try have e3 : (3 : Int) ≤ (s.size : Int) := by omega
              try have e4 : (4 : Int) ≤ (s.size : Int) := by omega
              try have n1 : (1 : Int) < (s.size : Int) := by omega
              try have n2 : (2 : Int) < (s.size : Int) := by omega
              try have n3 : (3 : Int) < (s.size : Int) := by omega
              have w1 : IntKind.i64.wrap 1 = 1 := by decide
              have w2 : IntKind.i64.wrap 2 = 2 := by decide
              have w3 : IntKind.i64.wrap 3 = 3 := by decide
              have w4 : IntKind.i64.wrap 4 = 4 := by decide
              go_wp2_with fail
              go_quiet (fail)
              go_wp2
              go_ret3
              refine ⟨A, _, true, FsEnd (by rw [HA.out, HC.out]; omega) rfl rfl, hsm.trans (Same.of _ _), fun _ => ?_, (fun h => by cases h)⟩
              rw [← HZ.out, hex.out, if_neg (by omega)]
          · have hd0 : decide (0 < c.toNat) = false := by simpa using hpos
            have hp : ¬ (0 : Int) < (c.toNat : Int) := by omega
            have hc0 : Hid (c.toNat = 0) := Lib.hid (by omega)
            rw [hc] at hlt hn hd0 hp
            clear hc hpos
            have : k = 0 ∨ k = 1 ∨ k = 2 ∨ k = 3 := by omega
            rcases this with rfl | rfl | rfl | rfl
            all_goals (try (exfalso; omega))
            all_goals
              try have e1 : (1 : Int) ≤ (s.size : Int) := by omega
              try have e2 : (2 : Int) ≤ (s.size : Int) := by omega
              try have e3 : (3 : Int) ≤ (s.size : Int) := by omega
              try have e4 : (4 : Int) ≤ (s.size : Int) := by omega
              try have n1 : (1 : Int) < (s.size : Int) := by omega
              try have n2 : (2 : Int) < (s.size : Int) := by omega
              try have n3 : (3 : Int) < (s.size : Int) := by omega
              have w1 : IntKind.i64.wrap 1 = 1 := by decide
              have w2 : IntKind.i64.wrap 2 = 2 := by decide
              have w3 : IntKind.i64.wrap 3 = 3 := by decide
              have w4 : IntKind.i64.wrap 4 = 4 := by decide
              go_wp2_with fail
              go_quiet (fail)
              go_wp2
              go_ret3
              have HZ2 := HZ.out
              rw [hc0.out] at HZ2
              first
                | (refine ⟨A, _, true, FsEnd (by rw [HA.out, HC.out]; omega) rfl rfl, hsm.trans (Same.of _ _), fun _ => ?_, (fun h => by cases h)⟩
                   rw [hex.out, ← HZ2, if_neg (by omega)])
                | (refine ⟨A, _, false, FsEnd (by rw [HA.out, HC.out]; omega) rfl rfl, hsm.trans (Same.of _ _), (fun h => by cases h), fun _ => ?_⟩
                   rw [← HZ2, if_pos ⟨by omega, rfl⟩])
        · have hge : (128 : Int) ≤ (c.toNat : Int) := by omega
          have hstep := szQ_step k acc (4 - k - 1) c (s.data.toList.drop (k + 1)) (by omega)
          rw [show 4 - k - 1 + 1 = 4 - k by omega] at hstep
          rw [hstep] at hz
          obtain ⟨A, hA⟩ : ∃ A, A = acc + 128 ^ k * (c.toNat % 128) := ⟨_, rfl⟩
          rw [← hA] at hz
          have HA := Lib.hid hA
          clear hstep hcs hA
          have : k = 0 ∨ k = 1 ∨ k = 2 ∨ k = 3 := by omega
          rw [hc] at hge
          clear hc
          rcases this with rfl | rfl | rfl | rfl
          all_goals (try (exfalso; omega))
          all_goals
            go_wp2_with fail
            go_roundw
            case rel => exact ⟨_, A, by omega, by omega, by rfl, by rw [HA.out, HC.out]; congr 1; omega, by have := HA.out; omega, hz, hsm⟩
            case measure => rw [intOf_int, intOf_int]; omega
      · go_wp2_with fail
        go_ret3
        refine ⟨_, _, false, rfl, hsm, (fun h => by cases h), fun _ => ?_⟩
        rw [← hz.out]
        refine szQ_end _ _ _ _ ?_
        rcases Nat.lt_or_ge k 4 with h | h
        · exact .inr (List.drop_of_length_le (by simp; omega))
        · exact .inl (by omega)
end Go.Proofs.Ytgdlnjhbencjkaa
