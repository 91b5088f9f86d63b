/- strings.Clone, codec.N, S, firstSize. codec.firstNumber, firstText. Slices of nodes that a call owns. codec.first, firstKids, Read. codec.firstKids, Read. codec.L: ends, slices.Clone, copied. -/
import Derived.Test.YtpkkdjmcabefbaaDoorDCod
import Derived.Lib.BufferWrite
import Derived.Lib.UnsafeStr
import Derived.Laws.MakeOwn
import Derived.Deep.RegionHeld3
import Derived.Deep.QuietTactic
import Derived.BigQuiet
import Derived.Laws.Bits64b
namespace Go.Proofs.YtpkkdjmcabefbaaDoor.Cod
open Go.RowKit

set_option maxHeartbeats 4000000 in
set_option maxRecDepth 100000 in
theorem lclone_prog (s : ByteArray) (w : World) (hlim : s.size ≤ 281474976710656) :
    Calls Tryd.prog 81 #[.string s] w fun e w' => e = .returned (.string s) ∧ Below w.heap.size w w' := by
  by_cases h0 : s.size = 0
  · have hs : s = ⟨#[]⟩ := ByteArray.ext (Array.eq_empty_of_size_eq_zero h0)
    subst hs
    go_enter Tryd.func81, Tryd.ntmps81
    go_wp2
    go_ret
    exact ⟨rfl, Below.refl _ _⟩
  · have info5 : (Tryd.prog.info? 5).map (fun i => (i.zero, i.size, i.bytes)) = some (some (.int .u8 0), 1, 1) := by kernel_rfl
    obtain ⟨i0, hi, hz0, hz1, hz2⟩ := info_parts info5
    have hinfo : (Tryd.prog.info? 5).map (·.size) = some 1 := by rw [hi]; simp [hz1]
    have hco : Tryd.prog.cellsOf 5 = 1 := by simp [Program.cellsOf, hi, hz1]
    obtain ⟨M, hM⟩ : ∃ M, M = madeCells (Value.int .u8 0).cells (((s.size : Nat) : Int).toNat * i0.size) := ⟨_, rfl⟩
    have hMs : M.size = s.size := by rw [hM, size_madeCells, hz1]; simp
    have hmk : ∀ W : World, (Instr.makeSlice 57 (.int .i64 (s.size : Int)) (.int .i64 (s.size : Int))).run Tryd.prog W = .ok (.slice (some ⟨W.heap.size, 0, none⟩) s.size s.size) (W.alloc (.cells M 5)) := fun W => by
      have h := run_make (P := Tryd.prog) W 57 5 i0 (.int .u8 0) Tryd.underlying57 hi hz0 .i64 .i64 (s.size : Int) (s.size : Int) (by omega) (by omega) (by rw [hz2]; omega) (by omega)
      rw [← hM] at h
      simpa using h
    clear hM
    have hcp := Lib.run_copy_row_string (P := Tryd.prog) (w.alloc (.cells M 5)) 57 9 3 5 w.heap.size 0 s.size s.size s M 5 Tryd.underlying57 hinfo (heap_alloc_new w _) (Nat.le_refl _) (by omega)
    obtain ⟨Y, hY⟩ : ∃ Y, Y = (M.toList.take 0 ++ Lib.byteCells s.data.toList ++ M.toList.drop (0 + s.size)).toArray := ⟨_, rfl⟩
    rw [← hY] at hcp
    have hYl : Y.toList = Lib.byteCells s.data.toList := by
      rw [hY, List.toList_toArray, List.take_zero, List.nil_append, List.drop_of_length_le (by rw [Array.length_toList]; omega), List.append_nil]
    have hYs : Y.size = s.size := by rw [← Array.length_toList, hYl, Lib.byteCells_length, ← Lib.size_eq]
    have hgY : ((w.alloc (.cells M 5)).setRow w.heap.size Y).heap[w.heap.size]? = some (.cells Y 5 (0, 0)) := setRow_heap _ _ M _ 5 (0, 0) (heap_alloc_new w _)
    have hne : s.data.toList ≠ [] := fun e => h0 (by rw [Lib.size_eq, e]; rfl)
    have hUS := Lib.run_unsafeString_row (P := Tryd.prog) ((w.alloc (.cells M 5)).setRow w.heap.size Y) 115 3 9 5 Tryd.underlying115 hco w.heap.size Y.size (by unfold World.shape?; rw [hgY]) s.data.toList hne (by rw [← Lib.size_eq]; omega) (by rw [← Lib.size_eq]; omega)
      (fun j x hx => Lib.cells_of_row hgY Y.size j _ (by rw [List.take_of_length_le (by rw [Array.length_toList]; exact Nat.le_refl _), hYl]; simp [Lib.byteCells, hx]))
    rw [← Lib.size_eq] at hUS
    clear hY
    go_enter Tryd.func81, Tryd.ntmps81
    go_wp2
    go_ret
    have hb1 : Below w.heap.size w (w.alloc (.cells M 5)) := (Below.refl _ w).alloc (Nat.le_refl _) _
    have hb2 : Below w.heap.size (w.alloc (.cells M 5)) ((w.alloc (.cells M 5)).setRow w.heap.size Y) := ⟨rfl, rfl, rfl, by simp, fun k hk => setRow_other _ _ _ _ (by omega)⟩
    exact ⟨rfl, Lib.below_freeze (hb1.trans hb2) (p := ⟨w.heap.size, 0, none⟩) (Nat.le_refl _) _⟩

theorem clone_prog (s : ByteArray) (w : World) (hlim : s.size ≤ 281474976710656) :
    Calls Tryd.prog 77 #[.string s] w fun e w' => e = .returned (.string s) ∧ Below w.heap.size w w' := by
  have H := Lib.hid (lclone_prog s w hlim)
  go_enter Tryd.func77, Tryd.ntmps77
  go_wp2_with fail
  refine H.out.mono ?_
  rintro e w1 ⟨rfl, hb⟩
  go_wp2
  go_ret
  exact ⟨rfl, hb⟩

theorem n_prog (n : Int) (w : World) : Calls Tryd.prog 56 #[.int .u64 n] w fun e w' => e = .returned (nodeV 0 n ⟨#[]⟩ (.slice none 0 0)) ∧ Below w.heap.size w w' := by
  go_enter Tryd.func56, Tryd.ntmps56
  go_wp2
  exact bodyPost_ret (v := nodeV 0 n ⟨#[]⟩ (.slice none 0 0)) (by simp [results, Tryd.results56, go_sem, nodeV]) rfl ⟨rfl, (Below.refl _ _).alloc (Nat.le_refl _) _⟩
theorem s_prog (s : ByteArray) (w : World) : Calls Tryd.prog 39 #[.string s] w fun e w' => e = .returned (nodeV 1 0 s (.slice none 0 0)) ∧ Below w.heap.size w w' := by
  go_enter Tryd.func39, Tryd.ntmps39
  go_wp2
  exact bodyPost_ret (v := nodeV 1 0 s (.slice none 0 0)) (by simp [results, Tryd.results39, go_sem, nodeV]) rfl ⟨rfl, (Below.refl _ _).alloc (Nat.le_refl _) _⟩


def szQ (i acc f : Nat) (l : List UInt8) : Option (Nat × List UInt8) :=
  match szP f l with
  | none => none
  | some (m, q) => if 0 < i ∧ m = 0 then none else some (acc + 128 ^ i * m, q)
theorem szQ_start (f : Nat) (l : List UInt8) : szQ 0 0 f l = szP f l := by
  unfold szQ
  cases szP f l with
  | none => rfl
  | some p => simp
theorem szQ_step (i acc f : Nat) (c : UInt8) (r : List UInt8) (h : 128 ≤ c.toNat) : szQ i acc (f + 1) (c :: r) = szQ (i + 1) (acc + 128 ^ i * (c.toNat % 128)) f r := by
  unfold szQ
  rw [szP, if_neg (by omega)]
  cases szP f r with
  | none => rfl
  | some p =>
    obtain ⟨m, q⟩ := p
    simp only []
    by_cases hm : m = 0
    · rw [if_pos hm, if_pos ⟨by omega, hm⟩]
    · rw [if_neg hm, if_neg (by omega)]
      simp only []
      rw [if_neg (by omega)]
      congr 2
      rw [Nat.pow_succ, Nat.mul_add, ← Nat.mul_assoc, Nat.add_assoc]
theorem szQ_last (i acc f : Nat) (c : UInt8) (r : List UInt8) (h : c.toNat < 128) : szQ i acc (f + 1) (c :: r) = if 0 < i ∧ c.toNat = 0 then none else some (acc + 128 ^ i * c.toNat, r) := by
  unfold szQ
  rw [szP, if_pos h]
theorem szQ_end (i acc f : Nat) (l : List UInt8) (h : f = 0 ∨ l = []) : szQ i acc f l = none := by
  unfold szQ
  rcases h with rfl | rfl
  · simp [szP]
  · cases f <;> simp [szP]

def FsRes (l : List UInt8) (w : World) (e : Ending) (w' : World) : Prop :=
  ∃ (m : Nat) (r : ByteArray) (b : Bool), e = .returned (.tuple #[.int .i64 m, .string r, .bool b]) ∧ Same w w' ∧ (b = true → szP 4 l = some (m, r.data.toList)) ∧ (b = false → szP 4 l = none)
theorem FsEnd {a b : Int} {r r' : Value} {x y : Bool} (h : a = b) (hr : r = r') (hx : x = y) : Ending.returned (.tuple #[.int .i64 a, r, .bool x]) = .returned (.tuple #[.int .i64 b, r', .bool y]) := by rw [h, hr, hx]
def FsRel (s : ByteArray) (w : World) (a i : Value) (wr : World) : Prop :=
  ∃ (k acc : Nat), k ≤ 4 ∧ k ≤ s.size ∧ i = .int .i64 k ∧ a = .int .i64 acc ∧ acc < 128 ^ k ∧ Hid (szQ k acc (4 - k) (s.data.toList.drop k) = szP 4 s.data.toList) ∧ Same w wr

set_option maxRecDepth 30000 in
set_option maxHeartbeats 1000000 in
theorem firstSize_prog (s : ByteArray) (w : World) (hs : s.size ≤ 100000000) : Calls Tryd.prog 60 #[.string s] w (FsRes s.data.toList w) := by
  go_enter Tryd.func60, Tryd.ntmps60
  have hsI : (s.size : Int) ≤ 100000000 := by omega
  by_cases h4 : (4 : Int) ≤ (s.size : Int)
  all_goals
    go_wp2_with fail
    go_loopw [5, 10] (FsRel s w) (fun _ i _ => 4 - (intOf i).toNat)
    case atStart => exact ⟨0, 0, by omega, by omega, rfl, rfl, by omega, Lib.hid (by rw [szQ_start]; simp), Same.refl w⟩
    case round =>
      obtain ⟨k, acc, hk4, hks, rfl, rfl, hacc, hz, hsm⟩ := hrel
      by_cases hlt : k < 4 ∧ k < s.size
      · obtain ⟨hl4, hls⟩ := hlt
        have hdrop : s.data.toList.drop k = s[k] :: s.data.toList.drop (k + 1) := by
          rw [List.drop_eq_getElem_cons (by simpa using hls)]; rfl
        have hex : Hid ((s.extract (k + 1) s.size).data.toList = s.data.toList.drop (k + 1)) := Lib.hid (by simp only [ByteArray.data_extract, Array.toList_extract, List.extract_eq_take_drop]; exact List.take_of_length_le (by simp))
        obtain ⟨c, hc⟩ : ∃ c, c = s[k] := ⟨_, rfl⟩
        have hc256 := c.toNat_lt
        rw [hdrop, ← hc] at hz
        have HC := Lib.hid hc
        clear hdrop
        by_cases hcs : c.toNat < 128
        · have hlt : (c.toNat : Int) < 128 := by omega
          have hlast := szQ_last k acc (4 - k - 1) c (s.data.toList.drop (k + 1)) hcs
          rw [show 4 - k - 1 + 1 = 4 - k by omega] at hlast
          have hz' := hz.out
          rw [hlast] at hz'
          obtain ⟨A, hA⟩ : ∃ A, A = acc + 128 ^ k * c.toNat := ⟨_, rfl⟩
          rw [← hA] at hz'
          have HZ := Lib.hid hz'
          have HA := Lib.hid hA
          clear hA
          have hn : ¬ ((128 : Int) ≤ (c.toNat : Int)) := by omega
          clear hlast hz' hz hcs
          by_cases hpos : 0 < c.toNat
          · have hd0 : decide (0 < c.toNat) = true := by simpa using hpos
            have hp : (0 : Int) < (c.toNat : Int) := by omega
            rw [hc] at hlt hn hd0 hp
            clear hc
            have : k = 0 ∨ k = 1 ∨ k = 2 ∨ k = 3 := by omega
            rcases this with rfl | rfl | rfl | rfl
            all_goals (try (exfalso; omega))
            all_goals
              try have e1 : (1 : Int) ≤ (s.size : Int) := by omega
              try have e2 : (2 : Int) ≤ (s.size : Int) := by omega
              try have e3 : (3 : Int) ≤ (s.size : Int) := by omega
              try have e4 : (4 : Int) ≤ (s.size : Int) := by omega
              try have n1 : (1 : Int) < (s.size : Int) := by omega
              try have n2 : (2 : Int) < (s.size : Int) := by omega
              try have n3 : (3 : Int) < (s.size : Int) := by omega
              have w1 : IntKind.i64.wrap 1 = 1 := by decide
              have w2 : IntKind.i64.wrap 2 = 2 := by decide
              have w3 : IntKind.i64.wrap 3 = 3 := by decide
              have w4 : IntKind.i64.wrap 4 = 4 := by decide
              go_wp2_with fail
              go_quiet (fail)
              go_wp2
              go_ret3
              refine ⟨A, _, true, FsEnd (by rw [HA.out, HC.out]; omega) rfl rfl, hsm.trans (Same.of _ _), fun _ => ?_, (fun h => by cases h)⟩
              rw [← HZ.out, hex.out, if_neg (by omega)]
          · have hd0 : decide (0 < c.toNat) = false := by simpa using hpos
            have hp : ¬ (0 : Int) < (c.toNat : Int) := by omega
            have hc0 : Hid (c.toNat = 0) := Lib.hid (by omega)
            rw [hc] at hlt hn hd0 hp
            clear hc hpos
            have : k = 0 ∨ k = 1 ∨ k = 2 ∨ k = 3 := by omega
            rcases this with rfl | rfl | rfl | rfl
            all_goals (try (exfalso; omega))
            all_goals
              try have e1 : (1 : Int) ≤ (s.size : Int) := by omega
              try have e2 : (2 : Int) ≤ (s.size : Int) := by omega
              try have e3 : (3 : Int) ≤ (s.size : Int) := by omega
              try have e4 : (4 : Int) ≤ (s.size : Int) := by omega
              try have n1 : (1 : Int) < (s.size : Int) := by omega
              try have n2 : (2 : Int) < (s.size : Int) := by omega
              try have n3 : (3 : Int) < (s.size : Int) := by omega
              have w1 : IntKind.i64.wrap 1 = 1 := by decide
              have w2 : IntKind.i64.wrap 2 = 2 := by decide
              have w3 : IntKind.i64.wrap 3 = 3 := by decide
              have w4 : IntKind.i64.wrap 4 = 4 := by decide
              go_wp2_with fail
              go_quiet (fail)
              go_wp2
              go_ret3
              have HZ2 := HZ.out
              rw [hc0.out] at HZ2
              first
                | (refine ⟨A, _, true, FsEnd (by rw [HA.out, HC.out]; omega) rfl rfl, hsm.trans (Same.of _ _), fun _ => ?_, (fun h => by cases h)⟩
                   rw [hex.out, ← HZ2, if_neg (by omega)])
                | (refine ⟨A, _, false, FsEnd (by rw [HA.out, HC.out]; omega) rfl rfl, hsm.trans (Same.of _ _), (fun h => by cases h), fun _ => ?_⟩
                   rw [← HZ2, if_pos ⟨by omega, rfl⟩])
        · have hge : (128 : Int) ≤ (c.toNat : Int) := by omega
          have hstep := szQ_step k acc (4 - k - 1) c (s.data.toList.drop (k + 1)) (by omega)
          rw [show 4 - k - 1 + 1 = 4 - k by omega] at hstep
          rw [hstep] at hz
          obtain ⟨A, hA⟩ : ∃ A, A = acc + 128 ^ k * (c.toNat % 128) := ⟨_, rfl⟩
          rw [← hA] at hz
          have HA := Lib.hid hA
          clear hstep hcs hA
          have : k = 0 ∨ k = 1 ∨ k = 2 ∨ k = 3 := by omega
          rw [hc] at hge
          clear hc
          rcases this with rfl | rfl | rfl | rfl
          all_goals (try (exfalso; omega))
          all_goals
            go_wp2_with fail
            go_roundw
            case rel => exact ⟨_, A, by omega, by omega, by rfl, by rw [HA.out, HC.out]; congr 1; omega, by have := HA.out; omega, hz, hsm⟩
            case measure => rw [intOf_int, intOf_int]; omega
      · go_wp2_with fail
        go_ret3
        refine ⟨_, _, false, rfl, hsm, (fun h => by cases h), fun _ => ?_⟩
        rw [← hz.out]
        refine szQ_end _ _ _ _ ?_
        rcases Nat.lt_or_ge k 4 with h | h
        · exact .inr (List.drop_of_length_le (by simp; omega))
        · exact .inl (by omega)
end Go.Proofs.YtpkkdjmcabefbaaDoor.Cod
namespace Go.Proofs.YtpkkdjmcabefbaaDoor.Cod
open Go.RowKit

/-- What a call that reads a node hands back. -/
def RdRes (o : Option (Nd × List UInt8)) (B : Nat) (w : World) (e : Ending) (w' : World) : Prop :=
  ∃ (x : Nd) (ka : Option Addr) (kn kc : Nat) (r : ByteArray) (b : Bool), e = .returned (.tuple #[nodeV x.k x.n x.s (.slice ka kn kc), .string r, .bool b]) ∧ Below B w w' ∧
    (b = true → o = some (x, r.data.toList) ∧ KidsAt w' (fun g => B ≤ g ∧ g < w'.heap.size) x.kids (.slice ka kn kc)) ∧ (b = false → o = none)

theorem or256 (x b : Nat) (hx : x < 72057594037927936) (hb : b < 256) : bits BinOp.or IntKind.u64 ((x : Int) * 256) (b : Int) = (x : Int) * 256 + b := by
  have h := bits_or_u64_nat (x * 256) b (by omega) (by omega)
  have e : x * 256 ||| b = x * 256 + b := by
    have := Nat.two_pow_add_eq_or_of_lt (i := 8) (b := b) (by omega) x
    rw [Nat.mul_comm x 256]; exact this.symm
  rw [e] at h
  simpa using h

theorem block4 {w : World} {g : Nat} {a b c d : Value} {t : TypeId} (h : w.heap[g]? = some (.cells #[a, b, c, d] t (0, 0))) :
    w.cell? ⟨g, 0, none⟩ = some a ∧ w.cell? ⟨g, 1, none⟩ = some b ∧ w.cell? ⟨g, 2, none⟩ = some c ∧ w.cell? ⟨g, 3, none⟩ = some d ∧
    w.frozen? ⟨g, 0, none⟩ = false ∧ w.frozen? ⟨g, 1, none⟩ = false ∧ w.frozen? ⟨g, 2, none⟩ = false ∧ w.frozen? ⟨g, 3, none⟩ = false := by
  simp [World.cell?, World.frozen?, h]
/-- The block g is as it was. -/
theorem block_kept {X w2 : World} {g B : Nat} {o : Obj} (hX : X.heap[g]? = some o) (hlt : g < B) (hb : Below B X w2) : w2.heap[g]? = some o := by rw [hb.block g hlt]; exact hX

theorem n_keep (n : Int) (X : World) (g : Nat) {o : Obj} (h : X.heap[g]? = some o) : Calls Tryd.prog 56 #[.int .u64 n] X fun e w' => e = .returned (.agg #[.int .i64 0, .int .u64 n, .string ⟨#[]⟩, .slice none 0 0]) ∧ Below X.heap.size X w' ∧ w'.heap[g]? = some o :=
  (n_prog n X).mono fun _ _ ⟨he, hb⟩ => ⟨he, hb, block_kept h ((Array.getElem?_eq_some_iff.1 h).1) hb⟩

def FnRel (l : List UInt8) (m : Nat) (w1 : World) (a i : Value) (wr : World) : Prop :=
  ∃ (k : Nat) (x : Int), k ≤ m ∧ i = .int .i64 k ∧ a = .int .u64 x ∧ Hid (x = (valB (l.take k) : Int)) ∧ w1 = wr

set_option maxRecDepth 30000 in
set_option maxHeartbeats 1000000 in
theorem firstNumber_prog (s : ByteArray) (m : Nat) (w : World) (hs : s.size ≤ 100000000) (hm : Lim m) :
    Calls Tryd.prog 61 #[.string s, .int .i64 m] w
      (RdRes (match numP m s.data.toList with | none => none | some (n, t) => some (⟨0, n, ⟨#[]⟩, .nil⟩, t)) w.heap.size w) := by
  have hsI : (s.size : Int) ≤ 100000000 := by omega
  have HLIM := Lib.hid hm
  clear hm
  by_cases h8 : 8 < m
  · have hn : numP m s.data.toList = none := by rw [numP, if_pos (.inl h8)]
    rw [hn]
    have h8' : (8 : Int) < (m : Int) := by omega
    clear hn
    go_enter Tryd.func61, Tryd.ntmps61
    go_wp2
    exact bodyPost_ret (v := .tuple #[nodeV 0 0 ⟨#[]⟩ (.slice none 0 0), .string ⟨#[]⟩, .bool false]) (by simp [results, Tryd.results61, go_sem, nodeV]) rfl ⟨⟨0, 0, ⟨#[]⟩, .nil⟩, none, 0, 0, _, _, rfl, (Below.refl _ _).alloc (Nat.le_refl _) _, (fun h => by cases h), fun _ => rfl⟩
  by_cases hl : s.size < m
  · have hn : numP m s.data.toList = none := by rw [numP, if_pos (.inr (.inl (by simpa using hl)))]
    rw [hn]
    have h8' : ¬ (8 : Int) < (m : Int) := by omega
    have hl' : (s.size : Int) < (m : Int) := by omega
    clear hn
    go_enter Tryd.func61, Tryd.ntmps61
    go_wp2
    exact bodyPost_ret (v := .tuple #[nodeV 0 0 ⟨#[]⟩ (.slice none 0 0), .string ⟨#[]⟩, .bool false]) (by simp [results, Tryd.results61, go_sem, nodeV]) rfl ⟨⟨0, 0, ⟨#[]⟩, .nil⟩, none, 0, 0, _, _, rfl, (Below.refl _ _).alloc (Nat.le_refl _) _, (fun h => by cases h), fun _ => rfl⟩
  have h8' : ¬ (8 : Int) < (m : Int) := by omega
  have hl' : ¬ (s.size : Int) < (m : Int) := by omega
  by_cases hz : 0 < m ∧ s.data.toList.head? = some 0
  · have hn : numP m s.data.toList = none := by rw [numP, if_pos (.inr (.inr hz))]
    rw [hn]
    obtain ⟨h0, hh⟩ := hz
    have h00 : 0 < s.size := by omega
    have hs0 : s[0].toNat = 0 := by
      have : s.data.toList.head? = some s[0] := by rw [List.head?_eq_getElem?, List.getElem?_eq_getElem (by simpa using h00)]; rfl
      rw [hh] at this
      have := Option.some.inj this
      rw [← this]; rfl
    have hs0' : ((s[0].toNat : Int) == 0) = true := by rw [hs0]; rfl
    have hs0n : (s[0].toNat == 0) = true := by rw [hs0]; rfl
    have h0' : (0 : Int) < (m : Int) := by omega
    clear hn hs0 hh
    go_enter Tryd.func61, Tryd.ntmps61
    go_wp2
    exact bodyPost_ret (v := .tuple #[nodeV 0 0 ⟨#[]⟩ (.slice none 0 0), .string ⟨#[]⟩, .bool false]) (by simp [results, Tryd.results61, go_sem, nodeV]) rfl ⟨⟨0, 0, ⟨#[]⟩, .nil⟩, none, 0, 0, _, _, rfl, (Below.refl _ _).alloc (Nat.le_refl _) _, (fun h => by cases h), fun _ => rfl⟩
  have hn : numP m s.data.toList = some ((valB (s.data.toList.take m) : Int), s.data.toList.drop m) := by rw [numP, if_neg (by simp; exact ⟨by omega, by omega, by simpa using hz⟩)]
  rw [hn]
  clear hn
  have hex : Hid ((s.extract m s.size).data.toList = s.data.toList.drop m) := Lib.hid (by simp only [ByteArray.data_extract, Array.toList_extract, List.extract_eq_take_drop]; exact List.take_of_length_le (by simp))
  have hm0 : (0 : Int) ≤ (m : Int) := by omega
  have hm8 : (m : Int) ≤ 8 := by omega
  have hml : (m : Int) ≤ (s.size : Int) := by omega
  by_cases h0 : 0 < m
  · have hs0 : s[0].toNat ≠ 0 := by
      intro h
      apply hz
      refine ⟨h0, ?_⟩
      rw [List.head?_eq_getElem?, List.getElem?_eq_getElem (by simp; omega)]
      congr 1
      exact UInt8.toNat_inj.1 (by show s[0].toNat = 0; exact h)
    have hs0' : ((s[0].toNat : Int) == 0) = false := by simpa using hs0
    have hs0n : (s[0].toNat == 0) = false := by simpa using hs0
    have h0' : (0 : Int) < (m : Int) := by omega
    have h00 : 0 < s.size := by omega
    clear hz hs0
    go_enter Tryd.func61, Tryd.ntmps61
    go_wp2_with fail
    go_loopw [7, 28] (FnRel s.data.toList m (w.alloc (.cells #[.int .i64 0, .int .u64 0, .string ⟨#[]⟩, .slice none 0 0] 46))) (fun _ i _ => m - (intOf i).toNat)
    case atStart => exact ⟨0, 0, by omega, rfl, rfl, Lib.hid (by simp [valB]), rfl⟩
    case round =>
      obtain ⟨k, x, hk, rfl, rfl, hx, rfl⟩ := hrel
      by_cases hlt : k < m
      · have hk0 : (0 : Int) ≤ (k : Int) := by omega
        have hb0 : (0 : Int) ≤ ((s[k]'(by omega)).toNat : Int) := by omega
        have hb1 : ((s[k]'(by omega)).toNat : Int) ≤ 255 := by have := (s[k]'(by omega)).toNat_lt; omega
        have hks : k < s.size := by omega
        have hv := valB_lt (s.data.toList.take k)
        have hvs : Hid (valB (s.data.toList.take (k + 1)) = valB (s.data.toList.take k) * 256 + s[k].toNat) := Lib.hid (by
          rw [List.take_succ_eq_append_getElem (by simpa using hks), valB_snoc]; rfl)
        have hpw : 256 ^ (s.data.toList.take k).length ≤ 256 ^ 7 := Nat.pow_le_pow_right (by decide) (by simp; omega)
        have h7 : (256 : Nat) ^ 7 = 72057594037927936 := by decide
        obtain ⟨V, hV⟩ : ∃ V, V = valB (s.data.toList.take k) := ⟨_, rfl⟩
        have hor := or256 V s[k].toNat (by omega) (s[k].toNat_lt)
        have hxV : x = (V : Int) := by rw [hx.out, hV]
        rw [← hxV] at hor
        have x0 : 0 ≤ x := by omega
        have x1 : x < 72057594037927936 := by omega
        have HV := Lib.hid hV
        have HXV := Lib.hid hxV
        clear hV hxV hv hpw h7
        go_wp2_with fail
        go_roundw
        case rel => exact ⟨k + 1, _, by omega, by go_num, rfl, Lib.hid (by rw [hvs.out, HXV.out, HV.out]; simp), rfl⟩
        case measure => rw [intOf_int, intOf_int]; omega
      · obtain rfl : m = k := by omega
        go_wp2_with fail
        have hblk := heap_alloc_new w (.cells #[.int .i64 0, .int .u64 0, .string ⟨#[]⟩, .slice none 0 0] 46)
        go_region_held3 (fun _ => True) (trivial)
          ((go_at_call 56; refine (n_keep _ _ w.heap.size (by exact hblk)).mono ?_; rintro e w2 ⟨rfl, hb2, hk2⟩; obtain ⟨c0, c1, c2, c3, f0, f1, f2, f3⟩ := block4 hk2))
        go_wp2_with fail
        refine bodyPost_ret (v := .tuple #[nodeV 0 x ⟨#[]⟩ (.slice none 0 0), .string (s.extract m s.size), .bool true]) (by simp [results, Tryd.results61, go_sem, nodeV, c0, c1, c2, c3]) rfl ?_
        refine ⟨⟨0, x, ⟨#[]⟩, .nil⟩, none, 0, 0, _, _, rfl, ?_, fun _ => ⟨?_, .inl ⟨rfl, rfl⟩⟩, (fun h => by cases h)⟩
        · have hb02 : Below w.heap.size w w2 := (((Below.refl w.heap.size w).alloc (Nat.le_refl _) _).drew).trans (hb2.mono (by simp [World.drew]))
          exact (((hb02.setCell (Nat.le_refl _) _).setCell (Nat.le_refl _) _).setCell (Nat.le_refl _) _).setCell (Nat.le_refl _) _
        · rw [hex.out]
          simp [hx.out]
  · have h0' : ¬ (0 : Int) < (m : Int) := by omega
    have h0d : decide ((0 : Int) < (m : Int)) = false := by simpa using h0'
    clear hz h0
    go_enter Tryd.func61, Tryd.ntmps61
    go_wp2_with fail
    go_loopw [7, 28] (FnRel s.data.toList m (w.alloc (.cells #[.int .i64 0, .int .u64 0, .string ⟨#[]⟩, .slice none 0 0] 46))) (fun _ i _ => m - (intOf i).toNat)
    case atStart => exact ⟨0, 0, by omega, rfl, rfl, Lib.hid (by simp [valB]), rfl⟩
    case round =>
      obtain ⟨k, x, hk, rfl, rfl, hx, rfl⟩ := hrel
      by_cases hlt : k < m
      · have hk0 : (0 : Int) ≤ (k : Int) := by omega
        have hb0 : (0 : Int) ≤ ((s[k]'(by omega)).toNat : Int) := by omega
        have hb1 : ((s[k]'(by omega)).toNat : Int) ≤ 255 := by have := (s[k]'(by omega)).toNat_lt; omega
        have hks : k < s.size := by omega
        have hv := valB_lt (s.data.toList.take k)
        have hvs : Hid (valB (s.data.toList.take (k + 1)) = valB (s.data.toList.take k) * 256 + s[k].toNat) := Lib.hid (by
          rw [List.take_succ_eq_append_getElem (by simpa using hks), valB_snoc]; rfl)
        have hpw : 256 ^ (s.data.toList.take k).length ≤ 256 ^ 7 := Nat.pow_le_pow_right (by decide) (by simp; omega)
        have h7 : (256 : Nat) ^ 7 = 72057594037927936 := by decide
        obtain ⟨V, hV⟩ : ∃ V, V = valB (s.data.toList.take k) := ⟨_, rfl⟩
        have hor := or256 V s[k].toNat (by omega) (s[k].toNat_lt)
        have hxV : x = (V : Int) := by rw [hx.out, hV]
        rw [← hxV] at hor
        have x0 : 0 ≤ x := by omega
        have x1 : x < 72057594037927936 := by omega
        have HV := Lib.hid hV
        have HXV := Lib.hid hxV
        clear hV hxV hv hpw h7
        go_wp2_with fail
        go_roundw
        case rel => exact ⟨k + 1, _, by omega, by go_num, rfl, Lib.hid (by rw [hvs.out, HXV.out, HV.out]; simp), rfl⟩
        case measure => rw [intOf_int, intOf_int]; omega
      · obtain rfl : m = k := by omega
        go_wp2_with fail
        have hblk := heap_alloc_new w (.cells #[.int .i64 0, .int .u64 0, .string ⟨#[]⟩, .slice none 0 0] 46)
        go_region_held3 (fun _ => True) (trivial)
          ((go_at_call 56; refine (n_keep _ _ w.heap.size (by exact hblk)).mono ?_; rintro e w2 ⟨rfl, hb2, hk2⟩; obtain ⟨c0, c1, c2, c3, f0, f1, f2, f3⟩ := block4 hk2))
        go_wp2_with fail
        refine bodyPost_ret (v := .tuple #[nodeV 0 x ⟨#[]⟩ (.slice none 0 0), .string (s.extract m s.size), .bool true]) (by simp [results, Tryd.results61, go_sem, nodeV, c0, c1, c2, c3]) rfl ?_
        refine ⟨⟨0, x, ⟨#[]⟩, .nil⟩, none, 0, 0, _, _, rfl, ?_, fun _ => ⟨?_, .inl ⟨rfl, rfl⟩⟩, (fun h => by cases h)⟩
        · have hb02 : Below w.heap.size w w2 := (((Below.refl w.heap.size w).alloc (Nat.le_refl _) _).drew).trans (hb2.mono (by simp [World.drew]))
          exact (((hb02.setCell (Nat.le_refl _) _).setCell (Nat.le_refl _) _).setCell (Nat.le_refl _) _).setCell (Nat.le_refl _) _
        · rw [hex.out]
          simp [hx.out]

theorem s_keep (s : ByteArray) (X : World) (g : Nat) {o : Obj} (h : X.heap[g]? = some o) : Calls Tryd.prog 39 #[.string s] X fun e w' => e = .returned (.agg #[.int .i64 1, .int .u64 0, .string s, .slice none 0 0]) ∧ Below X.heap.size X w' ∧ w'.heap[g]? = some o :=
  (s_prog s X).mono fun _ _ ⟨he, hb⟩ => ⟨he, hb, block_kept h ((Array.getElem?_eq_some_iff.1 h).1) hb⟩
theorem clone_keep (s : ByteArray) (X : World) (hs : s.size ≤ 281474976710656) (g : Nat) {o : Obj} (h : X.heap[g]? = some o) : Calls Tryd.prog 77 #[.string s] X fun e w' => e = .returned (.string s) ∧ Below X.heap.size X w' ∧ w'.heap[g]? = some o :=
  (clone_prog s X hs).mono fun _ _ ⟨he, hb⟩ => ⟨he, hb, block_kept h ((Array.getElem?_eq_some_iff.1 h).1) hb⟩

set_option maxRecDepth 30000 in
set_option maxHeartbeats 1000000 in
theorem firstText_prog (s : ByteArray) (m : Nat) (w : World) (hs : s.size ≤ 100000000) :
    Calls Tryd.prog 62 #[.string s, .int .i64 m] w
      (RdRes (match txtP m s.data.toList with | none => none | some (q, t) => some (⟨1, 0, q, .nil⟩, t)) w.heap.size w) := by
  have hsI : (s.size : Int) ≤ 100000000 := by omega
  by_cases hl : s.size < m
  · have hn : txtP m s.data.toList = none := by rw [txtP, if_pos (by simpa using hl)]
    rw [hn]
    have hl' : (s.size : Int) < (m : Int) := by omega
    clear hn
    go_enter Tryd.func62, Tryd.ntmps62
    go_wp2
    exact bodyPost_ret (v := .tuple #[nodeV 0 0 ⟨#[]⟩ (.slice none 0 0), .string ⟨#[]⟩, .bool false]) (by simp [results, Tryd.results62, go_sem, nodeV]) rfl ⟨⟨0, 0, ⟨#[]⟩, .nil⟩, none, 0, 0, _, _, rfl, (Below.refl _ _).alloc (Nat.le_refl _) _, (fun h => by cases h), fun _ => rfl⟩
  · have hl' : ¬ (s.size : Int) < (m : Int) := by omega
    have hn : txtP m s.data.toList = some (s.extract 0 m, s.data.toList.drop m) := by
      rw [txtP, if_neg (by simpa using hl)]
      congr 2
      apply ByteArray.ext
      apply Array.ext'
      simp
    rw [hn]
    have hm0 : (0 : Int) ≤ (m : Int) := by omega
    have hml : (m : Int) ≤ (s.size : Int) := by omega
    have hex : Hid ((s.extract m s.size).data.toList = s.data.toList.drop m) := Lib.hid (by simp only [ByteArray.data_extract, Array.toList_extract, List.extract_eq_take_drop]; exact List.take_of_length_le (by simp))
    have hxs : (s.extract 0 m).size ≤ 281474976710656 := by simp; omega
    obtain ⟨T, hT⟩ : ∃ T, T = s.extract 0 m := ⟨_, rfl⟩
    rw [← hT] at hxs ⊢
    have HT := Lib.hid hT
    clear hn hT
    have hblk := heap_alloc_new w (.cells #[.int .i64 0, .int .u64 0, .string ⟨#[]⟩, .slice none 0 0] 46)
    go_enter Tryd.func62, Tryd.ntmps62
    go_wp2_with fail
    go_region_held3 (fun _ => True) (trivial)
      (first
        | (go_at_call 77; rw [← HT.out]; refine (clone_keep T _ hxs w.heap.size (by exact hblk)).mono ?_; rintro e w2 ⟨rfl, hb2, hk2⟩)
        | (go_at_call 39; refine (s_keep T _ w.heap.size hk2).mono ?_; rintro e w3 ⟨rfl, hb3, hk3⟩; obtain ⟨c0, c1, c2, c3, f0, f1, f2, f3⟩ := block4 hk3))
    go_wp2_with fail
    refine bodyPost_ret (v := .tuple #[nodeV 1 0 T (.slice none 0 0), .string (s.extract m s.size), .bool true]) (by simp [results, Tryd.results62, go_sem, nodeV, c0, c1, c2, c3]) rfl ?_
    refine ⟨⟨1, 0, T, .nil⟩, none, 0, 0, _, _, rfl, ?_, fun _ => ⟨?_, .inl ⟨rfl, rfl⟩⟩, (fun h => by cases h)⟩
    · have hb02 : Below w.heap.size w w2 := (((Below.refl w.heap.size w).alloc (Nat.le_refl _) _).drew).trans (hb2.mono (by simp [World.drew]))
      have hb03 := hb02.trans (hb3.mono hb02.size)
      exact (((hb03.setCell (Nat.le_refl _) _).setCell (Nat.le_refl _) _).setCell (Nat.le_refl _) _).setCell (Nat.le_refl _) _
    · rw [hex.out]
end Go.Proofs.YtpkkdjmcabefbaaDoor.Cod
namespace Go.Proofs.YtpkkdjmcabefbaaDoor.Cod
open Go.RowKit

theorem Tryd.nodeSl : SlN Tryd.prog 44 46 (.agg #[.int .i64 0, .int .u64 0, .string ⟨#[]⟩, .slice none 0 0]) 4 56 := ⟨Tryd.underlying44, by kernel_rfl, rfl, by decide⟩

def F.app : F → F → F
  | .nil, h => h
  | .cons k n s c r, h => .cons k n s c (r.app h)
theorem F.app_nil : ∀ f : F, f.app .nil = f
  | .nil => rfl
  | .cons k n s c r => by rw [F.app, F.app_nil r]
theorem F.app_assoc : ∀ f g h : F, (f.app g).app h = f.app (g.app h)
  | .nil, _, _ => rfl
  | .cons k n s c r, g, h => by simp only [F.app]; rw [F.app_assoc r]
theorem F.app_len : ∀ f g : F, (f.app g).len = f.len + g.len
  | .nil, g => by simp [F.app, F.len]
  | .cons k n s c r, g => by simp only [F.app, F.len]; rw [F.app_len r]; omega

/-- The cells cs are the nodes f; kids' blocks are in S. -/
def CellsOf (w : World) (S : Nat → Prop) : F → List Value → Prop
  | .nil, cs => cs = []
  | .cons k n s c r, cs => ∃ v rest, cs = .int .i64 k :: .int .u64 n :: .string s :: v :: rest ∧ KidsAt w S c v ∧ CellsOf w S r rest
theorem CellsOf.mono {w w' : World} {S S' : Nat → Prop} (hS : ∀ b, S b → S' b ∧ w'.heap[b]? = w.heap[b]?) : ∀ (f : F) (cs : List Value), CellsOf w S f cs → CellsOf w' S' f cs
  | .nil, _, h => h
  | .cons k n s c r, cs, h => by
    obtain ⟨v, rest, e, hk, hr⟩ := h
    exact ⟨v, rest, e, hk.mono (fun b h => (hS b h).1) (fun b h => (hS b h).2), CellsOf.mono hS r rest hr⟩
theorem CellsOf.length {w : World} {S : Nat → Prop} : ∀ (f : F) (cs : List Value), CellsOf w S f cs → cs.length = f.len * 4
  | .nil, _, h => by rw [show _ = [] from h]; rfl
  | .cons k n s c r, cs, h => by
    obtain ⟨v, rest, e, hk, hr⟩ := h
    rw [e]; simp only [List.length_cons, F.len]; rw [CellsOf.length r rest hr]; omega
theorem CellsOf.snoc {w : World} {S : Nat → Prop} {k n : Int} {s : ByteArray} {c : F} {v : Value} (hk : KidsAt w S c v) : ∀ (f : F) (cs : List Value), CellsOf w S f cs → CellsOf w S (f.app (.cons k n s c .nil)) (cs ++ [.int .i64 k, .int .u64 n, .string s, v])
  | .nil, cs, h => by rw [show cs = [] from h]; exact ⟨v, [], rfl, hk, rfl⟩
  | .cons _ _ _ _ r, cs, h => by
    obtain ⟨v', rest, e, hk', hr⟩ := h
    exact ⟨v', _, by rw [e]; rfl, hk', CellsOf.snoc hk r rest hr⟩
theorem lies_of_cells {w : World} {S : Nat → Prop} {g : Nat} : ∀ (f : F) (o : Nat) (cs : List Value), (∀ j u, cs[j]? = some u → w.cell? ⟨g, o + j, none⟩ = some u) → CellsOf w S f cs → Lies w S f g o
  | .nil, _, _, _, _ => trivial
  | .cons k n s c r, o, cs, h, hc => by
    obtain ⟨v, rest, rfl, hk, hr⟩ := hc
    refine lies_cons.2 ⟨⟨v, ?_, ?_, ?_, ?_, hk⟩, lies_of_cells r (o + 4) rest (fun j u hu => ?_) hr⟩
    · simpa using h 0 _ rfl
    · exact h 1 _ rfl
    · exact h 2 _ rfl
    · exact h 3 _ rfl
    · have := h (j + 4) u (by simpa using hu)
      rwa [show o + (j + 4) = o + 4 + j by omega] at this

theorem ownN_mv {w w' : World} {B : Nat} {e : TypeId} {size n : Nat} {v : Value} {xs : List Value} (h : w.ownsRow B e size v n xs) (hb : ∀ k, v.ownBlock = some k → w'.heap[k]? = w.heap[k]?) : w'.ownsRow B e size v n xs := by
  refine ⟨h.1, ?_⟩
  rcases h.2 with h0 | ⟨g, cap, cur, hv, hB, hg, rest⟩
  · exact .inl h0
  · exact .inr ⟨g, cap, cur, hv, hB, by rw [hb g (by rw [hv]; rfl)]; exact hg, rest⟩
theorem ownN_base {w : World} {B B' : Nat} {e : TypeId} {size n : Nat} {v : Value} {xs : List Value} (h : w.ownsRow B e size v n xs) (hb : ∀ k, v.ownBlock = some k → B' ≤ k) : w.ownsRow B' e size v n xs := by
  refine ⟨h.1, ?_⟩
  rcases h.2 with h0 | ⟨g, cap, cur, hv, hB, hg, rest⟩
  · exact .inl h0
  · exact .inr ⟨g, cap, cur, hv, hb g (by rw [hv]; rfl), hg, rest⟩

theorem kids_of_own {w : World} {B : Nat} {e : TypeId} {S S' : Nat → Prop} {f : F} {v : Value} {cs : List Value} (h : w.ownsRow B e 4 v f.len cs) (hc : CellsOf w S f cs) (hS : ∀ b, S b → S' b) (hv : ∀ k, v.ownBlock = some k → S' k) : KidsAt w S' f v := by
  rcases h.2 with ⟨h0, h1⟩ | ⟨g, cap, cur, he, hB, hg, hn, hm, hs, ht⟩
  · exact .inl ⟨h0, h1⟩
  · refine .inr ⟨g, 0, cap, he, hv g (by rw [he]; rfl), ⟨_, _, hg⟩, hn, ?_⟩
    refine Lies.mono hS (fun _ _ => rfl) f g 0 rfl (lies_of_cells f 0 cs (fun j u hu => ?_) hc)
    have := h.cells (g := g) (by rw [he]; rfl) j u hu
    rw [Nat.zero_add]
    unfold Addr.add at this
    split at this
    · rename_i h0; subst h0; exact this
    · simpa using this

theorem setCell_ne (w : World) (g o : Nat) (x : Value) (b : Nat) (h : b ≠ g) : (w.setCell ⟨g, o, none⟩ x).heap[b]? = w.heap[b]? := Below.heap_setCell _ _ _ _ h
theorem grew_blocks {w w' : World} {v v' : Value} {B : Nat} (h : Grew w v w' v') (hB : B ≤ w.heap.size) (hv : ∀ k, v.ownBlock = some k → B ≤ k) {b : Nat} (hb : b < B) : w'.heap[b]? = w.heap[b]? := (h.below hB hv).block b hb
theorem size_setCell (w : World) (a : Addr) (x : Value) : (w.setCell a x).heap.size = w.heap.size := by simp [World.setCell]
theorem kids_set4 {w2 : World} {A B g0 : Nat} {f : F} {kv : Value} {o1 o2 o3 o4 : Nat} {x1 x2 x3 x4 : Value} (h : KidsAt w2 (fun g => A ≤ g ∧ g < w2.heap.size) f kv) (hg : g0 < A) (hB : B ≤ A) :
    KidsAt ((((w2.setCell ⟨g0, o1, none⟩ x1).setCell ⟨g0, o2, none⟩ x2).setCell ⟨g0, o3, none⟩ x3).setCell ⟨g0, o4, none⟩ x4) (fun g => B ≤ g ∧ g < ((((w2.setCell ⟨g0, o1, none⟩ x1).setCell ⟨g0, o2, none⟩ x2).setCell ⟨g0, o3, none⟩ x3).setCell ⟨g0, o4, none⟩ x4).heap.size) f kv := by
  refine h.mono (fun b hb => ⟨Nat.le_trans hB hb.1, by simp only [World.setCell, Array.size_modify]; exact hb.2⟩) (fun b hb => ?_)
  have hne : b ≠ g0 := by have := hb.1; omega
  rw [setCell_ne _ _ _ _ _ hne, setCell_ne _ _ _ _ _ hne, setCell_ne _ _ _ _ _ hne, setCell_ne _ _ _ _ _ hne]

end Go.Proofs.YtpkkdjmcabefbaaDoor.Cod
namespace Go.Proofs.YtpkkdjmcabefbaaDoor.Cod
open Go.RowKit

def FirstOk (d : Nat) : Prop := ∀ (s : ByteArray) (lv : Int) (w : World), s.size ≤ 100000000 → lv = 21 - (d : Int) → d ≤ 20 →
  Calls Tryd.prog 41 #[.string s, .int .i64 lv] w (RdRes (parse d s.data.toList) w.heap.size w)
def kidsO (o : Option (F × List UInt8)) : Option (Nd × List UInt8) := match o with | none => none | some (f, t) => some (⟨2, 0, ⟨#[]⟩, f⟩, t)
def sizeO (p : List UInt8 → Option (Nd × List UInt8)) (c : UInt8) (o : Option (Nat × List UInt8)) : Option (Nd × List UInt8) := match o with | none => none | some (m, q) => bodyP p c m q
def KidsOk (d : Nat) : Prop := ∀ (s : ByteArray) (m : Nat) (lv : Int) (w : World), s.size ≤ 100000000 → Lim m → lv = 20 - (d : Int) → d ≤ 20 →
  Calls Tryd.prog 63 #[.string s, .int .i64 m, .int .i64 lv] w (RdRes (kidsO (kidsP (parse d) m s.data.toList)) w.heap.size w)

theorem rd_keep {X : World} {P : Program} {f : FuncId} {args : Array Value} {o : Option (Nd × List UInt8)} (g : Nat) {ob : Obj} (h : X.heap[g]? = some ob) (hc : Calls P f args X (RdRes o X.heap.size X)) :
    Calls P f args X fun e w' => ∃ (x : Nd) (ka : Option Addr) (kn kc : Nat) (r : ByteArray) (b : Bool), e = .returned (.tuple #[.agg #[.int .i64 x.k, .int .u64 x.n, .string x.s, .slice ka kn kc], .string r, .bool b]) ∧ Below X.heap.size X w' ∧
      (b = true → o = some (x, r.data.toList) ∧ KidsAt w' (fun g => X.heap.size ≤ g ∧ g < w'.heap.size) x.kids (.slice ka kn kc)) ∧ (b = false → o = none) ∧ w'.heap[g]? = some ob :=
  hc.mono fun _ _ ⟨x, ka, kn, kc, r, b, he, hb, h1, h2⟩ => ⟨x, ka, kn, kc, r, b, he, hb, h1, h2, block_kept h ((Array.getElem?_eq_some_iff.1 h).1) hb⟩

set_option maxRecDepth 30000 in
set_option maxHeartbeats 2000000 in
theorem first_step (d : Nat) (HK : KidsOk d) : FirstOk (d + 1) := by
  intro s lv w hs hlv hd
  have hsI : (s.size : Int) ≤ 100000000 := by omega
  have HKO := Lib.hid HK
  have HLV := Lib.hid hlv
  have hlv20 : ¬ (20 : Int) < lv := by omega
  have hblk := heap_alloc_new w (.cells #[.int .i64 0, .int .u64 0, .string ⟨#[]⟩, .slice none 0 0] 46)
  clear HK hlv
  by_cases h0 : s.size = 0
  · obtain rfl : s = ⟨#[]⟩ := ByteArray.ext (Array.eq_empty_of_size_eq_zero h0)
    go_enter Tryd.func41, Tryd.ntmps41
    go_wp2
    exact bodyPost_ret (v := .tuple #[nodeV 0 0 ⟨#[]⟩ (.slice none 0 0), .string ⟨#[]⟩, .bool false]) (by simp [results, Tryd.results41, go_sem, nodeV]) rfl ⟨⟨0, 0, ⟨#[]⟩, .nil⟩, none, 0, 0, _, _, rfl, (Below.refl _ _).alloc (Nat.le_refl _) _, (fun h => by cases h), fun _ => by simp [parse]⟩
  · have hpos : 0 < s.size := by omega
    have hposI : (1 : Int) ≤ (s.size : Int) := by omega
    have hne : ¬ s.toList = [] := by rw [toList_nil]; omega
    have hne2 : s.toList.isEmpty = false := by rw [isEmpty_size]; simpa using h0
    obtain ⟨c, hc⟩ : ∃ c, c = s[0] := ⟨_, rfl⟩
    have hdat : s.data.toList = c :: (s.extract 1 s.size).data.toList := by
      rw [hc]
      have : s.data.toList = s.data.toList.drop 0 := rfl
      rw [this, List.drop_eq_getElem_cons (by simpa using hpos)]
      congr 1
      simp only [ByteArray.data_extract, Array.toList_extract, List.extract_eq_take_drop]
      exact (List.take_of_length_le (by simp)).symm
    obtain ⟨T, hT⟩ : ∃ T, T = s.extract 1 s.size := ⟨_, rfl⟩
    rw [← hT] at hdat
    have hTs : T.size ≤ 100000000 := by rw [hT]; simp; omega
    have HFS := Lib.hid (firstSize_prog T (w.alloc (.cells #[.int .i64 0, .int .u64 0, .string ⟨#[]⟩, .slice none 0 0] 46)) hTs)
    have HT := Lib.hid hT
    have HC := Lib.hid hc
    have hpar : parse (d + 1) s.data.toList = sizeO (parse d) c (szP 4 T.data.toList) := by rw [hdat, parse]; rfl
    obtain ⟨O, hO⟩ : ∃ O, parse (d + 1) s.data.toList = O := ⟨_, rfl⟩
    rw [hO] at hpar ⊢
    have HO := Lib.hid hpar
    clear hT hc hdat h0 hpar hO
    go_enter Tryd.func41, Tryd.ntmps41
    go_wp2_with fail
    rw [← HT.out]
    refine HFS.out.mono ?_
    rintro e w1 ⟨m, r, b, rfl, hsm, h1, h2⟩
    have hk1 : w1.heap[w.heap.size]? = some (.cells #[.int .i64 0, .int .u64 0, .string ⟨#[]⟩, .slice none 0 0] 46 (0, 0)) := block_kept hblk (B := w.heap.size + 1) (by omega) (hsm.below _)
    have hb1 : Below w.heap.size w w1 := ((Below.refl _ _).alloc (Nat.le_refl _) _).trans (hsm.below _)
    clear HFS
    cases b with
    | false =>
      have hn := h2 rfl
      have hO : Hid (O = none) := Lib.hid (by rw [HO.out, hn]; rfl)
      obtain ⟨c0, c1, c2, c3, f0, f1, f2, f3⟩ := block4 hk1
      clear h1 h2 hn hblk hk1
      go_wp2_with fail
      refine bodyPost_ret (v := .tuple #[nodeV 0 0 ⟨#[]⟩ (.slice none 0 0), .string ⟨#[]⟩, .bool false]) (by simp [results, Tryd.results41, go_sem, nodeV, c0, c1, c2, c3]) rfl ⟨⟨0, 0, ⟨#[]⟩, .nil⟩, none, 0, 0, _, _, rfl, ?_, (fun h => by cases h), fun _ => hO.out⟩
      exact (((hb1.setCell (Nat.le_refl _) _).setCell (Nat.le_refl _) _).setCell (Nat.le_refl _) _).setCell (Nat.le_refl _) _
    | true =>
      have hz := h1 rfl
      obtain ⟨hTl, hm4⟩ := szP_inv 4 _ _ _ hz
      have hm : Lim m := by unfold Lim; exact hm4
      have hr : r.size ≤ 100000000 := by
        have := congrArg List.length hTl
        simp at this; omega
      have hO : Hid (O = bodyP (parse d) c m r.data.toList) := Lib.hid (by rw [HO.out, hz]; rfl)
      have hlt1 : w.heap.size < w1.heap.size := by have := (Array.getElem?_eq_some_iff.1 hk1).1; exact this
      have hlvd : lv = 20 - (d : Int) := by have := HLV.out; omega
      have HLVD := Lib.hid hlvd
      have HHM := Lib.hid hm
      have c256 := s[0].toNat_lt
      obtain ⟨c0, c1, c2, c3, f0, f1, f2, f3⟩ := block4 hk1
      clear h1 h2 hz hTl hm4 hblk hlvd hm
      by_cases k0 : c.toNat = 110
      · have hO2 : Hid (O = (match numP m r.data.toList with | none => none | some (n, t) => some (⟨0, n, ⟨#[]⟩, .nil⟩, t))) := Lib.hid (by rw [hO.out, bodyP, if_pos k0]; rfl)
        have e0 : ((s[0].toNat : Int) == 110) = true := by rw [← HC.out, k0]; rfl
        clear k0
        go_wp2_with fail
        refine (rd_keep w.heap.size hk1 (firstNumber_prog r m w1 hr HHM.out)).mono ?_
        rintro e w2 ⟨x, ka, kn, kc, r2, b2, rfl, hb2, g1, g2, hk2⟩
        obtain ⟨c0, c1, c2, c3, f0, f1, f2, f3⟩ := block4 hk2
        have G1 := Lib.hid g1
        have G2 := Lib.hid g2
        have HK2 := Lib.hid hk2
        clear g1 g2 hk2 hk1
        go_wp2_with fail
        refine bodyPost_ret (v := .tuple #[nodeV x.k x.n x.s (.slice ka kn kc), .string r2, .bool b2]) (by simp [results, Tryd.results41, go_sem, nodeV, c0, c1, c2, c3]) rfl ⟨x, ka, kn, kc, r2, b2, rfl, ?_, fun h => ?_, fun h => ?_⟩
        · have hbb := hb1.trans (hb2.mono hb1.size)
          exact (((hbb.setCell (Nat.le_refl _) _).setCell (Nat.le_refl _) _).setCell (Nat.le_refl _) _).setCell (Nat.le_refl _) _
        · obtain ⟨e1, e2⟩ := G1.out h
          exact ⟨by rw [hO2.out]; exact e1, kids_set4 e2 hlt1 hb1.size⟩
        · rw [hO2.out]; exact G2.out h
      have e0 : ((s[0].toNat : Int) == 110) = false := by rw [← HC.out]; simp; omega
      by_cases k1 : c.toNat = 115
      · have hO2 : Hid (O = (match txtP m r.data.toList with | none => none | some (q, t) => some (⟨1, 0, q, .nil⟩, t))) := Lib.hid (by rw [hO.out, bodyP, if_neg k0, if_pos k1]; rfl)
        have e1 : ((s[0].toNat : Int) == 115) = true := by rw [← HC.out, k1]; rfl
        clear k0 k1
        go_wp2_with fail
        refine (rd_keep w.heap.size hk1 (firstText_prog r m w1 hr)).mono ?_
        rintro e w2 ⟨x, ka, kn, kc, r2, b2, rfl, hb2, g1, g2, hk2⟩
        obtain ⟨c0, c1, c2, c3, f0, f1, f2, f3⟩ := block4 hk2
        have G1 := Lib.hid g1
        have G2 := Lib.hid g2
        have HK2 := Lib.hid hk2
        clear g1 g2 hk2 hk1
        go_wp2_with fail
        refine bodyPost_ret (v := .tuple #[nodeV x.k x.n x.s (.slice ka kn kc), .string r2, .bool b2]) (by simp [results, Tryd.results41, go_sem, nodeV, c0, c1, c2, c3]) rfl ⟨x, ka, kn, kc, r2, b2, rfl, ?_, fun h => ?_, fun h => ?_⟩
        · have hbb := hb1.trans (hb2.mono hb1.size)
          exact (((hbb.setCell (Nat.le_refl _) _).setCell (Nat.le_refl _) _).setCell (Nat.le_refl _) _).setCell (Nat.le_refl _) _
        · obtain ⟨e1, e2⟩ := G1.out h
          exact ⟨by rw [hO2.out]; exact e1, kids_set4 e2 hlt1 hb1.size⟩
        · rw [hO2.out]; exact G2.out h
      have e1 : ((s[0].toNat : Int) == 115) = false := by rw [← HC.out]; simp; omega
      by_cases k2 : c.toNat = 108
      · have hO2 : Hid (O = kidsO (kidsP (parse d) m r.data.toList)) := Lib.hid (by rw [hO.out, bodyP, if_neg k0, if_neg k1, if_pos k2]; rfl)
        have e2 : ((s[0].toNat : Int) == 108) = true := by rw [← HC.out, k2]; rfl
        clear k0 k1 k2
        go_wp2_with fail
        refine (rd_keep w.heap.size hk1 (HKO.out r m lv w1 hr HHM.out HLVD.out (by omega))).mono ?_
        rintro e w2 ⟨x, ka, kn, kc, r2, b2, rfl, hb2, g1, g2, hk2⟩
        obtain ⟨c0, c1, c2, c3, f0, f1, f2, f3⟩ := block4 hk2
        have G1 := Lib.hid g1
        have G2 := Lib.hid g2
        have HK2 := Lib.hid hk2
        clear g1 g2 hk2 hk1
        go_wp2_with fail
        refine bodyPost_ret (v := .tuple #[nodeV x.k x.n x.s (.slice ka kn kc), .string r2, .bool b2]) (by simp [results, Tryd.results41, go_sem, nodeV, c0, c1, c2, c3]) rfl ⟨x, ka, kn, kc, r2, b2, rfl, ?_, fun h => ?_, fun h => ?_⟩
        · have hbb := hb1.trans (hb2.mono hb1.size)
          exact (((hbb.setCell (Nat.le_refl _) _).setCell (Nat.le_refl _) _).setCell (Nat.le_refl _) _).setCell (Nat.le_refl _) _
        · obtain ⟨e1, e2⟩ := G1.out h
          exact ⟨by rw [hO2.out]; exact e1, kids_set4 e2 hlt1 hb1.size⟩
        · rw [hO2.out]; exact G2.out h
      have e2 : ((s[0].toNat : Int) == 108) = false := by rw [← HC.out]; simp; omega
      have hO2 : Hid (O = none) := Lib.hid (by rw [hO.out, bodyP, if_neg k0, if_neg k1, if_neg k2])
      clear k0 k1 k2
      go_wp2_with fail
      refine bodyPost_ret (v := .tuple #[nodeV 0 0 ⟨#[]⟩ (.slice none 0 0), .string ⟨#[]⟩, .bool false]) (by simp [results, Tryd.results41, go_sem, nodeV, c0, c1, c2, c3]) rfl ⟨⟨0, 0, ⟨#[]⟩, .nil⟩, none, 0, 0, _, _, rfl, ?_, (fun h => by cases h), fun _ => hO2.out⟩
      exact (((hb1.setCell (Nat.le_refl _) _).setCell (Nat.le_refl _) _).setCell (Nat.le_refl _) _).setCell (Nat.le_refl _) _
end Go.Proofs.YtpkkdjmcabefbaaDoor.Cod
namespace Go.Proofs.YtpkkdjmcabefbaaDoor.Cod
open Go.RowKit

/-- What is read of the kids from here on, behind those that were read. -/
def restO (f : F) (o : Option (F × List UInt8)) : Option (F × List UInt8) := match o with | none => none | some (h, t) => some (f.app h, t)
theorem restO_nil (o : Option (F × List UInt8)) : restO .nil o = o := by
  cases o with
  | none => rfl
  | some p => rfl
theorem restO_step (p : List UInt8 → Option (Nd × List UInt8)) (f : F) (m : Nat) (l : List UInt8) (x : Nd) (q : List UInt8) (h : p l = some (x, q)) :
    restO f (kidsP p (m + 1) l) = restO (f.app (.cons x.k x.n x.s x.kids .nil)) (kidsP p m q) := by
  rw [kidsP, h]
  simp only []
  cases kidsP p m q with
  | none => rfl
  | some p2 => simp only [restO, F.app_assoc]; rfl
theorem restO_none (p : List UInt8 → Option (Nd × List UInt8)) (f : F) (m : Nat) (l : List UInt8) (h : p l = none) : restO f (kidsP p (m + 1) l) = none := by
  rw [kidsP, h]; rfl

theorem heap_alloc2 (w : World) (o1 o2 : Obj) : ((w.alloc o1).alloc o2).heap[w.heap.size + 1]? = some o2 := by
  have := heap_alloc_new (w.alloc o1) o2
  simpa using this
theorem heap_old2 (w : World) (o1 o2 : Obj) (b : Nat) (h : b < w.heap.size) : ((w.alloc o1).alloc o2).heap[b]? = w.heap[b]? := by
  rw [Below.heap_alloc _ _ _ (by simp; omega), Below.heap_alloc _ _ _ h]

def FkRel (d m : Nat) (O : Option (F × List UInt8)) (w : World) (s0 s15 : Value) (wr : World) : Prop :=
  ∃ (i : Nat) (sr : ByteArray) (f : F) (v : Value) (cs : List Value), s0 = .string sr ∧ s15 = .int .i64 i ∧ i ≤ m ∧ sr.size ≤ 100000000 ∧ Hid (O = restO f (kidsP (parse d) (m - i) sr.data.toList)) ∧ f.len + sr.size ≤ 100000000 ∧
    Hid (wr.heap[w.heap.size]? = some (.cells #[.int .i64 0, .int .u64 0, .string ⟨#[]⟩, .slice none 0 0] 46 (0, 0))) ∧
    Hid (wr.heap[w.heap.size + 1]? = some (.cells #[.int .i64 2, .int .u64 0, .string ⟨#[]⟩, v] 46 (0, 0))) ∧
    Hid (wr.ownsRow (w.heap.size + 2) 46 4 v f.len cs) ∧ Hid (CellsOf wr (fun b => w.heap.size + 2 ≤ b ∧ b < wr.heap.size ∧ v.ownBlock ≠ some b) f cs) ∧ Below w.heap.size w wr ∧ w.heap.size + 2 ≤ wr.heap.size

set_option maxRecDepth 30000 in
set_option maxHeartbeats 2000000 in
theorem kids_step (d : Nat) (HF : FirstOk d) : KidsOk d := by
  intro s m lv w hs hm hlv hd
  obtain ⟨O, hO⟩ : ∃ O, kidsP (parse d) m s.data.toList = O := ⟨_, rfl⟩
  rw [hO]
  have HFO := Lib.hid HF
  have HO := Lib.hid hO
  have HLV := Lib.hid hlv
  have HM := Lib.hid hm
  have hlv1 : wrap64 (lv + 1) = lv + 1 := IntWalk.wrap64_in _ (by omega)
  have hmI : (m : Int) ≤ 268435456 := by unfold Lim at hm; omega
  have hm0 : (0 : Int) ≤ (m : Int) := by omega
  clear hO hlv hm HF
  go_enter Tryd.func63, Tryd.ntmps63
  go_wp2_with fail
  go_loopw [0, 15] (FkRel d m O w) (fun _ i _ => m - (intOf i).toNat)
  case atStart =>
    refine ⟨0, s, .nil, .slice none 0 0, [], rfl, rfl, by omega, hs, Lib.hid ?_, ?_, Lib.hid ?_, Lib.hid ?_, Lib.hid ?_, Lib.hid ?_, ?_, ?_⟩
    · rw [restO_nil]; exact HO.out.symm
    · simp [F.len]; exact hs
    · rw [Below.heap_alloc _ _ _ (by simp)]; exact heap_alloc_new w _
    · exact heap_alloc2 w _ _
    · exact World.ownsRow_nil _ _ _ _
    · exact rfl
    · exact ((Below.refl _ w).alloc (Nat.le_refl _) _).alloc (by simp) _
    · simp
  case round =>
    obtain ⟨i, sr, f, v, cs, rfl, rfl, hi, hsr, hZ, hfl, hz6, hz9, hown, hcs, hb, hsz⟩ := hrel
    by_cases hlt : i < m
    · have hi0 : (0 : Int) ≤ (i : Int) := by omega
      have hi1 : (i : Int) ≤ 268435456 := by omega
      have hcall := Lib.hid (rd_keep w.heap.size hz6.out (HFO.out sr (lv + 1) wr hsr (by have := HLV.out; omega) hd))
      go_wp2_with fail
      refine hcall.out.mono ?_
      rintro e w4 ⟨x, ka, kn, kc, r, b, rfl, hb4, g1, g2, hk6⟩
      obtain ⟨c0, c1, c2, c3, f0, f1, f2, f3⟩ := block4 hk6
      have hlt6 : w.heap.size < w4.heap.size := by have := hb4.size; omega
      clear hcall
      cases b with
      | false =>
        have hn := g2 rfl
        have hO2 : Hid (kidsO O = none) := Lib.hid (by rw [hZ.out, show m - i = (m - i - 1) + 1 by omega, restO_none _ _ _ _ hn]; rfl)
        clear g1 g2 hn hk6
        go_wp2_with fail
        refine bodyPost_ret (v := .tuple #[nodeV 0 0 ⟨#[]⟩ (.slice none 0 0), .string ⟨#[]⟩, .bool false]) (by simp [results, Tryd.results63, go_sem, nodeV, c0, c1, c2, c3, hlt6]) rfl ⟨⟨0, 0, ⟨#[]⟩, .nil⟩, none, 0, 0, _, _, rfl, ?_, (fun h => by cases h), fun _ => hO2.out⟩
        have hbb := hb.trans (hb4.mono hb.size)
        exact ((((hbb.setCell (Nat.le_refl _) _).setCell (Nat.le_refl _) _).setCell (Nat.le_refl _) _).setCell (Nat.le_refl _) _).alloc (by simp only [size_setCell]; omega) _
      | true =>
        obtain ⟨hp, hkid⟩ := g1 rfl
        have hO2 : Hid (O = restO (f.app (.cons x.k x.n x.s x.kids .nil)) (kidsP (parse d) (m - (i + 1)) r.data.toList)) := Lib.hid (by rw [hZ.out, show m - i = (m - (i + 1)) + 1 by omega, restO_step _ _ _ _ _ _ hp])
        have hinv := parse_inv d _ _ _ hp
        have hrl : r.size + 1 ≤ sr.size := by
          have h1 := congrArg List.length hinv.1
          have h2 : 1 ≤ x.bytes.length := by
            unfold Nd.bytes nodeL; split
            · simp
            · split <;> simp
          simp at h1; omega
        have hz9' : Hid (w4.heap[w.heap.size + 1]? = some (.cells #[.int .i64 2, .int .u64 0, .string ⟨#[]⟩, v] 46 (0, 0))) := Lib.hid (block_kept hz9.out (by omega) hb4)
        obtain ⟨_, _, _, d3, _, _, _, _⟩ := block4 hz9'.out
        have hlt9 : w.heap.size + 1 < w4.heap.size := by have := hb4.size; omega
        have hvlt : Hid (∀ k, v.ownBlock = some k → w.heap.size + 2 ≤ k ∧ k < wr.heap.size) := Lib.hid (World.ownsRow.lt hown.out)
        have hown4 : Hid (w4.ownsRow (w.heap.size + 2) 46 4 v f.len cs) := Lib.hid (ownN_mv hown.out (fun k hk => hb4.block k (hvlt.out k hk).2))
        have HKID := Lib.hid hkid
        have HG := Lib.hid hk6
        have hfl40 : f.len + 1 ≤ 100000000 := by omega
        clear g1 g2 hp hinv hkid hk6 c0 c1 c2 c3 f0 f1 f2 f3
        go_wp2_with (at_builtin; refine list_appN Tryd.nodeSl rfl _ _ rfl (w.heap.size + 2) v f.len cs rfl ((hown4.out.alloc _).alloc _) _ 1 1 [.int .i64 x.k, .int .u64 x.n, .string x.s, .slice ka kn kc] rfl (heap_alloc2 w4 _ _) rfl (by simp [Value.oneCell']) (by omega) (by unfold maxLen; omega) (by omega) (by simp; omega) ?_; intro g cap w6 hown6 hgr6; have hne9 : Hid (v.ownBlock ≠ some (w.heap.size + 1)) := Lib.hid (fun h => by have := hvlt.out _ h; omega); have hz96 : Hid (w6.heap[w.heap.size + 1]? = some (.cells #[.int .i64 2, .int .u64 0, .string ⟨#[]⟩, v] 46 (0, 0))) := Lib.hid (by rw [hgr6.block (by simp; omega) hne9.out, heap_old2 _ _ _ _ hlt9]; exact hz9'.out); obtain ⟨_, _, _, e3, _, _, _, q3⟩ := block4 hz96.out)
        have hb6 : Below (w.heap.size + 2) w4 w6 := ((((Below.refl _ w4).alloc (by omega) _).alloc (by simp; omega) _)).trans (hgr6.below (by simp; omega) (fun k hk => (hvlt.out k hk).1))
        have hs6 : w4.heap.size + 2 ≤ w6.heap.size := by have := hgr6.size; simpa using this
        have hgb : w.heap.size + 2 ≤ g := (World.ownsRow.lt hown6 g rfl).1
        have hgl : v.ownBlock = some g ∨ w4.heap.size + 2 ≤ g := by have := hgr6.loc g rfl; simpa using this
        have hs4 := hb4.size
        have hold : ∀ b, w.heap.size + 2 ≤ b → b < w4.heap.size → v.ownBlock ≠ some b → w6.heap[b]? = w4.heap[b]? := fun b h1 h2 h3 => by
          rw [hgr6.block (by simp; omega) h3, heap_old2 _ _ _ _ h2]
        go_roundw
        case rel =>
          refine ⟨i + 1, r, f.app (.cons x.k x.n x.s x.kids .nil), .slice (some ⟨g, 0, none⟩) (f.len + 1) cap, cs ++ [.int .i64 x.k, .int .u64 x.n, .string x.s, .slice ka kn kc], rfl, by go_num, by omega, by omega, hO2, by rw [F.app_len]; simp [F.len]; omega, Lib.hid ?_, Lib.hid ?_, Lib.hid ?_, Lib.hid (CellsOf.snoc (s := x.s) (c := x.kids) ?_ _ cs ?_), ?_, ?_⟩
          · rw [setCell_ne _ _ _ _ _ (by omega), hb6.block _ (by omega)]; exact HG.out
          · exact heap_setCell_same w6 _ 3 _ _ _ hz96.out
          · have e1 : (f.app (.cons x.k x.n x.s x.kids .nil)).len = f.len + 1 := by rw [F.app_len]; rfl
            rw [e1]
            exact ownN_mv hown6 (fun k hk => setCell_ne _ _ _ _ _ (by have := (World.ownsRow.lt hown6 k hk).1; omega))
          · refine HKID.out.mono (fun b hb => ⟨by omega, ?_, ?_⟩) (fun b hb => ?_)
            · rw [size_setCell]; omega
            · intro h
              have hgb2 : g = b := by simpa [Value.ownBlock] using h
              rcases hgl with h1 | h1
              · have := (hvlt.out g h1).2; omega
              · omega
            · rw [setCell_ne _ _ _ _ _ (by omega)]
              exact hold b (by omega) hb.2 (fun h => by have := (hvlt.out b h).2; omega)
          · have hx : ∀ b, (w.heap.size + 2 ≤ b ∧ b < wr.heap.size ∧ v.ownBlock ≠ some b) → b < (w6.setCell ⟨w.heap.size + 1, 3, none⟩ (.slice (some ⟨g, 0, none⟩) (f.len + 1) cap)).heap.size ∧ (Value.slice (some ⟨g, 0, none⟩) (f.len + 1) cap).ownBlock ≠ some b ∧
                (w6.setCell ⟨w.heap.size + 1, 3, none⟩ (.slice (some ⟨g, 0, none⟩) (f.len + 1) cap)).heap[b]? = wr.heap[b]? := fun b hb => by
              refine ⟨by rw [size_setCell]; omega, fun h => ?_, ?_⟩
              · have hgb2 : g = b := by simpa [Value.ownBlock] using h
                rcases hgl with h1 | h1
                · exact hb.2.2 (by rw [h1, hgb2])
                · omega
              · rw [setCell_ne _ _ _ _ _ (by omega), hold b hb.1 (by omega) hb.2.2]
                exact hb4.block b hb.2.1
            exact CellsOf.mono (fun b hb => ⟨⟨hb.1, (hx b hb).1, (hx b hb).2.1⟩, (hx b hb).2.2⟩) f cs hcs.out
          · exact ((hb.trans (hb4.mono hb.size)).trans (hb6.mono (by omega))).setCell (by simp) _
          · rw [size_setCell]; omega
        case measure => rw [intOf_int, intOf_int]; omega
    · obtain rfl : i = m := by omega
      obtain ⟨c0, c1, c2, c3, f0, f1, f2, f3⟩ := block4 hz6.out
      obtain ⟨d0, d1, d2, d3, _, _, _, _⟩ := block4 hz9.out
      have hO2 : Hid (O = some (f, sr.data.toList)) := Lib.hid (by
        rw [hZ.out, show i - i = 0 by omega]; simp only [kidsP, restO, F.app_nil])
      obtain ⟨va, vc, hv⟩ : ∃ a c, v = .slice a f.len c := by
        rcases hown.out.2 with ⟨h1, h2⟩ | ⟨g, cap, cur, h1, _⟩
        · exact ⟨none, 0, by rw [h1, h2]⟩
        · exact ⟨_, cap, h1⟩
      subst hv
      clear hlt
      go_wp2_with fail
      refine bodyPost_ret (v := .tuple #[nodeV 2 0 ⟨#[]⟩ (.slice va f.len vc), .string sr, .bool true]) (by simp [results, Tryd.results63, go_sem, nodeV, c0, c1, c2, c3]) rfl ⟨⟨2, 0, ⟨#[]⟩, f⟩, va, f.len, vc, _, _, rfl, ?_, fun _ => ⟨by rw [hO2.out]; rfl, ?_⟩, (fun h => by cases h)⟩
      · exact (((hb.setCell (Nat.le_refl _) _).setCell (Nat.le_refl _) _).setCell (Nat.le_refl _) _).setCell (Nat.le_refl _) _
      · have hk : KidsAt wr (fun b => w.heap.size + 2 ≤ b ∧ b < wr.heap.size) f (.slice va f.len vc) := kids_of_own hown.out hcs.out (fun b hb => ⟨hb.1, hb.2.1⟩) (fun k hk => World.ownsRow.lt hown.out k hk)
        exact kids_set4 hk (by omega) (by omega)

set_option maxRecDepth 30000 in
set_option maxHeartbeats 1000000 in
theorem first_zero : FirstOk 0 := by
  intro s lv w hs hlv hd
  obtain rfl : lv = 21 := by omega
  have hsI : (s.size : Int) ≤ 100000000 := by omega
  clear hlv
  have hp : parse 0 s.data.toList = none := by rw [parse]
  rw [hp]
  by_cases h0 : s.size = 0
  · obtain rfl : s = ⟨#[]⟩ := ByteArray.ext (Array.eq_empty_of_size_eq_zero h0)
    go_enter Tryd.func41, Tryd.ntmps41
    go_wp2
    exact bodyPost_ret (v := .tuple #[nodeV 0 0 ⟨#[]⟩ (.slice none 0 0), .string ⟨#[]⟩, .bool false]) (by simp [results, Tryd.results41, go_sem, nodeV]) rfl ⟨⟨0, 0, ⟨#[]⟩, .nil⟩, none, 0, 0, _, _, rfl, (Below.refl _ _).alloc (Nat.le_refl _) _, (fun h => by cases h), fun _ => rfl⟩
  · have hne : ¬ s.toList = [] := by rw [toList_nil]; omega
    have hne2 : s.toList.isEmpty = false := by rw [isEmpty_size]; simpa using h0
    go_enter Tryd.func41, Tryd.ntmps41
    go_wp2
    exact bodyPost_ret (v := .tuple #[nodeV 0 0 ⟨#[]⟩ (.slice none 0 0), .string ⟨#[]⟩, .bool false]) (by simp [results, Tryd.results41, go_sem, nodeV]) rfl ⟨⟨0, 0, ⟨#[]⟩, .nil⟩, none, 0, 0, _, _, rfl, (Below.refl _ _).alloc (Nat.le_refl _) _, (fun h => by cases h), fun _ => rfl⟩

theorem first_ok : ∀ d, FirstOk d
  | 0 => first_zero
  | d + 1 => first_step d (kids_step d (first_ok d))

def readO (l : List UInt8) : Option Nd := match parse 20 l with | some (x, []) => some x | _ => none
def ReadRes (o : Option Nd) (B : Nat) (w : World) (e : Ending) (w' : World) : Prop :=
  ∃ (x : Nd) (ka : Option Addr) (kn kc : Nat) (b : Bool), e = .returned (.tuple #[nodeV x.k x.n x.s (.slice ka kn kc), .bool b]) ∧ Below B w w' ∧
    (b = true → o = some x) ∧ (b = false → o = none ∧ x = ⟨0, 0, ⟨#[]⟩, .nil⟩) ∧ KidsAt w' (fun g => B ≤ g ∧ g < w'.heap.size) x.kids (.slice ka kn kc)

set_option maxRecDepth 30000 in
set_option maxHeartbeats 1000000 in
theorem read_prog (s : ByteArray) (w : World) (hs : s.size ≤ 10000000) : Calls Tryd.prog 20 #[.string s] w (ReadRes (readO s.data.toList) w.heap.size w) := by
  have hsI : (s.size : Int) ≤ 10000000 := by omega
  have hblk := heap_alloc_new w (.cells #[.int .i64 0, .int .u64 0, .string ⟨#[]⟩, .slice none 0 0] 46)
  have hcall := Lib.hid (rd_keep w.heap.size hblk (first_ok 20 s 1 (w.alloc (.cells #[.int .i64 0, .int .u64 0, .string ⟨#[]⟩, .slice none 0 0] 46)) (by omega) (by decide) (by decide)))
  obtain ⟨O, hO⟩ : ∃ O, readO s.data.toList = O := ⟨_, rfl⟩
  rw [hO]
  have HO := Lib.hid hO
  clear hO hblk
  go_enter Tryd.func20, Tryd.ntmps20
  go_wp2_with fail
  refine hcall.out.mono ?_
  rintro e w4 ⟨x, ka, kn, kc, r, b, rfl, hb4, g1, g2, hk6⟩
  obtain ⟨c0, c1, c2, c3, f0, f1, f2, f3⟩ := block4 hk6
  have hlt6 : w.heap.size < w4.heap.size := (Array.getElem?_eq_some_iff.1 hk6).1
  have hbb : Below w.heap.size w w4 := ((Below.refl _ _).alloc (Nat.le_refl _) _).trans (hb4.mono (by simp))
  clear hcall hk6
  cases b with
  | false =>
    have hO2 : Hid (O = none) := Lib.hid (by rw [← HO.out, readO, g2 rfl])
    clear g1 g2
    go_wp2_with fail
    refine bodyPost_ret (v := .tuple #[nodeV 0 0 ⟨#[]⟩ (.slice none 0 0), .bool false]) (by simp [results, Tryd.results20, go_sem, nodeV, c0, c1, c2, c3, hlt6]) rfl ⟨⟨0, 0, ⟨#[]⟩, .nil⟩, none, 0, 0, _, rfl, ?_, (fun h => by cases h), fun _ => ⟨hO2.out, rfl⟩, .inl ⟨rfl, rfl⟩⟩
    exact ((((hbb.setCell (Nat.le_refl _) _).setCell (Nat.le_refl _) _).setCell (Nat.le_refl _) _).setCell (Nat.le_refl _) _).alloc (by simp only [size_setCell]; omega) _
  | true =>
    obtain ⟨hp, hkid⟩ := g1 rfl
    have HP := Lib.hid hp
    have HKID := Lib.hid hkid
    clear g1 g2 hp hkid
    by_cases h0 : r.size = 0
    · obtain rfl : r = ⟨#[]⟩ := ByteArray.ext (Array.eq_empty_of_size_eq_zero h0)
      have hO2 : Hid (O = some x) := Lib.hid (by rw [← HO.out, readO, HP.out])
      clear h0
      go_wp2_with fail
      refine bodyPost_ret (v := .tuple #[nodeV x.k x.n x.s (.slice ka kn kc), .bool true]) (by simp [results, Tryd.results20, go_sem, nodeV, c0, c1, c2, c3, hlt6]) rfl ⟨x, ka, kn, kc, _, rfl, ?_, fun _ => hO2.out, (fun h => by cases h), ?_⟩
      · exact ((((hbb.setCell (Nat.le_refl _) _).setCell (Nat.le_refl _) _).setCell (Nat.le_refl _) _).setCell (Nat.le_refl _) _).alloc (by simp only [size_setCell]; omega) _
      · refine (kids_set4 HKID.out (by simp) (by simp : w.heap.size ≤ _)).mono (fun b hb => ⟨hb.1, by simp at hb ⊢; omega⟩) (fun b hb => Below.heap_alloc _ _ _ hb.2)
    · have hne : ¬ r.toList = [] := by rw [toList_nil]; omega
      have hne2 : r.toList.isEmpty = false := by rw [isEmpty_size]; simpa using h0
      have hO2 : Hid (O = none) := Lib.hid (by
        rw [← HO.out, readO, HP.out]
        have : r.data.toList ≠ [] := by intro h; apply h0; have := congrArg List.length h; simpa using this
        cases hq : r.data.toList with
        | nil => exact absurd hq this
        | cons a l => rfl)
      go_wp2_with fail
      refine bodyPost_ret (v := .tuple #[nodeV 0 0 ⟨#[]⟩ (.slice none 0 0), .bool false]) (by simp [results, Tryd.results20, go_sem, nodeV, c0, c1, c2, c3, hlt6]) rfl ⟨⟨0, 0, ⟨#[]⟩, .nil⟩, none, 0, 0, _, rfl, ?_, (fun h => by cases h), fun _ => ⟨hO2.out, rfl⟩, .inl ⟨rfl, rfl⟩⟩
      exact ((((hbb.setCell (Nat.le_refl _) _).setCell (Nat.le_refl _) _).setCell (Nat.le_refl _) _).setCell (Nat.le_refl _) _).alloc (by simp only [size_setCell]; omega) _
end Go.Proofs.YtpkkdjmcabefbaaDoor.Cod
namespace Go.Proofs.YtpkkdjmcabefbaaDoor.Cod
open Go.RowKit

def EndsOk (D : Nat) : Prop := ∀ (f : F) (kv : Value) (lv : Int) (S : Nat → Prop) (w : World), f.deep < D → Lim f.len → f.ok → 1 ≤ lv → lv + f.deep ≤ 60000 → KidsAt w S f kv →
  Calls Tryd.prog 53 #[kv, .int .i64 lv] w fun e w' => e = .returned (.bool true) ∧ w = w'

set_option maxRecDepth 30000 in
set_option maxHeartbeats 1000000 in
theorem ends_step (D : Nat) (IH : EndsOk D) : EndsOk (D + 1) := by
  intro f kv lv S w hD hlen hok hl1 hl2 hk
  have HIH := Lib.hid IH
  have HK := Lib.hid hk
  have HOK := Lib.hid hok
  obtain ⟨ka, kc, rfl⟩ := hk.shape
  have hlI : (f.len : Int) ≤ 268435456 := by unfold Lim at hlen; omega
  clear IH hk hok
  go_enter Tryd.func53, Tryd.ntmps53
  go_wp2_with fail
  go_loop [8] (fun i => ∃ k : Nat, k ≤ f.len ∧ i = .int .i64 k) (fun i => f.len - (intOf i).toNat)
  case atStart => exact ⟨0, by omega, rfl⟩
  case round =>
    obtain ⟨k, hk, rfl⟩ := hrel
    by_cases hlt : k < f.len
    · have hk0 : (0 : Int) ≤ (k : Int) := by omega
      obtain ⟨g, o, cap, hkv, hgB, hl⟩ := HK.out.lies (by omega)
      injection hkv with e1 _ e2
      subst e1 e2
      obtain ⟨k', n', s', c', hdrop⟩ := F.drop_at f k hlt
      have hli := Lies.drop k f g o hl
      rw [hdrop] at hli
      obtain ⟨⟨kv', l0, l1, l2, l3, hk'⟩, _⟩ := lies_cons.1 hli
      obtain ⟨ka', kc', rfl⟩ := hk'.shape
      have hdeep : c'.deep + 1 ≤ f.deep := by
        have e1 := F.drop_deep f k
        rw [hdrop] at e1
        simp only [F.deep] at e1
        omega
      have hok' := F.drop_ok f k HOK.out
      rw [hdrop] at hok'
      by_cases hc0 : c'.len = 0
      · have hz : decide ((0 : Int) < (c'.len : Int)) = false := by simp; omega
        have hzz : ¬ (0 : Int) < (c'.len : Int) := by omega
        clear hli hl hk' hdrop hok'
        go_wp2_with fail
        go_round
        case rel => exact ⟨k + 1, by omega, by go_num⟩
        case measure => rw [intOf_int, intOf_int]; omega
      · have hz : (0 : Int) < (c'.len : Int) := by omega
        have hlv : (lv == 65536) = false := by simp; omega
        have hlv2 : lv ≤ 60000 := by omega
        have hlv3 : 0 ≤ lv := by omega
        have hcall := Lib.hid (HIH.out c' (.slice ka' c'.len kc') (lv + 1) S w (by omega) hok'.2.2.1 hok'.2.2.2.1 (by omega) (by omega) hk')
        clear hli hl hk' hdrop hok' hdeep hl2
        go_wp2_with fail
        refine hcall.out.mono ?_
        rintro e w' ⟨rfl, rfl⟩
        go_wp2_with fail
        go_round
        case rel => exact ⟨k + 1, by omega, by go_num⟩
        case measure => rw [intOf_int, intOf_int]; omega
    · obtain rfl : k = f.len := by omega
      go_wp2
      go_ret
      exact ⟨rfl, rfl⟩

theorem ends_ok (D : Nat) : EndsOk D := by
  induction D with
  | zero => intro _ _ _ _ _ h; exact absurd h (Nat.not_lt_zero _)
  | succ D ih => exact ends_step D ih

theorem cells_of_lies {w : World} {S : Nat → Prop} (f : F) : ∀ (g o : Nat), Lies w S f g o → ∃ cs, CellsOf w S f cs ∧ (∀ j u, cs[j]? = some u → w.cell? ⟨g, o + j, none⟩ = some u) ∧ (∀ u ∈ cs, u.oneCell' = true) := by
  induction f with
  | nil => intro g o _; exact ⟨[], rfl, by simp, by simp⟩
  | cons k n s c r _ ih =>
    intro g o h
    obtain ⟨⟨v, h1, h2, h3, h4, hk⟩, hr⟩ := lies_cons.1 h
    obtain ⟨cs, e1, e2, e3⟩ := ih g (o + 4) hr
    obtain ⟨a, cap, rfl⟩ := hk.shape
    refine ⟨.int .i64 k :: .int .u64 n :: .string s :: .slice a c.len cap :: cs, ⟨_, cs, rfl, hk, e1⟩, fun j u hj => ?_, fun u hu => ?_⟩
    · rcases j with _ | _ | _ | _ | j
      · simp at hj; rw [← hj]; exact h1
      · simp at hj; rw [← hj]; exact h2
      · simp at hj; rw [← hj]; exact h3
      · simp at hj; rw [← hj]; exact h4
      · have := e2 j u (by simpa using hj)
        rwa [show o + 4 + j = o + (j + 1 + 1 + 1 + 1) by omega] at this
    · simp only [List.mem_cons] at hu
      rcases hu with hu | hu | hu | hu | hu
      · rw [hu]; rfl
      · rw [hu]; rfl
      · rw [hu]; rfl
      · rw [hu]; rfl
      · exact e3 u hu

theorem cell_alloc {w : World} {a : Addr} {u : Value} {ob : Obj} (h : w.cell? a = some u) : (w.alloc ob).cell? a = some u := by
  rw [World.cell?_alloc_some w a ob (by rw [h]; rfl)]; exact h
theorem cell_add {w : World} {g o j : Nat} {u : Value} (h : w.cell? ⟨g, o + j, none⟩ = some u) : w.cell? ((⟨g, o, none⟩ : Addr).add j) = some u := by
  unfold Addr.add
  split
  · rename_i h0; subst h0; exact h
  · exact h

set_option maxRecDepth 30000 in
set_option maxHeartbeats 1000000 in
theorem sclone_prog (f : F) (g o kc : Nat) (S : Nat → Prop) (w : World) (h0 : 0 < f.len) (hlen : f.len < 268435456) (cs : List Value) (hcs : CellsOf w S f cs) (hat : ∀ j u, cs[j]? = some u → w.cell? ⟨g, o + j, none⟩ = some u) (h1 : ∀ u ∈ cs, u.oneCell' = true) :
    Calls Tryd.prog 54 #[.slice (some ⟨g, o, none⟩) f.len kc] w fun e w' => ∃ gn cap, e = .returned (.slice (some ⟨gn, 0, none⟩) f.len cap) ∧ Below w.heap.size w w' ∧
      w'.ownsRow w.heap.size 46 4 (.slice (some ⟨gn, 0, none⟩) f.len cap) f.len cs := by
  have hl := hcs.length
  have HL := Lib.hid hl
  have HAT := Lib.hid hat
  have H1 := Lib.hid h1
  have hlI : (f.len : Int) ≤ 268435456 := by omega
  have q25 : ∀ W, (binOp .eql 44 (.slice (some ⟨g, o, none⟩) f.len kc) (.slice none 0 0)).run Tryd.prog W = .ok (.bool false) W := fun W => Lib.run_eql_slice_some_nil W _ _ _ Tryd.underlying44
  clear hat h1 hl hcs
  go_enter Tryd.func54, Tryd.ntmps54
  obtain ⟨i0, hi, hz0, hz1, hz2⟩ := info_parts Tryd.nodeSl.info
  go_wp2_with (at_builtin; refine wpList_append_lies _ rfl _ _ _ rfl w.heap.size 46 i0 _ 4 56 Tryd.nodeSl.und hi hz0 hz1 hz2 Tryd.nodeSl.zc Tryd.nodeSl.pos _ 0 [] rfl (World.ownsRow_made w #[] 0 (Nat.le_refl _) (by decide) rfl) ⟨g, o, none⟩ f.len kc cs rfl HL.out (fun j u hu => cell_add (cell_alloc (HAT.out j u hu))) H1.out h0 (by unfold maxLen; omega) (by omega) (by simp) _ rfl ?_; intro gn cap w' h2 h3 h4 h5)
  go_ret
  have hb : Below w.heap.size w w' := ((Below.refl _ w).alloc (Nat.le_refl _) _).grown h3 (by simp) (fun k hk => by
    have h' : some w.heap.size = some k := hk
    have := Option.some.inj h'
    omega)
  simp only [Nat.zero_add, List.nil_append] at h2
  exact ⟨gn, cap, by simp, hb, h2⟩

def CpRes (f : F) (w : World) (e : Ending) (w' : World) : Prop :=
  ∃ a cap, e = .returned (.slice a f.len cap) ∧ Below w.heap.size w w' ∧ KidsAt w' (fun b => w.heap.size ≤ b ∧ b < w'.heap.size) f (.slice a f.len cap)
def CopiedOk (D : Nat) : Prop := ∀ (f : F) (kv : Value) (S : Nat → Prop) (w : World), f.deep < D → Lim f.len → f.ok → KidsAt w S f kv → (∀ b, S b → b < w.heap.size) →
  Calls Tryd.prog 55 #[kv] w (CpRes f w)

/-- The first nodes have kids of their own, the others have the old ones. -/
def CpRel (f : F) (S : Nat → Prop) (w : World) (gn cap : Nat) (i : Value) (wr : World) : Prop :=
  ∃ (k : Nat) (f1 f2 : F) (c1 c2 : List Value) (cur : Array Value), i = .int .i64 k ∧ Hid (f1.app f2 = f) ∧ f1.len = k ∧ Hid (wr.heap[gn]? = some (.cells cur 46 (0, 0))) ∧ Hid (cur.size = cap * 4) ∧ Hid (cur.toList.take (f.len * 4) = c1 ++ c2) ∧
    Hid (CellsOf wr (fun b => w.heap.size ≤ b ∧ b < wr.heap.size ∧ b ≠ gn) f1 c1) ∧ Hid (CellsOf wr S f2 c2) ∧ Below w.heap.size w wr ∧ gn < wr.heap.size

theorem take_cell {cur : Array Value} {n : Nat} {l : List Value} (h : cur.toList.take n = l) {j : Nat} {u : Value} (hu : l[j]? = some u) : cur[j]? = some u := by
  rw [← h, List.getElem?_take] at hu
  split at hu
  · simpa using hu
  · cases hu
theorem deep_app : ∀ (f g : F), (f.app g).deep = max f.deep g.deep
  | .nil, g => by simp [F.app, F.deep]
  | .cons k n s c r, g => by simp only [F.app, F.deep]; rw [deep_app r g]; omega
theorem ok_app : ∀ (f g : F), (f.app g).ok ↔ f.ok ∧ g.ok
  | .nil, g => by simp [F.app, F.ok]
  | .cons k n s c r, g => by simp only [F.app, F.ok]; rw [ok_app r g]; constructor
                             · rintro ⟨a, b, c, d, e, f⟩; exact ⟨⟨a, b, c, d, e⟩, f⟩
                             · rintro ⟨⟨a, b, c, d, e⟩, f⟩; exact ⟨a, b, c, d, e, f⟩

set_option maxRecDepth 30000 in
set_option maxHeartbeats 1000000 in
theorem copied_step (D : Nat) (IH : CopiedOk D) : CopiedOk (D + 1) := by
  intro f kv S w hD hlen hok hk hS
  have HIH := Lib.hid IH
  have HOK := Lib.hid hok
  have HS := Lib.hid hS
  clear IH hok hS
  rcases Nat.eq_zero_or_pos f.len with h0 | h0
  · obtain ⟨a, c, rfl⟩ := hk.shape
    have h0' : (f.len : Int) = 0 := by omega
    have HE := Lib.hid h0
    have hne : ((f.len : Int) == 0) = true := by rw [h0]; rfl
    clear hk h0 h0'
    go_enter Tryd.func55, Tryd.ntmps55
    go_wp2
    go_ret
    exact ⟨none, 0, by rw [HE.out]; rfl, Below.refl _ _, .inl ⟨by rw [HE.out], HE.out⟩⟩
  · obtain ⟨g, o, kc, rfl, hSg, hl⟩ := hk.lies h0
    obtain ⟨cs, hcs, hat, h1⟩ := cells_of_lies f g o hl
    have hcall := Lib.hid (sclone_prog f g o kc S w h0 (by unfold Lim at hlen; exact hlen) cs hcs hat h1)
    have HCS := Lib.hid hcs
    have h0' : (0 : Int) < (f.len : Int) := by omega
    have hne : ((f.len : Int) == 0) = false := by simp; omega
    have hlI : (f.len : Int) ≤ 268435456 := by unfold Lim at hlen; omega
    clear hcs hat h1 hl hk
    go_enter Tryd.func55, Tryd.ntmps55
    go_wp2_with fail
    refine hcall.out.mono ?_
    rintro e w1 ⟨gn, cap, rfl, hb1, hown1⟩
    clear hcall
    have hgn := World.ownsRow.lt hown1 gn rfl
    rcases hown1.2 with ⟨hx, _⟩ | ⟨g2, cap2, cur, hx, _, hblk, hnc, _, hcsz, htk⟩
    · cases hx
    injection hx with e1 e2 e3
    injection e1 with e1
    injection e1 with e1
    subst e1 e3
    have HB := Lib.hid hblk
    have HCZ := Lib.hid hcsz
    have HTK := Lib.hid htk
    have HNC := Lib.hid hnc
    clear hblk hcsz htk hown1 hnc
    go_wp2_with fail
    go_loopw [12] (CpRel f S w gn cap) (fun i _ => f.len - (intOf i).toNat)
    case atStart =>
      exact ⟨0, .nil, f, [], cs, cur, rfl, Lib.hid rfl, rfl, HB, HCZ, Lib.hid (by rw [HTK.out]; rfl), Lib.hid rfl, Lib.hid (CellsOf.mono (fun b hb => ⟨hb, hb1.block b (HS.out b hb)⟩) f cs HCS.out), hb1, hgn.2⟩
    case round =>
      obtain ⟨k, f1, f2, c1, c2, cur, rfl, happ, hk, hblk, hcz, htk, hc1, hc2, hb, hgl⟩ := hrel
      by_cases hlt : k < f.len
      · cases f2 with
        | nil => have := happ.out; rw [F.app_nil] at this; subst this; omega
        | cons k' n' s' c' r =>
          obtain ⟨v', rest, hc2e, hkid, hrest⟩ := hc2.out
          obtain ⟨ka, kc', rfl⟩ := hkid.shape
          have hc1l := (hc1.out).length
          have hk0 : (0 : Int) ≤ (k : Int) := by omega
          have hkI : (k : Int) ≤ 268435456 := by omega
          have hat : cur[k * 4 + 3]? = some (.slice ka c'.len kc') := take_cell htk.out (by
            rw [hc2e, List.getElem?_append_right (by omega), hc1l, hk, show k * 4 + 3 - k * 4 = 3 by omega]; rfl)
          have l3 : wr.cell? ⟨gn, k * 4 + 3, none⟩ = some (.slice ka c'.len kc') := by
            simp only [World.cell?, hblk.out]; simpa using hat
          have hokr := (ok_app f1 _).1 (by rw [happ.out]; exact HOK.out)
          have hdp : c'.deep < D := by
            have h1 := deep_app f1 (.cons k' n' s' c' r)
            rw [happ.out] at h1
            simp only [F.deep] at h1
            omega
          have hcall := Lib.hid (HIH.out c' (.slice ka c'.len kc') S wr hdp (by unfold Lim; exact hokr.2.2.2.1) hokr.2.2.2.2.1 hkid (fun b hb2 => Nat.lt_of_lt_of_le (HS.out b hb2) hb.size))
          have HHK := Lib.hid hk
          have HC1L := Lib.hid hc1l
          have HRest := Lib.hid hrest
          have HC2E := Lib.hid hc2e
          have HAT := Lib.hid hat
          clear hat hokr hkid hrest hc2e hc2 hk hc1l
          go_wp2_with fail
          refine hcall.out.mono ?_
          rintro e w2 ⟨a2, cap2, rfl, hb2, hk2⟩
          have hblk2 : Hid (w2.heap[gn]? = some (.cells cur 46 (0, 0))) := Lib.hid (by rw [hb2.block gn hgl]; exact hblk.out)
          have q3 : w2.cell? ⟨gn, k * 4 + 3, none⟩ = some (.slice ka c'.len kc') := by
            simp only [World.cell?, hblk2.out]; simpa using HAT.out
          have q4 : w2.frozen? ⟨gn, k * 4 + 3, none⟩ = false := by simp [World.frozen?, hblk2.out]
          have HK2 := Lib.hid hk2
          clear hcall hk2
          go_wp2_with fail
          have hs2 := hb2.size
          go_roundw
          case rel =>
            refine ⟨k + 1, f1.app (.cons k' n' s' c' .nil), r, c1 ++ [.int .i64 k', .int .u64 n', .string s', .slice a2 c'.len cap2], rest, cur.setIfInBounds (k * 4 + 3) (.slice a2 c'.len cap2), by go_num, Lib.hid ?_, ?_, Lib.hid ?_, Lib.hid ?_, Lib.hid ?_, Lib.hid (CellsOf.snoc (s := s') (c := c') ?_ f1 c1 ?_), Lib.hid ?_, ?_, ?_⟩
            · rw [F.app_assoc]; exact happ.out
            · rw [F.app_len]; have := HHK.out; simp [F.len]; omega
            · exact heap_setCell_same w2 gn _ cur _ _ hblk2.out
            · rw [Array.size_setIfInBounds]; exact hcz.out
            · rw [Array.toList_setIfInBounds, List.take_set, htk.out, HC2E.out, List.set_append_right _ _ (by have := HC1L.out; have := HHK.out; omega)]
              have e1 := HC1L.out
              rw [HHK.out] at e1
              rw [e1, show k * 4 + 3 - k * 4 = 3 by omega]
              simp
            · refine HK2.out.mono (fun b h => ⟨by have := hb.size; omega, by rw [size_setCell]; omega, by omega⟩) (fun b h => setCell_ne _ _ _ _ _ (by omega))
            · refine CellsOf.mono (fun b h => ⟨⟨h.1, by rw [size_setCell]; omega, h.2.2⟩, ?_⟩) f1 c1 hc1.out
              rw [setCell_ne _ _ _ _ _ h.2.2]; exact hb2.block b h.2.1
            · refine CellsOf.mono (fun b h => ⟨h, ?_⟩) r rest HRest.out
              have := HS.out b h
              rw [setCell_ne _ _ _ _ _ (by omega)]; exact hb2.block b (by have := hb.size; omega)
            · exact (hb.trans (hb2.mono hb.size)).setCell (by omega) _
            · rw [size_setCell]; omega
          case measure => rw [intOf_int, intOf_int]; omega
      · have hf2 : f2 = .nil := by
          apply F.len_zero
          have := congrArg F.len happ.out
          rw [F.app_len] at this
          omega
        subst hf2
        have e1 := happ.out
        rw [F.app_nil] at e1
        subst e1
        have hc2n := hc2.out
        rw [show c2 = [] from hc2n] at htk
        obtain rfl : f1.len = k := by omega
        clear hc2n hc2 hlt
        go_wp2_with fail
        go_ret
        refine ⟨_, _, rfl, hb, .inr ⟨gn, 0, cap, rfl, ⟨hgn.1, hgl⟩, ⟨_, _, hblk.out⟩, HNC.out, Lies.mono (fun b h => ⟨h.1, h.2.1⟩) (fun _ _ => rfl) f1 gn 0 rfl (lies_of_cells f1 0 c1 (fun j u hu => ?_) hc1.out)⟩⟩
        have := take_cell htk.out (by simpa using hu)
        simp only [World.cell?, hblk.out]; simpa using this

theorem copied_ok (D : Nat) : CopiedOk D := by
  induction D with
  | zero => intro _ _ _ _ h; exact absurd h (Nat.not_lt_zero _)
  | succ D ih => exact copied_step D ih

def LRes (f : F) (w : World) (e : Ending) (w' : World) : Prop :=
  ∃ a cap, e = .returned (.agg #[.int .i64 2, .int .u64 0, .string ⟨#[]⟩, .slice a f.len cap]) ∧ Below w.heap.size w w' ∧ KidsAt w' (fun b => w.heap.size ≤ b ∧ b < w'.heap.size) f (.slice a f.len cap)

set_option maxRecDepth 30000 in
set_option maxHeartbeats 1000000 in
theorem l_prog (f : F) (kv : Value) (S : Nat → Prop) (w : World) (hD : f.deep ≤ 1000) (hlen : Lim f.len) (hok : f.ok) (hk : KidsAt w S f kv) (hS : ∀ b, S b → b < w.heap.size) :
    Calls Tryd.prog 37 #[kv] w (LRes f w) := by
  have hblk := heap_alloc_new w (.cells #[.int .i64 0, .int .u64 0, .string ⟨#[]⟩, .slice none 0 0] 46)
  have hk2 : KidsAt (w.alloc (.cells #[.int .i64 0, .int .u64 0, .string ⟨#[]⟩, .slice none 0 0] 46)) S f kv := hk.mono (fun _ h => h) (fun b h => Below.heap_alloc _ _ _ (hS b h))
  have h1 := Lib.hid (ends_ok (f.deep + 1) f kv 1 S _ (by omega) hlen hok (by omega) (by omega) hk2)
  have h2 := Lib.hid ((copied_ok (f.deep + 1) f kv S _ (by omega) hlen hok hk2 (fun b h => Nat.lt_of_lt_of_le (hS b h) (by simp))).mono (R' := fun e w' => CpRes f (w.alloc (.cells #[.int .i64 0, .int .u64 0, .string ⟨#[]⟩, .slice none 0 0] 46)) e w' ∧ w'.heap[w.heap.size]? = some (.cells #[.int .i64 0, .int .u64 0, .string ⟨#[]⟩, .slice none 0 0] 46 (0, 0)))
    (fun e w' h => ⟨h, by obtain ⟨_, _, _, hb, _⟩ := h; exact block_kept hblk (by simp) hb⟩))
  clear hk hk2 hok hS hblk
  go_enter Tryd.func37, Tryd.ntmps37
  go_wp2_with fail
  refine h1.out.mono ?_
  rintro e w1 ⟨rfl, rfl⟩
  go_wp2_with fail
  refine h2.out.mono ?_
  rintro e w2 ⟨⟨a, cap, rfl, hb, hkk⟩, hblk2⟩
  obtain ⟨c0, c1, c2, c3, f0, f1, f2, f3⟩ := block4 hblk2
  have HKK := Lib.hid hkk
  clear h1 h2 hkk hblk2
  go_wp2_with fail
  refine bodyPost_ret (v := nodeV 2 0 ⟨#[]⟩ (.slice a f.len cap)) (by simp [results, Tryd.results37, go_sem, nodeV, c0, c1, c2, c3]) rfl ⟨a, cap, rfl, ?_, ?_⟩
  · have hbb : Below w.heap.size w w2 := ((Below.refl _ w).alloc (Nat.le_refl _) _).trans (hb.mono (by simp))
    exact (((hbb.setCell (Nat.le_refl _) _).setCell (Nat.le_refl _) _).setCell (Nat.le_refl _) _).setCell (Nat.le_refl _) _
  · exact (kids_set4 HKK.out (by simp) (by simp : w.heap.size ≤ _))
end Go.Proofs.YtpkkdjmcabefbaaDoor.Cod
