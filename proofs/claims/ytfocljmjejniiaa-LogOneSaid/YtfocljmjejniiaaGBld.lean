/- log: the builder in a writer: copyCheck, WriteByte, WriteString, String. -/
import Derived.Test.YtfocljmjejniiaaGEnt
import Derived.Lib.Builder
import Derived.Lib.UnsafeStr
import Derived.Lib.MakeNoZero
import Derived.Laws.Externs
import Derived.Deep.RegionHeld3
import Derived.Deep.QuietTactic
import Derived.BigQuiet
namespace Go.Proofs.Ytfocljmjejniiaa
open Go.RowKit

/-- Block b is a writer that holds these bytes, in the slice v. -/
def WrP (b : Nat) (p v : Value) (l : List UInt8) (w : World) : Prop := w.heap[b]? = some (.cells #[p, v] 84 (0, 0)) ∧ w.ownsRow 0 5 1 v (Lib.byteCells l).length (Lib.byteCells l) ∧ v.ownBlock ≠ some b
def WrU (b : Nat) (v : Value) (l : List UInt8) (w : World) : Prop := WrP b (.pointer (some ⟨b, 0, none⟩)) v l w
def Wr (b : Nat) (v : Value) (l : List UInt8) (w : World) : Prop := WrP b (.pointer none) v l w ∨ WrU b v l w
section
variable {b : Nat} {p v : Value} {l : List UInt8} {w w' : World}
theorem WrU.wr (h : WrU b v l w) : Wr b v l w := .inr h
theorem WrP.lt (h : WrP b p v l w) : b < w.heap.size := (Array.getElem?_eq_some_iff.1 h.1).1
theorem WrP.vlt (h : WrP b p v l w) : ∀ k, v.ownBlock = some k → k < w.heap.size := fun k hk => (World.ownsRow.lt h.2.1 k hk).2
theorem Wr.lt (h : Wr b v l w) : b < w.heap.size := by
  rcases h with h | h
  · exact h.lt
  · exact WrP.lt h
theorem Wr.vlt (h : Wr b v l w) : ∀ k, v.ownBlock = some k → k < w.heap.size := by
  rcases h with h | h
  · exact h.vlt
  · exact WrP.vlt h
theorem WrP.cell0 (h : WrP b p v l w) : w.cell? ⟨b, 0, none⟩ = some p := by
  obtain ⟨hb, _⟩ := h; simp [World.cell?, hb]
theorem WrP.frozen0 (h : WrP b p v l w) : w.frozen? ⟨b, 0, none⟩ = false := by
  obtain ⟨hb, _⟩ := h; simp [World.frozen?, hb]
theorem WrP.shape (h : WrP b p v l w) : w.shape? b = some (84, 2) := by
  obtain ⟨hb, _⟩ := h; simp [World.shape?, hb]
theorem WrP.used (h : WrP b p v l w) (q : Value) : WrP b q v l (w.setCell ⟨b, 0, none⟩ q) := by
  obtain ⟨hb, hown, hne⟩ := h
  refine ⟨by simp [World.setCell, Array.getElem?_modify, hb], ?_, hne⟩
  exact hown.kept (row := some b) ⟨rfl, rfl, rfl, by simp [World.setCell], fun k _ hk => Below.heap_setCell _ _ _ _ (fun e => hk (by simp [e]))⟩ (Or.inr hne)
theorem WrP.put {v' : Value} (hb : w.heap[b]? = some (.cells #[p, v] 84 (0, 0))) (hown : w.ownsRow 0 5 1 v' (Lib.byteCells l).length (Lib.byteCells l)) :
    WrP b p v' l (w.setCell ⟨b, 1, none⟩ v') := by
  have hne := Lib.ownBlock_ne hown hb (by decide)
  refine ⟨by simp [World.setCell, Array.getElem?_modify, hb], ?_, hne⟩
  exact hown.kept (row := some b) ⟨rfl, rfl, rfl, by simp [World.setCell], fun k _ hk => Below.heap_setCell _ _ _ _ (fun e => hk (by simp [e]))⟩ (Or.inr hne)
theorem WrP.mv (h : WrP b p v l w) (hb : w'.heap[b]? = w.heap[b]?) (hv : ∀ k, v.ownBlock = some k → w'.heap[k]? = w.heap[k]?) : WrP b p v l w' :=
  ⟨by rw [hb]; exact h.1, ownN_mv h.2.1 hv, h.2.2⟩
theorem Wr.mv (h : Wr b v l w) (hb : w'.heap[b]? = w.heap[b]?) (hv : ∀ k, v.ownBlock = some k → w'.heap[k]? = w.heap[k]?) : Wr b v l w' := by
  rcases h with h | h
  · exact .inl (h.mv hb hv)
  · exact .inr (WrP.mv h hb hv)
theorem Wr.later (h : Wr b v l w) (hb : Below w.heap.size w w') : Wr b v l w' := h.mv (hb.block b h.lt) fun k hk => hb.block k (h.vlt k hk)
theorem Wr.drewN (h : Wr b v l w) (n : Nat) : Wr b v l (w.drewN n) := h
/-- A writer that nobody wrote to. -/
theorem Wr.fresh (h : w.heap[b]? = some (.cells #[.pointer none, .slice none 0 0] 84 (0, 0))) : Wr b (.slice none 0 0) [] w :=
  .inl ⟨h, World.ownsRow_nil _ _ _ _, by simp [Value.ownBlock]⟩
end
theorem Ch.ofGrew {b : Nat} {w w' : World} {v v' : Value} (h : Grew w v w' v') : Ch b v w w' v' :=
  ⟨h.grow.os, h.grow.tape, h.grow.output, h.grow.size, fun _ hj _ hv => h.block hj hv, h.loc⟩
theorem Ch.alloc {b : Nat} (v : Value) (w : World) (o : Obj) : Ch b v w (w.alloc o) v := Ch.ofBelow v ((Below.refl _ _).alloc (Nat.le_refl _) o)
theorem Ch.drewN {b : Nat} (v : Value) (w : World) (n : Nat) : Ch b v w (w.drewN n) v := ⟨rfl, rfl, rfl, Nat.le_refl _, fun _ _ _ _ => rfl, fun _ h => .inl h⟩

set_option maxRecDepth 100000 in
theorem check_used (b : Nat) (w : World) (h0 : w.cell? ⟨b, 0, none⟩ = some (.pointer (some ⟨b, 0, none⟩))) :
    Calls Try.prog 65 #[.pointer (some ⟨b, 0, none⟩)] w fun e w' => e = .returned (.tuple #[]) ∧ w' = w := by
  obtain ⟨j, hj, _⟩ := Option.map_eq_some_iff.1 (show (Try.prog.info? 82).map (·.size) = some 2 by kernel_rfl)
  go_enter Try.func65, Try.ntmps65
  go_wp2_with fail
  rw [Lib.run_neq_ptr_same w _ Try.underlying80 hj]
  go_wp2_with fail
  go_end0
  exact ⟨rfl, rfl⟩

set_option maxRecDepth 100000 in
set_option maxHeartbeats 1000000 in
theorem check_fresh (b : Nat) (w : World) (h0 : w.cell? ⟨b, 0, none⟩ = some (.pointer none)) (hsh : w.shape? b = some (84, 2)) (hfz : w.frozen? ⟨b, 0, none⟩ = false) :
    Calls Try.prog 65 #[.pointer (some ⟨b, 0, none⟩)] w fun e w' => e = .returned (.tuple #[]) ∧ w' = w.setCell ⟨b, 0, none⟩ (.pointer (some ⟨b, 0, none⟩)) := by
  obtain ⟨j, hj, hjs⟩ := Option.map_eq_some_iff.1 (show (Try.prog.info? 82).map (·.size) = some 2 by kernel_rfl)
  go_enter Try.func65, Try.ntmps65
  go_wp2_with fail
  rw [Lib.run_to_unsafe w ⟨b, 0, none⟩ Try.underlying80 Try.underlying109 hj (by rw [hjs]; decide) hsh (Nat.zero_lt_succ 1)]
  simp only [Result.andThen]
  rw [Oper.upon_value]
  go_wp2_with fail
  rw [run_callFunc_extern Try.func69 (by kernel_rfl) (by kernel_rfl) (by kernel_rfl) (e := Extern.AbiNoEscape.same) (by kernel_rfl)]
  rw [Lib.run_noEscape]
  simp only [Result.andThen]
  rw [Oper.upon_value]
  go_wp2_with fail
  rw [Lib.run_from_unsafe w ⟨b, 0, none⟩ Try.underlying109 Try.underlying80 hj hsh (by kernel_rfl)]
  simp only [Result.andThen]
  rw [Oper.upon_value]
  go_wp2_with fail
  go_end0
  exact ⟨rfl, rfl⟩

theorem check_prog (b : Nat) (v : Value) (l : List UInt8) (w : World) (h : Wr b v l w) :
    Calls Try.prog 65 #[.pointer (some ⟨b, 0, none⟩)] w fun e w' => e = .returned (.tuple #[]) ∧ (WrU b v l w' ∧ Ch b v w w' v) := by
  rcases h with h | h
  · refine (check_fresh b w h.cell0 h.shape h.frozen0).mono ?_
    rintro e w' ⟨rfl, rfl⟩
    exact ⟨rfl, h.used _, Ch.set b 0 v w _⟩
  · refine (check_used b w (WrP.cell0 h)).mono ?_
    rintro e w' ⟨rfl, rfl⟩
    exact ⟨rfl, h, Ch.refl b v _⟩

theorem Try.infoB : (Try.prog.info? 5).map (fun i => (i.zero, i.size, i.bytes)) = some (some (.int .u8 0), 1, 1) := by kernel_rfl

section
variable {P : Program} {w : World}
/-- append(b, s...), s a string: where the new slice lies. -/
theorem run_append_string_grew (base : Nat) (t u ty e : TypeId) (i : TypeInfo) (ht : P.underlying t = some (.slice e)) (hu : P.underlying u = some .string) (hi : P.info? e = some i) (hz : i.zero = some (.int .u8 0))
    (hsize : i.size = 1) (hby : i.bytes = 1)
    (v : Value) (n : Nat) (xs : List Value) (hown : w.ownsRow base e 1 v n xs) (s : ByteArray)
    (h63 : n + s.size ≤ maxLen) (hbytes : n + s.size ≤ 140737488355328) (hbase : base ≤ w.heap.size) :
    ∃ v' w', (Builtin.append_ #[t, u] ty #[v, .string s]).run P w = .ok v' w' ∧ w'.ownsRow base e 1 v' (n + s.size) (xs ++ Lib.strCells s) ∧ Grew w v w' v' := by
  obtain ⟨v', w', hr, h2, h3, _⟩ := Lib.run_append_own_string (P := P) w base t u ty e i ht hu hi hz hsize hby v n xs hown s h63 hbytes hbase
  refine ⟨v', w', hr, h2, h3, ?_⟩
  rcases hown.2 with ⟨rfl, rfl⟩ | ⟨g, cap, cur, rfl, hbg, hg, hnc, hcm, hcs, htake⟩
  · have hown' : w.ownsRow w.heap.size e 1 (.slice none 0 0) 0 xs := by
      have hx : xs = [] := List.eq_nil_of_length_eq_zero (by simpa using hown.1)
      subst hx
      exact World.ownsRow_nil _ _ _ _
    obtain ⟨v2, w2, hr2, h22, _, _⟩ := Lib.run_append_own_string (P := P) w w.heap.size t u ty e i ht hu hi hz hsize hby _ 0 xs hown' s h63 hbytes (Nat.le_refl _)
    rw [hr] at hr2
    obtain ⟨rfl, rfl⟩ : v' = v2 ∧ w' = w2 := by injection hr2 with a b; exact ⟨a, b⟩
    exact fun k hk => .inr (ownN_low h22 k hk)
  · by_cases hroom : n + s.size ≤ cap
    · have hr2 := Lib.run_append_room_string (P := P) w t u ty e i ht hu hi hsize g n cap cur hg s hroom (by omega)
      rw [hr] at hr2
      injection hr2 with a b
      subst a
      exact fun k hk => .inl hk
    · have holds : ∀ j u, xs[j]? = some u → w.cell? ((⟨g, 0, none⟩ : Addr).add j) = some u := hown.cells (g := g) rfl
      have hr2 := Lib.run_append_grow_string (P := P) w t u ty e i (.int .u8 0) ht hu hi hz ⟨g, 0, none⟩ n cap xs (by rw [hsize]; simpa using hown.1) holds s (by omega) (by unfold maxLen at h63; omega) (by rw [hby]; exact growslice_fits (by omega) (by omega))
      rw [hr] at hr2
      injection hr2 with a b
      subst a
      intro k hk
      have : w.heap.size = k := by simpa [Value.ownBlock] using hk
      exact .inr (by omega)
end
theorem byteOwn1 {w : World} {e : Nat} {v : Value} {l : List UInt8} {c : UInt8} (h : w.ownsRow 0 e 1 v ((Lib.byteCells l).length + 1) (Lib.byteCells l ++ [.int .u8 (c.toNat : Int)])) : w.ownsRow 0 e 1 v (Lib.byteCells (l ++ [c])).length (Lib.byteCells (l ++ [c])) := by
  have e1 : Lib.byteCells (l ++ [c]) = Lib.byteCells l ++ [.int .u8 (c.toNat : Int)] := by rw [Lib.byteCells_append]; rfl
  rw [e1, List.length_append]
  exact h
theorem byteOwnS {w : World} {e : Nat} {v : Value} {l : List UInt8} {s : ByteArray} (h : w.ownsRow 0 e 1 v ((Lib.byteCells l).length + s.size) (Lib.byteCells l ++ Lib.strCells s)) : w.ownsRow 0 e 1 v (Lib.byteCells (l ++ s.data.toList)).length (Lib.byteCells (l ++ s.data.toList)) := by
  rw [Lib.byteCells_append, List.length_append, ← Lib.strCells_eq, Lib.strCells_length]
  exact h
theorem Try.byteSl : SlN Try.prog 52 5 (.int .u8 0) 1 1 := ⟨Try.underlying52, by kernel_rfl, rfl, by decide⟩

set_option maxHeartbeats 2000000 in
set_option maxRecDepth 100000 in
theorem wbyte_prog (b : Nat) (v : Value) (l : List UInt8) (c : UInt8) (w : World) (h : Wr b v l w) (hlen : l.length ≤ 1000000) :
    Calls Try.prog 54 #[.pointer (some ⟨b, 0, none⟩), .int .u8 (c.toNat : Int)] w fun e w' => e = .returned .nilIface ∧ ∃ v', WrU b v' (l ++ [c]) w' ∧ Ch b v w w' v' := by
  have HC := Lib.hid (check_prog b v l w h)
  have hl : (Lib.byteCells l).length = l.length := Lib.byteCells_length l
  have hlen' : (Lib.byteCells l).length ≤ 1000000 := by rw [hl]; exact hlen
  clear hl hlen h
  go_enter Try.func54, Try.ntmps54
  go_wp2_with fail
  refine HC.out.mono ?_
  rintro e w1 ⟨rfl, h1, hb1⟩
  obtain ⟨hbk, hown, hne⟩ := h1
  have c0 : w1.cell? ⟨b, 0, none⟩ = some (.pointer (some ⟨b, 0, none⟩)) := by rw [Lib.cell_of_heap hbk]; rfl
  have c1 : w1.cell? ⟨b, 1, none⟩ = some v := by rw [Lib.cell_of_heap hbk]; rfl
  go_wp2_with (at_builtin; go_loud (refine list_appN Try.byteSl rfl _ _ rfl 0 v _ _ rfl (World.ownsRow.alloc hown _) w1.heap.size 1 _ [.int .u8 (c.toNat : Int)] rfl (heap_alloc_new _ _) rfl ?c2 (by decide) ?c3 ?c4 (Nat.zero_le _) ?_))
  case c2 => intro u hu; simp at hu; subst hu; rfl
  case c3 => unfold maxLen; omega
  case c4 => omega
  intro g cap w2 hown' hgrew
  have hlt : b < w1.heap.size := (Array.getElem?_eq_some_iff.1 hbk).1
  have hb2 : w2.heap[b]? = some (.cells #[.pointer (some ⟨b, 0, none⟩), v] 84 (0, 0)) := by
    rw [hgrew.block (b := b) (by simp; omega) hne, Lib.alloc_old w1 _ b hlt]
    exact hbk
  have d0 : w2.cell? ⟨b, 0, none⟩ = some (.pointer (some ⟨b, 0, none⟩)) := by rw [Lib.cell_of_heap hb2]; rfl
  have d1 : w2.cell? ⟨b, 1, none⟩ = some v := by rw [Lib.cell_of_heap hb2]; rfl
  have f1 : w2.frozen? ⟨b, 1, none⟩ = false := Lib.frozen_of_heap hb2 1
  have hput : WrU b _ (l ++ [c]) _ := WrP.put hb2 (byteOwn1 hown')
  have hbel := ((hb1.trans (Ch.alloc (b := b) v w1 _)).trans (Ch.ofGrew hgrew)).trans (Ch.set b 1 _ w2 (.slice (some ⟨g, 0, none⟩) ((Lib.byteCells l).length + 1) cap))
  have HP := Lib.hid hput
  have HB := Lib.hid hbel
  clear hput hbel hb2 hgrew hown' hown hbk hne hlen' hb1
  go_wp2_with fail
  go_ret
  exact ⟨rfl, _, HP.out, HB.out⟩

set_option maxHeartbeats 2000000 in
set_option maxRecDepth 100000 in
theorem wstring_prog (b : Nat) (v : Value) (l : List UInt8) (s : ByteArray) (w : World) (h : Wr b v l w) (hlen : l.length + s.size ≤ 1000000) :
    Calls Try.prog 66 #[.pointer (some ⟨b, 0, none⟩), .string s] w fun e w' => e = .returned (.tuple #[.int .i64 s.size, .nilIface]) ∧ ∃ v', WrU b v' (l ++ s.data.toList) w' ∧ Ch b v w w' v' := by
  have HC := Lib.hid (check_prog b v l w h)
  have hl : (Lib.byteCells l).length = l.length := Lib.byteCells_length l
  have hlen' : (Lib.byteCells l).length + s.size ≤ 1000000 := by rw [hl]; exact hlen
  clear hl hlen h
  obtain ⟨i0, hi, hz0, hz1, hz2⟩ := info_parts Try.infoB
  go_enter Try.func66, Try.ntmps66
  go_wp2_with fail
  refine HC.out.mono ?_
  rintro e w1 ⟨rfl, h1, hb1⟩
  obtain ⟨hbk, hown, hne⟩ := h1
  have c0 : w1.cell? ⟨b, 0, none⟩ = some (.pointer (some ⟨b, 0, none⟩)) := by rw [Lib.cell_of_heap hbk]; rfl
  have c1 : w1.cell? ⟨b, 1, none⟩ = some v := by rw [Lib.cell_of_heap hbk]; rfl
  obtain ⟨v', w2, hrun, hown', hgrew⟩ := run_append_string_grew (P := Try.prog) (w := w1) 0 52 9 52 5 i0 Try.underlying52 Try.underlying9 hi hz0 hz1 hz2 v _ _ hown s (by unfold maxLen; omega) (by omega) (Nat.zero_le _)
  have hlt : b < w1.heap.size := (Array.getElem?_eq_some_iff.1 hbk).1
  have hb2 : w2.heap[b]? = some (.cells #[.pointer (some ⟨b, 0, none⟩), v] 84 (0, 0)) := by
    rw [hgrew.block (b := b) hlt hne]
    exact hbk
  have d0 : w2.cell? ⟨b, 0, none⟩ = some (.pointer (some ⟨b, 0, none⟩)) := by rw [Lib.cell_of_heap hb2]; rfl
  have d1 : w2.cell? ⟨b, 1, none⟩ = some v := by rw [Lib.cell_of_heap hb2]; rfl
  have f1 : w2.frozen? ⟨b, 1, none⟩ = false := Lib.frozen_of_heap hb2 1
  obtain ⟨ao, n', cap, rfl⟩ : ∃ ao n' cap, v' = .slice ao n' cap := by
    rcases hown'.2 with ⟨hv, _⟩ | ⟨g, cap, cur, hv, _⟩
    · exact ⟨_, _, _, hv⟩
    · exact ⟨_, _, _, hv⟩
  have hput : WrU b _ (l ++ s.data.toList) _ := WrP.put hb2 (byteOwnS hown')
  have hbel := (hb1.trans (Ch.ofGrew hgrew)).trans (Ch.set b 1 _ w2 (.slice ao n' cap))
  have hsI : (s.size : Int) ≤ 1000000 := by omega
  have HP := Lib.hid hput
  have HB := Lib.hid hbel
  clear hput hbel hb2 hgrew hown' hown hbk hne hb1 hlen'
  go_wp2_with (at_builtin; refine list_appS rfl _ _ _ _ rfl _ _ s w2 rfl rfl hrun ?_)
  go_wp2_with fail
  go_ret2
  exact ⟨rfl, _, HP.out, HB.out⟩

theorem freeze_other (w : World) (g n j : Nat) (h : j ≠ g) : (w.freeze ⟨g, 0, none⟩ n).heap[j]? = w.heap[j]? := by
  unfold World.freeze
  split
  · rfl
  · simp [Array.getElem?_modify, Ne.symm h]
set_option maxHeartbeats 1000000 in
set_option maxRecDepth 100000 in
theorem bstring_prog (b : Nat) (v : Value) (l : List UInt8) (w : World) (h : Wr b v l w) (h0 : l ≠ []) :
    Calls Try.prog 43 #[.pointer (some ⟨b, 0, none⟩)] w fun e w' => e = .returned (.string ⟨l.toArray⟩) ∧ Ch b v w w' v := by
  obtain ⟨p, hbk, hown, hne⟩ : ∃ p, WrP b p v l w := by
    rcases h with h | h
    · exact ⟨_, h⟩
    · exact ⟨_, h⟩
  have hl0 : l.length ≠ 0 := by simpa using h0
  rw [Lib.byteCells_length] at hown
  obtain ⟨g, cap, cur, rfl, hbg, hg, hnc, hcm, hcs, htake⟩ : ∃ g cap cur, v = .slice (some ⟨g, 0, none⟩) l.length cap ∧ 0 ≤ g ∧ w.heap[g]? = some (.cells cur 5 (0, 0)) ∧ l.length ≤ cap ∧ cap ≤ maxLen ∧ cur.size = cap * 1 ∧ cur.toList.take (l.length * 1) = Lib.byteCells l := by
    rcases hown.2 with ⟨_, hz⟩ | ⟨g, cap, cur, hv, r⟩
    · exact absurd hz hl0
    · exact ⟨g, cap, cur, hv, r⟩
  have c1 : w.drew.cell? ⟨b, 1, none⟩ = some (.slice (some ⟨g, 0, none⟩) l.length cap) := by
    have : w.drew.heap[b]? = some (.cells #[p, .slice (some ⟨g, 0, none⟩) l.length cap] 84 (0, 0)) := hbk
    rw [Lib.cell_of_heap this]; rfl
  have hSD : (Builtin.unsafeSliceData_ #[52] 99 #[.slice (some ⟨g, 0, none⟩) l.length cap]).run Try.prog w.drew = .ok (.pointer (some ⟨g, 0, none⟩)) w.drew :=
    Lib.run_unsafeSliceData_row _ _ _ _ _ _ (by omega)
  have hUS : (Builtin.unsafeString_ #[99, 3] 9 #[.pointer (some ⟨g, 0, none⟩), .int .i64 l.length]).run Try.prog w.drew = .ok (.string ⟨l.toArray⟩) (w.drew.freeze ⟨g, 0, none⟩ l.length) := by
    refine Lib.run_unsafeString_row w.drew 99 3 9 5 Try.underlying99 (by kernel_rfl) g cur.size (by have hg' : w.drew.heap[g]? = some (.cells cur 5 (0, 0)) := hg; simp [World.shape?, hg']) l h0 (by omega) (by unfold maxLen at hcm; omega) ?_
    intro j x hx
    have := hown.cells (g := g) rfl j (.int .u8 x.toNat) (by simp [Lib.byteCells, hx])
    exact this
  have hgw := (Array.getElem?_eq_some_iff.1 hg).1
  have hB0 := Lib.below_freeze (Below.drew (Below.refl g w)) (p := ⟨g, 0, none⟩) (Nat.le_refl g) l.length
  have HB : Hid (Ch b (.slice (some ⟨g, 0, none⟩) l.length cap) w (w.drew.freeze ⟨g, 0, none⟩ l.length) (.slice (some ⟨g, 0, none⟩) l.length cap)) :=
    Lib.hid ⟨hB0.os, hB0.tape, hB0.output, hB0.size, fun j _ _ hj => by
      have hjg : j ≠ g := fun e => hj (by rw [e]; rfl)
      exact freeze_other w.drew g l.length j hjg, fun j hj => .inl hj⟩
  clear hnc hcm hcs htake hg hbg hown hbk hne h0 hl0 hB0 hgw
  go_enter Try.func43, Try.ntmps43
  go_wp2_with fail
  go_region
  all_goals (go_wp2_with fail; go_ret; exact ⟨rfl, HB.out⟩)
end Go.Proofs.Ytfocljmjejniiaa
