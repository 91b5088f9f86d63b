/- log: the writer: numbers, texts, entries, what is sealed; sums; records. -/
import Derived.Test.YtfocljmjejniiaaGBld
import Derived.Test.YtfocljmjejniiaaGEnt
import Derived.Deep.RegionWith
import Derived.StillTailTactics
import Derived.Deep.DeepCutAuto
import Derived.Deep.CutBlock
namespace Go.Proofs.Ytfocljmjejniiaa
open Go.RowKit

theorem take_snoc' (s : ByteArray) (k : Nat) (h : k < s.size) : s.data.toList.take (k + 1) = s.data.toList.take k ++ [s[k]] := by
  rw [List.take_succ_eq_append_getElem (by simpa using h)]; rfl

set_option maxRecDepth 100000 in
theorem sum_prog (s : ByteArray) (w : World) (hs : s.size ≤ 1000000) :
    Calls Try.prog 58 #[.string s] w fun e w' => e = .returned (.int .u64 (fnv s : Int)) ∧ w' = w := by
  rw [fnv_int]
  go_enter Try.func58, Try.ntmps58
  go_wp2_with fail
  go_loop [3, 7] (fun n i => ∃ k : Nat, k ≤ s.size ∧ i = .int .i64 k ∧ n = .int .u64 (fnvI (s.data.toList.take k))) (fun _ i => s.size - (intOf i).toNat)
  case atStart => exact ⟨0, Nat.zero_le _, rfl, rfl⟩
  case round =>
    obtain ⟨k, hk, rfl, rfl⟩ := hrel
    by_cases hlt : k < s.size
    · have e1 : Hid (fnvI (s.data.toList.take (k + 1)) = fnvS (fnvI (s.data.toList.take k)) s[k]) := Lib.hid (by rw [take_snoc' s k hlt, fnvI_snoc])
      obtain ⟨m, hm⟩ : ∃ m, fnvI (s.data.toList.take k) = m := ⟨_, rfl⟩
      rw [hm] at e1 ⊢
      clear hm
      go_wp2_with fail
      go_round
      case rel => exact ⟨k + 1, by omega, by go_num, by rw [e1.out]; rfl⟩
      case measure => simp [intOf]; omega
    · go_wp2_with fail
      go_ret
      have hke : k = s.size := by omega
      rw [hke, ← data_len, List.take_length]
      exact ⟨rfl, rfl⟩

theorem nByte_wrap (n k : Nat) (hk : k < 8) : IntKind.u8.wrap ((n : Int) / 2 ^ ((56 : Int) - 8 * (k : Int)).toNat) = ((nByte n k).toNat : Int) := by
  have e1 : ((56 : Int) - 8 * (k : Int)).toNat = 56 - 8 * k := by omega
  have e2 : ((n : Int) / 2 ^ (56 - 8 * k)) = ((n / 2 ^ (56 - 8 * k) : Nat) : Int) := by simp
  rw [e1, e2]
  simp [IntKind.wrap, IntKind.signed, IntKind.bits, nByte]
theorem numL_take (n k : Nat) (hk : k < 8) : (numL n).take (k + 1) = (numL n).take k ++ [nByte n k] := by
  match k, hk with
  | 0, _ => rfl
  | 1, _ => rfl
  | 2, _ => rfl
  | 3, _ => rfl
  | 4, _ => rfl
  | 5, _ => rfl
  | 6, _ => rfl
  | 7, _ => rfl
theorem wbyte_at (b : Nat) (v : Value) (l : List UInt8) (x : Int) (c : UInt8) (w : World) (hx : x = (c.toNat : Int)) (h : Wr b v l w) (hlen : l.length ≤ 1000000) :
    Calls Try.prog 54 #[.pointer (some ⟨b, 0, none⟩), .int .u8 x] w fun e w' => e = .returned .nilIface ∧ ∃ v', WrU b v' (l ++ [c]) w' ∧ Ch b v w w' v' := by
  subst hx; exact wbyte_prog b v l c w h hlen

set_option maxHeartbeats 1000000 in
set_option maxRecDepth 100000 in
theorem wnum_prog (b : Nat) (v : Value) (l : List UInt8) (n : Nat) (w : World) (h : Wr b v l w) (hl : l.length ≤ 900000) (hn : n < m64) :
    Calls Try.prog 41 #[.pointer (some ⟨b, 0, none⟩), .int .u64 (n : Int)] w fun e w' => e = .returned (.tuple #[]) ∧ ∃ v', Wr b v' (l ++ numL n) w' ∧ Ch b v w w' v' := by
  have H := Lib.hid h
  have hn2 : (n : Int) ≤ 18446744073709551615 := by unfold m64 at hn; omega
  have hn0 : (0 : Int) ≤ (n : Int) := by omega
  clear h hn
  go_enter Try.func41, Try.ntmps41
  go_wp2_with fail
  go_loopw [4] (fun i wr => ∃ (k : Nat) (u : Value), k ≤ 8 ∧ i = .int .i64 (56 - 8 * (k : Int)) ∧ Hid (Wr b u (l ++ (numL n).take k) wr) ∧ Hid (Ch b v w wr u)) (fun i _ => (intOf i + 8).toNat)
  case atStart => exact ⟨0, v, by omega, rfl, Lib.hid (by simpa using H.out), Lib.hid (Ch.refl _ _ _)⟩
  case round =>
    obtain ⟨k, u, hk, rfl, HW, HF⟩ := hrel
    by_cases hlt : k < 8
    · have h1 : (0 : Int) ≤ 56 - 8 * (k : Int) := by omega
      have h2 : 56 - 8 * (k : Int) < 64 := by omega
      have hlen : (l ++ (numL n).take k).length ≤ 1000000 := by rw [List.length_append, List.length_take, numL_len]; omega
      have HC := Lib.hid (wbyte_at b u _ _ (nByte n k) wr.drew (nByte_wrap n k hlt) (HW.out.drewN 1) hlen)
      rw [List.append_assoc, ← numL_take n k hlt] at HC
      have HF1 := Lib.hid (HF.out.trans (Ch.drewN (b := b) u wr 1))
      clear hlen
      go_wp2_with fail
      go_region_with ((refine HC.out.mono ?_); rintro e w1 ⟨rfl, u1, hw1, hf1⟩)
      all_goals
        have HW1 := Lib.hid hw1.wr
        have HF2 := Lib.hid (HF1.out.trans hf1)
        clear hw1 hf1
        go_wp2_with fail
        go_roundw
        case rel => exact ⟨k + 1, u1, by omega, by (congr 1; omega), HW1, HF2⟩
        case measure => simp [intOf]; omega
    · have hk8 : k = 8 := by omega
      subst hk8
      go_wp2_with fail
      go_end0
      exact ⟨rfl, u, HW.out, HF.out⟩

set_option maxRecDepth 100000 in
theorem wtext_prog (b : Nat) (v : Value) (l : List UInt8) (s : ByteArray) (w : World) (h : Wr b v l w) (hl : l.length + s.size ≤ 800000) :
    Calls Try.prog 56 #[.pointer (some ⟨b, 0, none⟩), .string s] w fun e w' => e = .returned (.tuple #[]) ∧ ∃ v', Wr b v' (l ++ textL s) w' ∧ Ch b v w w' v' := by
  have hs : (s.size : Int) ≤ 800000 := by omega
  have H := Lib.hid (wnum_prog b v l s.size w h (by omega) (by unfold m64; omega))
  have HL := Lib.hid hl
  clear h hl
  go_enter Try.func56, Try.ntmps56
  go_wp2_with fail
  refine H.out.mono ?_
  rintro e w1 ⟨rfl, v1, hw1, hf1⟩
  have H2 := Lib.hid (wstring_prog b v1 _ s w1 hw1 (by have := HL.out; rw [List.length_append, numL_len]; omega))
  have HF1 := Lib.hid hf1
  clear hw1 hf1
  go_wp2_with fail
  refine H2.out.mono ?_
  rintro e w2 ⟨rfl, v2, hw2, hf2⟩
  have HW2 := Lib.hid hw2
  have HF2 := Lib.hid hf2
  clear hw2 hf2
  go_wp2_with fail
  go_end0
  refine ⟨rfl, v2, ?_, HF1.out.trans HF2.out⟩
  have := HW2.out.wr
  rw [List.append_assoc] at this
  exact this

/-- The slice's cells lie in another block than b and u's. -/
def Apart (b : Nat) (u v : Value) : Prop := ∀ k, v.ownBlock = some k → k ≠ b ∧ u.ownBlock ≠ some k
theorem ESl.ch {w w' : World} {b : Nat} {u u' v : Value} {l : List Ent} (h : ESl w v l) (hv : l ≠ [] → Apart b u v) (hf : Ch b u w w' u') : ESl w' v l ∧ (l ≠ [] → Apart b u' v) := by
  obtain ⟨a, c, h1, h2, h3⟩ := h
  refine ⟨⟨a, c, h1, h2, fun hne => ?_⟩, fun hne k hk => ?_⟩
  · obtain ⟨g, o, ha, hg, hc⟩ := h3 hne
    obtain ⟨q1, q2⟩ := hv hne g (by rw [h1, ha]; rfl)
    have e := hf.block g hg q1 q2
    refine ⟨g, o, ha, Nat.lt_of_lt_of_le hg hf.size, fun i x hx => ?_⟩
    have := hc i x hx
    exact ⟨by rw [World.cell?_of_block (w := w) (a := ⟨g, o + i * 2, none⟩) e]; exact this.1, by rw [World.cell?_of_block (w := w) (a := ⟨g, o + i * 2 + 1, none⟩) e]; exact this.2⟩
  · obtain ⟨g, o, ha, hg, _⟩ := h3 hne
    obtain rfl : g = k := by rw [h1, ha] at hk; simpa [Value.ownBlock] using hk
    obtain ⟨q1, q2⟩ := hv hne g hk
    refine ⟨q1, fun e => ?_⟩
    rcases hf.loc g e with e | e
    · exact q2 e
    · omega
theorem entsL_append (a b : List Ent) : entsL (a ++ b) = entsL a ++ entsL b := List.flatMap_append ..
theorem entsL_take (E : List Ent) (k : Nat) (x : Ent) (h : E[k]? = some x) : entsL (E.take (k + 1)) = entsL (E.take k) ++ (numL x.1 ++ textL x.2) := by
  have hk := (List.getElem?_eq_some_iff.1 h).1
  have hx := (List.getElem?_eq_some_iff.1 h).2
  rw [List.take_succ_eq_append_getElem hk, hx, entsL_append]
  simp [entsL]
theorem entsL_part (E : List Ent) (k : Nat) : (entsL (E.take k)).length ≤ (entsL E).length := by
  have e : entsL E = entsL (E.take k) ++ entsL (E.drop k) := by rw [← entsL_append, List.take_append_drop]
  rw [e, List.length_append]; omega

set_option maxHeartbeats 1000000 in
set_option maxRecDepth 100000 in
theorem wents_prog (b : Nat) (u : Value) (l : List UInt8) (v : Value) (E : List Ent) (w : World) (h : Wr b u l w) (hv : ESl w v E) (ha : E ≠ [] → Apart b u v) (hE : EntsOk E) (hl : l.length + (entsL E).length ≤ 700000) :
    Calls Try.prog 42 #[.pointer (some ⟨b, 0, none⟩), v] w fun e w' => e = .returned (.tuple #[]) ∧ ∃ u', Wr b u' (l ++ entsL E) w' ∧ Ch b u w w' u' := by
  obtain ⟨a, c, rfl, hc, _⟩ := id hv
  have hEl : E.length ≤ 700000 := by have := entsL_len E; omega
  have H := Lib.hid h
  have HV := Lib.hid hv
  have HA := Lib.hid ha
  have HE := Lib.hid hE
  have HL := Lib.hid hl
  have HC := Lib.hid hc
  clear h hv ha hE hl hc
  go_enter Try.func42, Try.ntmps42
  go_wp2_with fail
  go_loopw [8] (fun i wr => ∃ (k : Nat) (u' : Value), k ≤ E.length ∧ i = .int .i64 (k : Int) ∧ Hid (Wr b u' (l ++ entsL (E.take k)) wr) ∧ Hid (Ch b u w wr u')) (fun i _ => E.length - (intOf i).toNat)
  case atStart => exact ⟨0, u, by omega, rfl, Lib.hid (by simpa [entsL] using H.out), Lib.hid (Ch.refl _ _ _)⟩
  case round =>
    obtain ⟨k, u1, hk, rfl, HW, HF⟩ := hrel
    by_cases hlt : k < E.length
    · obtain ⟨⟨t, s⟩, hx⟩ : ∃ x, E[k]? = some x := ⟨_, List.getElem?_eq_getElem hlt⟩
      obtain ⟨a', c', e0, _, hcells⟩ := (HV.out.ch HA.out HF.out).1
      injection e0 with e1 e2 e3
      subst e1
      obtain ⟨g, o, rfl, hg, hcs⟩ := hcells (fun e => by rw [e] at hlt; simp at hlt)
      obtain ⟨c0, c1⟩ := hcs k _ hx
      have hxo := HE.out _ (List.mem_of_getElem? hx)
      have hpart := entsL_part E (k + 1)
      have htake := entsL_take E k _ hx
      have hlen : (l ++ entsL (E.take k)).length + 8 + (8 + s.size) ≤ 700000 := by
        rw [htake] at hpart
        have := HL.out
        simp only [List.length_append, textL, numL_len, data_len] at hpart ⊢
        omega
      have h1 : (0 : Int) ≤ (k : Int) := by omega
      have h2 : (k : Int) < (E.length : Int) := by omega
      have HT := Lib.hid htake
      have HX := Lib.hid hxo
      have HLN := Lib.hid hlen
      clear hcells hcs hx hxo hpart htake hlen e2 e3
      go_wp2_with fail
      have hwn : Wr b u1 (l ++ entsL (E.take k)) (wr.alloc (.cells #[.int .u64 (t : Int), .string s] 37)) := HW.out.later ((Below.refl _ _).alloc (Nat.le_refl _) _)
      have hfn : Ch b u w (wr.alloc (.cells #[.int .u64 (t : Int), .string s] 37)) u1 := HF.out.trans (Ch.alloc u1 wr _)
      refine (wnum_prog b u1 _ t _ hwn (by have := HLN.out; omega) HX.out.1).mono ?_
      rintro e w1 ⟨rfl, u2, hw1, hf1⟩
      have hlt2 : wr.heap.size < w1.heap.size := by have := hf1.size; simp at this; omega
      have hblk : w1.heap[wr.heap.size]? = some (.cells #[.int .u64 (t : Int), .string s] 37 (0, 0)) := by
        rw [hf1.block _ (by simp) (by have := HW.out.lt; omega) (fun e => by have := HW.out.vlt _ e; omega)]
        exact heap_alloc_new _ _
      have hd1 : w1.cell? ⟨wr.heap.size, 1, none⟩ = some (.string s) := by simp [World.cell?, hblk]
      have HW1 := Lib.hid hw1
      have HF1 := Lib.hid (hfn.trans hf1)
      clear hw1 hf1 hwn hfn hblk
      go_wp2_with fail
      refine (wtext_prog b u2 _ s w1 HW1.out (by have := HLN.out; rw [List.length_append, numL_len]; omega)).mono ?_
      rintro e w2 ⟨rfl, u3, hw2, hf2⟩
      rw [List.append_assoc, List.append_assoc, ← HT.out] at hw2
      have HW2 := Lib.hid hw2
      have HF2 := Lib.hid (HF1.out.trans hf2)
      clear hw2 hf2
      go_wp2_with fail
      go_roundw
      case rel => exact ⟨k + 1, u3, by omega, by go_num, HW2, HF2⟩
      case measure => simp [intOf]; omega
    · have hke : k = E.length := by omega
      subst hke
      have h2 : ¬ (E.length : Int) < (E.length : Int) := by omega
      go_wp2_with fail
      go_end0
      refine ⟨rfl, u1, ?_, HF.out⟩
      have := HW.out
      rw [List.take_length] at this
      exact this
end Go.Proofs.Ytfocljmjejniiaa
