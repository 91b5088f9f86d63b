/- log: what is sealed; records; bodies of votes and of entries; the record of all. -/
import Derived.Test.YtfocljmjejniiaaGWr
namespace Go.Proofs.Ytfocljmjejniiaa
open Go.RowKit

theorem Ch.keep {b j : Nat} {u u' : Value} {w w' : World} {o : Obj} (hf : Ch b u w w' u') (hj : w.heap[j]? = some o) (h1 : j ≠ b) (h2 : u.ownBlock ≠ some j) : w'.heap[j]? = some o := by
  rw [hf.block j (Array.getElem?_eq_some_iff.1 hj).1 h1 h2]; exact hj
/-- u's block, if it has one, is not j. -/
theorem Ch.away {b j : Nat} {u u' : Value} {w w' : World} (hf : Ch b u w w' u') (hj : j < w.heap.size) (h2 : u.ownBlock ≠ some j) : u'.ownBlock ≠ some j := fun e => by
  rcases hf.loc j e with e | e
  · exact h2 e
  · omega
theorem Ch.lowB {b H : Nat} {u u' : Value} {w w' : World} (hf : Ch b u w w' u') (h : ∀ k, u.ownBlock = some k → H ≤ k) (hw : H ≤ w.heap.size) : ∀ k, u'.ownBlock = some k → H ≤ k := hf.low h hw

set_option maxRecDepth 100000 in
theorem wsealed_prog (b : Nat) (v : Value) (l : List UInt8) (s : ByteArray) (w : World) (h : Wr b v l w) (hl : l.length + s.size ≤ 800000) :
    Calls Try.prog 55 #[.pointer (some ⟨b, 0, none⟩), .string s] w fun e w' => e = .returned (.tuple #[]) ∧ ∃ v', Wr b v' (l ++ sealL s) w' ∧ Ch b v w w' v' := by
  have H := Lib.hid (wstring_prog b v l s w h (by omega))
  have HL := Lib.hid hl
  have HS := Lib.hid (fun W => sum_prog s W (by omega))
  clear h hl
  go_enter Try.func55, Try.ntmps55
  go_wp2_with fail
  refine H.out.mono ?_
  rintro e w1 ⟨rfl, v1, hw1, hf1⟩
  have H2 := Lib.hid (wnum_prog b v1 _ (fnv s) w1 hw1.wr (by have := HL.out; rw [List.length_append, data_len]; omega) (fnv_lt s))
  have HF1 := Lib.hid hf1
  clear hw1 hf1
  go_wp2_with fail
  refine (HS.out w1).mono ?_
  rintro e w2 ⟨rfl, rfl⟩
  go_wp2_with fail
  refine H2.out.mono ?_
  rintro e w2 ⟨rfl, v2, hw2, hf2⟩
  have HW2 := Lib.hid hw2
  have HF2 := Lib.hid hf2
  clear hw2 hf2
  go_wp2_with fail
  go_end0
  refine ⟨rfl, v2, ?_, HF1.out.trans HF2.out⟩
  have := HW2.out
  rw [List.append_assoc] at this
  exact this

theorem recB_eq (k : UInt8) (body : ByteArray) : (⟨([] ++ sealL (headB k body.size) ++ sealL body).toArray⟩ : ByteArray) = recB k body := by
  unfold recB recL ofL
  rw [List.nil_append]
theorem headB_eq (k : UInt8) (n : Nat) : (⟨([] ++ [k] ++ numL n).toArray⟩ : ByteArray) = headB k n := by
  unfold headB ofL
  rw [List.nil_append, List.singleton_append]
theorem app_ne (a : List UInt8) (s : ByteArray) : a ++ sealL s ≠ [] := fun h => by
  have := congrArg List.length h
  rw [List.length_append, sealL_len, List.length_nil] at this
  omega
theorem num_ne (a : List UInt8) (n : Nat) : a ++ numL n ≠ [] := fun h => by
  have := congrArg List.length h
  rw [List.length_append, numL_len, List.length_nil] at this
  omega
set_option maxHeartbeats 1000000 in
set_option maxRecDepth 100000 in
theorem record_prog (k : UInt8) (body : ByteArray) (w : World) (hl : body.size ≤ 700000) :
    Calls Try.prog 40 #[.int .u8 (k.toNat : Int), .string body] w fun e w' => e = .returned (.string (recB k body)) ∧ Below w.heap.size w w' := by
  have hs : (body.size : Int) ≤ 700000 := by omega
  have HL := Lib.hid hl
  clear hl
  go_enter Try.func40, Try.ntmps40
  go_wp2_with fail
  obtain ⟨H, hH⟩ : ∃ H, w.heap.size = H := ⟨_, rfl⟩
  obtain ⟨W0, hW0⟩ : ∃ W0, W0 = (w.alloc (.cells #[.pointer none, .slice none 0 0] 84)).alloc (.cells #[.pointer none, .slice none 0 0] 84) := ⟨_, rfl⟩
  have h1 : Wr H (.slice none 0 0) [] W0 := Wr.fresh (by rw [hW0, ← hH]; rw [Lib.alloc_old _ _ _ (by simp)]; exact heap_alloc_new _ _)
  have h2 : W0.heap[H + 1]? = some (.cells #[.pointer none, .slice none 0 0] 84 (0, 0)) := by
    have := heap_alloc_new (w.alloc (.cells #[.pointer none, .slice none 0 0] 84)) (.cells #[.pointer none, .slice none 0 0] 84)
    rw [hW0, ← hH]; simpa using this
  have hb0 : Below w.heap.size w W0 := by rw [hW0]; exact ((Below.refl _ _).alloc (Nat.le_refl _) _).alloc (by simp) _
  have hsz : W0.heap.size = H + 2 := by rw [hW0, ← hH]; simp
  rw [← hW0]
  simp only [hH]
  rw [hH] at hb0
  clear hW0
  have HB0 := Lib.hid hb0
  have HSZ := Lib.hid hsz
  have HH := Lib.hid hH
  have K1 := Lib.hid (wbyte_prog H _ [] k W0 h1 (by decide))
  have HZ := Lib.hid h2
  clear h1 h2 hb0 hsz hH
  refine K1.out.mono ?_
  rintro e w1 ⟨rfl, v1, hw1, hf1⟩
  have K2 := Lib.hid (wnum_prog H v1 _ body.size w1 hw1.wr (by simp) (by have := HL.out; unfold m64; omega))
  have HF1 := Lib.hid hf1
  clear hw1 hf1 K1
  go_wp2_with fail
  refine K2.out.mono ?_
  rintro e w2 ⟨rfl, v2, hw2, hf2⟩
  have K3 := Lib.hid (bstring_prog H v2 _ w2 hw2 (num_ne _ _))
  have HF2 := Lib.hid (HF1.out.trans hf2)
  clear hw2 hf2 K2
  go_wp2_with fail
  refine K3.out.mono ?_
  rintro e w3 ⟨rfl, hf3⟩
  have hF3 := HF2.out.trans hf3
  have hz3 := hF3.keep HZ.out (by omega) (by simp [Value.ownBlock])
  have hb3 : Below H w w3 := HB0.out.trans (hF3.below (Nat.le_refl _) (fun j hj => by simp [Value.ownBlock] at hj) (by have := HSZ.out; omega))
  rw [headB_eq]
  have K4 := Lib.hid (wsealed_prog (H + 1) _ [] (headB k body.size) w3 (Wr.fresh hz3) (by rw [headB_size]; simp))
  have HB3 := Lib.hid hb3
  have HS3 := Lib.hid hf3.size
  have HS3' := Lib.hid hF3.size
  clear K3 hf3 hF3 hz3 hb3 HF1 HF2
  go_wp2_with fail
  refine K4.out.mono ?_
  rintro e w4 ⟨rfl, v4, hw4, hf4⟩
  have K5 := Lib.hid (wsealed_prog (H + 1) v4 _ body w4 hw4 (by have := HL.out; rw [List.length_append, sealL_len, headB_size]; simp; omega))
  have HF4 := Lib.hid hf4
  clear K4 hw4 hf4
  go_wp2_with fail
  refine K5.out.mono ?_
  rintro e w5 ⟨rfl, v5, hw5, hf5⟩
  have K6 := Lib.hid (bstring_prog (H + 1) v5 _ w5 hw5 (app_ne _ _))
  have HF5 := Lib.hid (HF4.out.trans hf5)
  clear K5 hw5 hf5 HF4
  go_wp2_with fail
  refine K6.out.mono ?_
  rintro e w6 ⟨rfl, hf6⟩
  have HF6 := Lib.hid (HF5.out.trans hf6)
  clear K6 hf6 HF5
  rw [recB_eq]
  go_wp2_with fail
  go_ret
  rw [HH.out]
  exact ⟨rfl, HB3.out.trans (HF6.out.below (by omega) (fun j hj => by simp [Value.ownBlock] at hj) (by have := HSZ.out; have := HS3'.out; omega))⟩

set_option maxRecDepth 100000 in
theorem addBody_prog (behind : Nat) (v : Value) (E : List Ent) (w : World) (hb : behind < m64) (hv : ESl w v E) (hE : EntsOk E) (hl : (entsL E).length ≤ 600000) :
    Calls Try.prog 25 #[.int .u64 (behind : Int), v] w fun e w' => e = .returned (.string (addB behind E)) ∧ Below w.heap.size w w' := by
  have HV := Lib.hid hv
  have HE := Lib.hid hE
  have HL := Lib.hid hl
  have HBb := Lib.hid hb
  obtain ⟨a, c, rfl, hc, _⟩ := id hv
  clear hv hE hl hb hc
  go_enter Try.func25, Try.ntmps25
  go_wp2_with fail
  obtain ⟨W0, hW0⟩ : ∃ W0, W0 = w.alloc (.cells #[.pointer none, .slice none 0 0] 84) := ⟨_, rfl⟩
  have h1 : Wr w.heap.size (.slice none 0 0) [] W0 := Wr.fresh (by rw [hW0]; exact heap_alloc_new _ _)
  have hb0 : Below w.heap.size w W0 := by rw [hW0]; exact (Below.refl _ _).alloc (Nat.le_refl _) _
  rw [← hW0]
  clear hW0
  have K1 := Lib.hid (wnum_prog w.heap.size _ [] behind W0 h1 (by simp) HBb.out)
  have HB0 := Lib.hid hb0
  clear h1 hb0
  refine K1.out.mono ?_
  rintro e w1 ⟨rfl, v1, hw1, hf1⟩
  have hv0 := HV.out.later HB0.out
  have hap : E ≠ [] → Apart w.heap.size (.slice none 0 0) (.slice a E.length c) := fun hne k hk => by
    obtain ⟨a', c', e0, _, h3⟩ := HV.out
    obtain ⟨g, o, ha, hg, _⟩ := h3 hne
    injection e0 with e1 _ _
    subst e1
    subst ha
    obtain rfl : g = k := by simpa [Value.ownBlock] using hk
    exact ⟨by omega, by simp [Value.ownBlock]⟩
  obtain ⟨hv1, hap1⟩ := hv0.ch hap hf1
  have K2 := Lib.hid (wents_prog w.heap.size v1 _ _ E w1 hw1 hv1 hap1 HE.out (by have := HL.out; rw [List.length_append, numL_len]; simp; omega))
  have HF1 := Lib.hid hf1
  clear hw1 hf1 K1 hv0 hap hv1 hap1
  go_wp2_with fail
  refine K2.out.mono ?_
  rintro e w2 ⟨rfl, v2, hw2, hf2⟩
  have K3 := Lib.hid (bstring_prog w.heap.size v2 _ w2 hw2 (by simp [numL]))
  have HF2 := Lib.hid (HF1.out.trans hf2)
  clear K2 hw2 hf2 HF1
  go_wp2_with fail
  refine K3.out.mono ?_
  rintro e w3 ⟨rfl, hf3⟩
  have HF3 := Lib.hid (HF2.out.trans hf3)
  clear K3 hf3 HF2
  go_wp2_with fail
  go_ret
  exact ⟨rfl, HB0.out.trans (HF3.out.below (Nat.le_refl _) (fun j hj => by simp [Value.ownBlock] at hj) HB0.out.size)⟩

set_option maxRecDepth 100000 in
theorem voteBody_prog (t : Nat) (v : Int) (w : World) (ht : t < m64) :
    Calls Try.prog 31 #[.int .u64 (t : Int), .int .i64 v] w fun e w' => e = .returned (.string (voteB t v)) ∧ Below w.heap.size w w' := by
  have HT := Lib.hid ht
  have hvn : IntKind.u64.wrap v = (voteN v : Int) := by unfold voteN; have := u64_range v; omega
  have HVN := Lib.hid (voteN_lt v)
  clear ht
  go_enter Try.func31, Try.ntmps31
  go_wp2_with fail
  obtain ⟨W0, hW0⟩ : ∃ W0, W0 = w.alloc (.cells #[.pointer none, .slice none 0 0] 84) := ⟨_, rfl⟩
  have h1 : Wr w.heap.size (.slice none 0 0) [] W0 := Wr.fresh (by rw [hW0]; exact heap_alloc_new _ _)
  have hb0 : Below w.heap.size w W0 := by rw [hW0]; exact (Below.refl _ _).alloc (Nat.le_refl _) _
  rw [← hW0]
  clear hW0
  have K1 := Lib.hid (wnum_prog w.heap.size _ [] t W0 h1 (by simp) HT.out)
  have HB0 := Lib.hid hb0
  clear h1 hb0
  refine K1.out.mono ?_
  rintro e w1 ⟨rfl, v1, hw1, hf1⟩
  have K2 := Lib.hid (wnum_prog w.heap.size v1 _ (voteN v) w1 hw1 (by simp [numL]) HVN.out)
  have HF1 := Lib.hid hf1
  clear hw1 hf1 K1
  go_wp2_with fail
  refine K2.out.mono ?_
  rintro e w2 ⟨rfl, v2, hw2, hf2⟩
  have K3 := Lib.hid (bstring_prog w.heap.size v2 _ w2 hw2 (by simp [numL]))
  have HF2 := Lib.hid (HF1.out.trans hf2)
  clear K2 hw2 hf2 HF1
  go_wp2_with fail
  refine K3.out.mono ?_
  rintro e w3 ⟨rfl, hf3⟩
  have HF3 := Lib.hid (HF2.out.trans hf3)
  clear K3 hf3 HF2
  go_wp2_with fail
  go_ret
  exact ⟨rfl, HB0.out.trans (HF3.out.below (Nat.le_refl _) (fun j hj => by simp [Value.ownBlock] at hj) HB0.out.size)⟩
end Go.Proofs.Ytfocljmjejniiaa
