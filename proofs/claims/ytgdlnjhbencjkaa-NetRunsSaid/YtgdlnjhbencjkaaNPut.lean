/- net: Put, To. -/
import Derived.Test.YtgdlnjhbencjkaaNTake
import Derived.Test.YtgdlnjhbencjkaaNMsl
namespace Go.Proofs.Ytgdlnjhbencjkaa
open Go.RowKit
/-- Messages, each with the next number. -/
def numbered (all : Nat) : List Mg → List (Nat × Mg)
  | [] => []
  | m :: r => (all + 1, m) :: numbered (all + 1) r
theorem numbered_snoc (all : Nat) (l : List Mg) (m : Mg) : numbered all (l ++ [m]) = numbered all l ++ [(all + l.length + 1, m)] := by
  induction l generalizing all with
  | nil => rfl
  | cons x l ih => simp only [List.cons_append, numbered, ih, List.length_cons]; rw [show all + 1 + l.length + 1 = all + (l.length + 1) + 1 by omega]
theorem numbered_len (all : Nat) (l : List Mg) : (numbered all l).length = l.length := by
  induction l generalizing all with
  | nil => rfl
  | cons x l ih => simp [numbered, ih]
section
variable {w : World} {nb : Nat} {v : Value} {all : Nat} {l : List (Nat × Mg)}
set_option maxHeartbeats 4000000 in
set_option maxRecDepth 100000 in
theorem put_prog (ms : List Mg) (g c : Nat) (h : NW w nb v all l)
    (hms : ∀ w' v', NCh nb v w w' v' → ∀ (i : Nat) (m : Mg), ms[i]? = some m → ∃ ev, MCl w' g (i * 10) m ev ∧ ESl w' ev m.ents)
    (hall : all + ms.length < 1000000) (hl : l.length + ms.length < 1000000) (hE : ∀ m ∈ ms, m.ents.length ≤ 1000) :
    Calls Try.prog 11 #[.pointer (some ⟨nb, 0, none⟩), .slice (some ⟨g, 0, none⟩) ms.length c] w fun e w' => e = .returned (.tuple #[]) ∧ ∃ v', NW w' nb v' (all + ms.length) (l ++ numbered all ms) ∧ NCh nb v w w' v' := by
  have H := Lib.hid h
  have HMS := Lib.hid hms
  have HALL := Lib.hid hall
  have HL := Lib.hid hl
  have HE := Lib.hid hE
  obtain ⟨n, hn⟩ : ∃ n, ms.length = n := ⟨_, rfl⟩
  rw [hn]
  have HN := Lib.hid hn
  have hnI : (n : Int) < 1000000 := by omega
  clear h hms hall hl hE hn
  go_enter Try.func11, Try.ntmps11
  go_wp2_with fail
  go_loopw [11] (fun i wr => ∃ (k : Nat) (v' : Value), k ≤ n ∧ i = .int .i64 (k : Int) ∧ Hid (NW wr nb v' (all + k) (l ++ numbered all (ms.take k))) ∧ Hid (NCh nb v w wr v')) (fun i _ => n - (intOf i).toNat)
  case atStart => exact ⟨0, v, by omega, rfl, Lib.hid (by simpa [numbered] using H.out), Lib.hid (NCh.refl _ _ _)⟩
  case round =>
    obtain ⟨k, v', hk, rfl, HW, HC⟩ := hrel
    by_cases hlt : k < n
    · have hkI : (k : Int) < (n : Int) := by omega
      have hk0 : (0 : Int) ≤ (k : Int) := by omega
      obtain ⟨m, hm⟩ : ∃ m, ms[k]? = some m := ⟨_, List.getElem?_eq_getElem (by rw [HN.out]; exact hlt)⟩
      obtain ⟨ev, k1, s1⟩ := HMS.out wr v' HC.out k m hm
      obtain ⟨x0, x1, x2, x3, x4, x5, x6, x7, x8, x9⟩ := k1
      obtain ⟨pa, pc, rfl, _, _⟩ := id s1
      have hEl := HE.out m (List.mem_of_getElem? hm)
      obtain ⟨W1, hW1⟩ : ∃ W1, W1 = wr.alloc (.cells #[.int .i64 m.kind, .int .i64 m.src, .int .i64 m.dst, .int .u64 (m.term : Int), .int .u64 (m.index : Int), .int .u64 (m.lterm : Int), .int .u64 (m.commit : Int), .bool m.ok, .slice pa m.ents.length pc, .string m.state] 32) := ⟨_, rfl⟩
      have hb1 : Below wr.heap.size wr W1 := by rw [hW1]; exact (Below.refl _ _).alloc (Nat.le_refl _) _
      have KC := Lib.hid (copied_prog m (.slice pa m.ents.length pc) W1 (s1.later hb1) hEl)
      have HB1 := Lib.hid hb1
      have HM := Lib.hid hm
      have hz1 : W1.heap[wr.heap.size]? = some (.cells #[.int .i64 m.kind, .int .i64 m.src, .int .i64 m.dst, .int .u64 (m.term : Int), .int .u64 (m.index : Int), .int .u64 (m.lterm : Int), .int .u64 (m.commit : Int), .bool m.ok, .slice pa m.ents.length pc, .string m.state] 32 (0, 0)) := by rw [hW1]; exact heap_alloc_new _ _
      obtain ⟨c0, c1, c2, c3, c4, c5, c6, c7, c8, c9⟩ := cells10 hz1
      unfold mgL at KC
      clear hb1 hm s1 hEl hz1
      go_wp2_with fail
      simp only [← hW1]
      refine KC.out.mono ?_
      rintro e w2 ⟨ev2, rfl, ho2, hb2⟩
      obtain ⟨a2, cc2, rfl, _⟩ := ho2.shape
      have HB2 := Lib.hid (HB1.out.trans (hb2.mono HB1.out.size))
      obtain ⟨W3, hW3⟩ : ∃ W3, W3 = w2.alloc (.cells #[.int .i64 m.kind, .int .i64 m.src, .int .i64 m.dst, .int .u64 (m.term : Int), .int .u64 (m.index : Int), .int .u64 (m.lterm : Int), .int .u64 (m.commit : Int), .bool m.ok, .slice a2 m.ents.length cc2, .string m.state] 32) := ⟨_, rfl⟩
      have hb3 : Below w2.heap.size w2 W3 := by rw [hW3]; exact (Below.refl _ _).alloc (Nat.le_refl _) _
      have hz3 : W3.heap[w2.heap.size]? = some (.cells (mgL m (.slice a2 m.ents.length cc2)).toArray 32 (0, 0)) := by rw [hW3]; exact heap_alloc_new _ _
      have HB3 := Lib.hid (HB2.out.trans (hb3.mono HB2.out.size))
      have hNW3 := HW.out.later HB3.out
      have hlen : (l ++ numbered all (ms.take k)).length < 1000000 := by rw [List.length_append, numbered_len, List.length_take]; have := HL.out; omega
      have HADD := Lib.hid (add_prog hNW3 w2.heap.size m ⟨_, hz3, EOwn.base (B := W1.heap.size) (ho2.later hb3) (fun _ _ => Nat.zero_le _)⟩ (by have := HALL.out; have := HN.out; omega) hlen)
      clear hb2 ho2 hb3 hz3 hNW3 hlen KC
      go_wp2_with fail
      simp only [← hW3]
      refine HADD.out.mono ?_
      rintro e w4 ⟨rfl, v4, hn4, hc4⟩
      have HN4 := Lib.hid hn4
      have HC4 := Lib.hid ((HC.out.trans (NCh.ofBelow nb v' HB3.out)).trans hc4)
      have HTK : Hid (ms.take (k + 1) = ms.take k ++ [m]) := Lib.hid (by rw [List.take_add_one, HM.out]; rfl)
      have HKL : Hid ((ms.take k).length = k) := Lib.hid (by rw [List.length_take, HN.out]; omega)
      clear hn4 hc4 HADD hW1 hW3 x0 x1 x2 x3 x4 x5 x6 x7 x8 x9 c0 c1 c2 c3 c4 c5 c6 c7 c8 c9
      go_wp2_with fail
      go_roundw
      case rel => exact ⟨k + 1, v4, by omega, by go_num, Lib.hid (by rw [HTK.out, numbered_snoc, HKL.out, ← List.append_assoc]; exact HN4.out), HC4⟩
      case measure => simp [intOf]; omega
    · have hke : k = n := by omega
      subst hke
      have hkI : ¬ (k : Int) < (k : Int) := by omega
      have HT : Hid (ms.take k = ms) := Lib.hid (List.take_of_length_le (by rw [HN.out]; omega))
      go_wp2_with fail
      exact bodyPost_end (v := .tuple #[]) (results_none rfl _ _ _) rfl ⟨rfl, v', by have := HW.out; rw [HT.out] at this; exact this, HC.out⟩
end
end Go.Proofs.Ytgdlnjhbencjkaa
