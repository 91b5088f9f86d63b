/- net: awake of layer 10. -/
import Derived.Test.YtgdlnjhbencjkaaNInv
import Derived.Test.YtgdlnjhbencjkaaNTo
namespace Go.Proofs.Ytgdlnjhbencjkaa
open Go.RowKit
def awA : ByteArray := ⟨#[97]⟩
def awM : Mg := ⟨0, 0, 1, 7, 0, 0, 0, false, [(0, ⟨#[97]⟩)], ⟨#[]⟩⟩
def awM2 : Mg := ⟨0, 0, 2, 0, 0, 0, 0, false, [], ⟨#[]⟩⟩
theorem awSm : SmMsg awM := by
  refine ⟨by decide, by decide, by decide, by decide, by decide, by decide, by decide, by decide, ?_, by decide⟩
  intro e he
  obtain rfl : e = (0, ⟨#[97]⟩) := by simpa [awM] using he
  exact ⟨by decide, by decide⟩
theorem aw_rd : rdO (msgB awM) = some awM := by
  unfold rdO
  rw [msg_read awM (msg_ok awSm)]
  exact msgO_msgF (by decide) (by decide) (by decide)
theorem awPos : (posOf [(2, awM2), (3, awM)] 1 2).length = 1 := by decide +kernel
theorem aw_lists {w1 w' : World} (h1 : w'.heap[w1.heap.size]? = some (.cells #[.int .u64 0, .string ⟨#[97]⟩] 60 (0, 0))) (h2 : w'.heap[w1.heap.size + 1]? = some (.cells #[.int .i64 0, .int .i64 0, .int .i64 1, .int .u64 7, .int .u64 0, .int .u64 0, .int .u64 0, .bool false, .slice (some ⟨w1.heap.size, 0, none⟩) 1 1, .string ⟨#[]⟩, .int .i64 0, .int .i64 0, .int .i64 2, .int .u64 0, .int .u64 0, .int .u64 0, .int .u64 0, .bool false, .slice none 0 0, .string ⟨#[]⟩] 32 (0, 0))) :
    ∀ (i : Nat) (m : Mg), [awM, awM2][i]? = some m → ∃ ev, MCl w' (w1.heap.size + 1) (i * 10) m ev ∧ ESl w' ev m.ents := fun i m hm => by
  match i, hm with
  | 0, hm =>
    obtain rfl : awM = m := by simpa using hm
    refine ⟨.slice (some ⟨w1.heap.size, 0, none⟩) 1 1, ⟨?_, ?_, ?_, ?_, ?_, ?_, ?_, ?_, ?_, ?_⟩, ?_⟩
    iterate 10 (· simp [World.cell?, h2, awM])
    refine ⟨_, 1, rfl, Nat.le_refl 1, fun _ => ⟨w1.heap.size, 0, rfl, block_lt h1, fun j x hx => ?_⟩⟩
    cases j with
    | zero =>
      obtain rfl : ((0 : Nat), (⟨#[97]⟩ : ByteArray)) = x := by simpa [awM] using hx
      simp [World.cell?, h1]
    | succ j => simp [awM] at hx
  | 1, hm =>
    obtain rfl : awM2 = m := by simpa using hm
    refine ⟨.slice none 0 0, ⟨?_, ?_, ?_, ?_, ?_, ?_, ?_, ?_, ?_, ?_⟩, ESl.nil _⟩
    iterate 10 (· simp [World.cell?, h2, awM2])
  | i + 2, hm => simp at hm
set_option maxHeartbeats 4000000 in
set_option maxRecDepth 100000 in
theorem awake_prog (w : World) : Calls Try.prog 7 #[] w fun e w' => e = .returned (.bool true) ∧ Below w.heap.size w w' := by
  go_enter Try.func7, Try.ntmps7
  go_wp2_with fail
  refine (new_prog w).mono ?_
  rintro e w1 ⟨rfl, hn1, hb1⟩
  obtain ⟨nb, hnb⟩ : ∃ nb, w.heap.size = nb := ⟨_, rfl⟩
  obtain ⟨W2, hW2⟩ : ∃ W2, W2 = (w1.alloc (.cells #[.int .u64 0, .string ⟨#[97]⟩] 60)).alloc (.cells #[.int .i64 0, .int .i64 0, .int .i64 1, .int .u64 7, .int .u64 0, .int .u64 0, .int .u64 0, .bool false, .slice (some ⟨w1.heap.size, 0, none⟩) 1 1, .string ⟨#[]⟩, .int .i64 0, .int .i64 0, .int .i64 2, .int .u64 0, .int .u64 0, .int .u64 0, .int .u64 0, .bool false, .slice none 0 0, .string ⟨#[]⟩] 32) := ⟨_, rfl⟩
  have hb2 : Below w1.heap.size w1 W2 := by rw [hW2]; exact ((Below.refl _ _).alloc (Nat.le_refl _) _).alloc (by simp) _
  have he2 : W2.heap[w1.heap.size]? = some (.cells #[.int .u64 0, .string ⟨#[97]⟩] 60 (0, 0)) := by rw [hW2, heap_alloc_old _ _ (by simp)]; exact heap_alloc_new _ _
  have hm2 : W2.heap[w1.heap.size + 1]? = some (.cells #[.int .i64 0, .int .i64 0, .int .i64 1, .int .u64 7, .int .u64 0, .int .u64 0, .int .u64 0, .bool false, .slice (some ⟨w1.heap.size, 0, none⟩) 1 1, .string ⟨#[]⟩, .int .i64 0, .int .i64 0, .int .i64 2, .int .u64 0, .int .u64 0, .int .u64 0, .int .u64 0, .bool false, .slice none 0 0, .string ⟨#[]⟩] 32 (0, 0)) := by rw [hW2]; exact heap_alloc2 _ _ _
  have hn2 := hn1.later hb2
  have HB2 := Lib.hid (hb1.trans (hb2.mono hb1.size))
  have KP := Lib.hid (put_prog [awM, awM2] (w1.heap.size + 1) 2 hn2 (fun w' v' hc => aw_lists ((hc.msgs hn2 _ _ _ he2 (by decide) (by decide)).trans he2) ((hc.msgs hn2 _ _ _ hm2 (by decide) (by decide)).trans hm2)) (by decide) (by decide) (fun m hm => by
    rcases List.mem_cons.1 hm with rfl | hm
    · decide
    · obtain rfl : m = awM2 := by simpa using hm
      decide))
  rw [hnb] at KP HB2 ⊢
  clear hn1 hb1 hb2 he2 hm2 hn2
  go_wp2_with fail
  simp only [← hW2]
  clear hW2
  refine KP.out.mono ?_
  rintro e w3 ⟨rfl, v3, hn3, hc3⟩
  have hn3' : NW w3 nb v3 2 [(1, awM), (2, awM2)] := hn3
  have KT := Lib.hid (twice_yes hn3' 0 1 awM rfl (by decide) (by decide))
  have HC3 := Lib.hid hc3
  clear KP hn3 hn3' hc3
  go_wp2_with fail
  refine KT.out.mono ?_
  rintro e w4 ⟨rfl, v4, hn4, hc4⟩
  have hn4' : NW w4 nb v4 3 [(1, awM), (2, awM2), (3, awM)] := hn4
  have KK := Lib.hid (take_yes hn4' 0 1 awM rfl (by decide) (by decide))
  have HC4 := Lib.hid (HC3.out.trans hc4)
  have eMl : ∀ ev, (mgL awM ev).toArray = #[.int .i64 0, .int .i64 0, .int .i64 1, .int .u64 7, .int .u64 0, .int .u64 0, .int .u64 0, .bool false, ev, .string ⟨#[]⟩] := fun _ => rfl
  simp only [eMl] at KK
  clear KT hn4 hn4' hc4
  go_wp2_with fail
  refine KK.out.mono ?_
  rintro e w5 ⟨ev, rfl, ho5, v5, hn5, hc5⟩
  have hn5' : NW w5 nb v5 3 [(2, awM2), (3, awM)] := hn5
  have HC5 := Lib.hid (HC4.out.trans hc5)
  obtain ⟨ea, ec, rfl, _⟩ := ho5.shape
  have hEl : awM.ents.length = 1 := rfl
  rw [hEl] at ho5 ⊢
  clear KK hc5 hn5
  obtain ⟨W6, hW6⟩ : ∃ W6, W6 = w5.alloc (.cells #[.int .i64 0, .int .i64 0, .int .i64 1, .int .u64 7, .int .u64 0, .int .u64 0, .int .u64 0, .bool false, .slice ea 1 ec, .string ⟨#[]⟩] 32) := ⟨_, rfl⟩
  have hb6 : Below w5.heap.size w5 W6 := by rw [hW6]; exact (Below.refl _ _).alloc (Nat.le_refl _) _
  have hz6 : W6.heap[w5.heap.size]? = some (.cells #[.int .i64 0, .int .i64 0, .int .i64 1, .int .u64 7, .int .u64 0, .int .u64 0, .int .u64 0, .bool false, .slice ea 1 ec, .string ⟨#[]⟩] 32 (0, 0)) := by rw [hW6]; exact heap_alloc_new _ _
  have hlt6 := block_lt hz6
  obtain ⟨c0, c1, c2, c3, c4, c5, c6, c7, c8, c9⟩ := cells10 hz6
  have HZ6 := Lib.hid hz6
  have HN6 := Lib.hid (hn5'.later hb6)
  have HC6 := Lib.hid (HC5.out.trans (NCh.ofBelow nb v5 hb6))
  obtain ⟨S, hS⟩ : ∃ S, S = (⟨(msgB awM).toArray⟩ : ByteArray) := ⟨_, rfl⟩
  have KB := Lib.hid (bytes_yes awM (.slice ea 1 ec) W6 ((EOwn.sl ho5).later hb6) (by decide) (by decide) (by decide) (by decide) (msg_ok awSm) (msg_right awM) (msg_fits awSm))
  have KR := Lib.hid (fun W => read_msg S W (by rw [hS, sz_bytes]; have := msg_small awSm; omega))
  have hSr : rdO S.data.toList = some awM := by rw [hS]; exact aw_rd
  rw [hSr] at KR
  rw [← hS] at KB
  simp only [eMl] at KB
  clear hSr hS hn5' ho5 hb6 hz6 hEl
  go_wp2_with fail
  simp only [← hW6]
  clear hW6
  refine KB.out.mono ?_
  rintro e w7 ⟨rfl, hb7⟩
  have KR7 := Lib.hid (KR.out w7)
  have HZ7 := Lib.hid ((hb7.block _ hlt6).trans HZ6.out)
  have HN7 := Lib.hid (HN6.out.later hb7)
  have HC7 := Lib.hid (HC6.out.trans (NCh.ofBelow nb v5 hb7))
  have hlt7 : w5.heap.size < w7.heap.size := Nat.lt_of_lt_of_le hlt6 hb7.size
  clear KB KR hb7 c0 c1 c2 c3 c4 c5 c6 c7 c8 c9
  go_wp2_with fail
  refine KR7.out.mono ?_
  rintro e w8 ⟨m8, ev8, b8, rfl, hno, hyes, ho8, hb8⟩
  cases b8 with
  | false => have := (hno rfl).1; cases this
  | true =>
    obtain rfl : awM = m8 := Option.some.inj (hyes rfl)
    rw [eMl]
    obtain ⟨fa, fc, rfl, _⟩ := ho8.shape
    have hEl : awM.ents.length = 1 := rfl
    rw [hEl]
    have HZ8 := Lib.hid ((hb8.block _ hlt7).trans HZ7.out)
    have HN8 := Lib.hid (HN7.out.later hb8)
    have HC8 := Lib.hid (HC7.out.trans (NCh.ofBelow nb v5 hb8))
    have hlt8 : w5.heap.size < w8.heap.size := Nat.lt_of_lt_of_le hlt7 hb8.size
    obtain ⟨W9, hW9⟩ : ∃ W9, W9 = w8.alloc (.cells #[.int .i64 0, .int .i64 0, .int .i64 1, .int .u64 7, .int .u64 0, .int .u64 0, .int .u64 0, .bool false, .slice fa 1 fc, .string ⟨#[]⟩] 32) := ⟨_, rfl⟩
    have hb9 : Below w8.heap.size w8 W9 := by rw [hW9]; exact (Below.refl _ _).alloc (Nat.le_refl _) _
    have hz9 : W9.heap[w8.heap.size]? = some (.cells #[.int .i64 0, .int .i64 0, .int .i64 1, .int .u64 7, .int .u64 0, .int .u64 0, .int .u64 0, .bool false, .slice fa 1 fc, .string ⟨#[]⟩] 32 (0, 0)) := by rw [hW9]; exact heap_alloc_new _ _
    obtain ⟨c0, c1, c2, c3, c4, c5, c6, c7, c8, c9⟩ := cells10 hz9
    obtain ⟨d0, d1, d2, d3, d4, d5, d6, d7, d8, d9⟩ := cells10 ((hb9.block _ hlt8).trans HZ8.out)
    have hn9 := HN8.out.later hb9
    have HC9 := Lib.hid (HC8.out.trans (NCh.ofBelow nb v5 hb9))
    have KL : Hid (Calls Try.prog 19 #[.pointer (some ⟨nb, 0, none⟩)] W9 fun e w' => e = .returned (.int .i64 2) ∧ W9 = w') := Lib.hid (len_prog hn9)
    have KTo := Lib.hid (to_prog hn9 1 (by decide))
    clear KR7 hno hyes ho8 hb8 hb9 hz9 hn9 hEl
    go_wp2_with fail
    simp only [← hW9]
    clear hW9
    refine KL.out.mono ?_
    rintro e w10 ⟨rfl, rfl⟩
    clear KL
    go_wp2_with fail
    refine KTo.out.mono ?_
    rintro e w11 ⟨v11, rfl, ho11, hb11⟩
    have hpl : (posOf [(2, awM2), (3, awM)] 1 [(2, awM2), (3, awM)].length).length = 1 := awPos
    obtain ⟨ia, ic, rfl⟩ : ∃ a c, v11 = .slice a 1 c := by
      unfold IOwn at ho11
      rw [hpl] at ho11
      rcases ho11.2 with ⟨_, h0⟩ | ⟨g, cap, cur, hv, _⟩
      · omega
      · exact ⟨_, _, hv⟩
    have HC11 := Lib.hid (HC9.out.trans (NCh.ofBelow nb v5 hb11))
    clear KTo ho11 hb11 hpl c0 c1 c2 c3 c4 c5 c6 c7 c8 c9 d0 d1 d2 d3 d4 d5 d6 d7 d8 d9
    go_wp2_with fail
    go_ret
    exact ⟨rfl, by rw [hnb]; exact HB2.out.trans (HC11.out.below (Nat.le_refl _) (fun j hj => by simp [Value.ownBlock] at hj) (by have := HB2.out.size; omega))⟩
end Go.Proofs.Ytgdlnjhbencjkaa
