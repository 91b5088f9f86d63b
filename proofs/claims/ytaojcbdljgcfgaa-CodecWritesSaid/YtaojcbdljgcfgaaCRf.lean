/- vidimusref03.node whole; Read. -/
import Derived.Test.YtaojcbdljgcfgaaCNl
namespace Go.Proofs.Ytaojcbdljgcfgaa
open Go.RowKit

theorem node_step (d : Nat) (IH : NodeOk d) : NodeOk (d + 1) := by
  intro s A w hs hA hd
  rcases Nat.lt_or_ge A s.size with hlt | hge
  · have hdrop : s.data.toList.drop A = s[A] :: s.data.toList.drop (A + 1) := by
      rw [List.drop_eq_getElem_cons (by simpa using hlt)]; rfl
    cases hz : szP 4 (s.data.toList.drop (A + 1)) with
    | none =>
      have hp : parse (d + 1) (s.data.toList.drop A) = none := by rw [hdrop, parse, hz]
      rw [hp]
      exact node_nosize s A d w hs hlt hz
    | some p =>
      obtain ⟨m, q⟩ := p
      obtain ⟨e1, e2⟩ := szP_inv 4 _ _ _ hz
      have hq : ∃ E, E ≤ s.size ∧ q = s.data.toList.drop E := by
        have hl := congrArg List.length e1
        refine ⟨A + 1 + (szL m).length, by simp at hl; omega, ?_⟩
        rw [← List.drop_drop, e1, List.drop_left]
      obtain ⟨E, hE, rfl⟩ := hq
      have hp : parse (d + 1) (s.data.toList.drop A) = bodyP (parse d) s[A] m (s.data.toList.drop E) := by rw [hdrop, parse, hz]
      rw [hp]
      unfold bodyP
      by_cases h1 : s[A].toNat = 110
      · rw [if_pos h1]
        exact node_num s A d E m w hs hlt hE e2 h1 hz
      rw [if_neg h1]
      by_cases h2 : s[A].toNat = 115
      · rw [if_pos h2]
        exact node_txt s A d E m w hs hlt hE e2 h2 hz
      rw [if_neg h2]
      by_cases h3 : s[A].toNat = 108
      · rw [if_pos h3]
        exact node_list s A d E m w hs (by omega) hlt hE e2 h3 IH hz
      rw [if_neg h3]
      exact node_oth s A d E m w hs hlt hE e2 h1 h2 h3 hz
  · exact node_none s A (d + 1) w (.inl hge)
theorem node_ok (d : Nat) : NodeOk d := by
  induction d with
  | zero => intro s A w _ _ _; exact node_none s A 0 w (.inr rfl)
  | succ d ih => exact node_step d ih

set_option maxRecDepth 30000 in
set_option maxHeartbeats 1000000 in
theorem read_ref (s : ByteArray) (w : World) (hs : s.size ≤ 10000000) : Calls Try.prog 18 #[.string s] w (ReadRes (readO s.data.toList) w.heap.size w) := by
  have hsI : (s.size : Int) ≤ 10000000 := by omega
  have hblk := heap_alloc_new w (.cells #[.int .i64 0, .int .u64 0, .string ⟨#[]⟩, .slice none 0 0] 27)
  have hcall := Lib.hid (nd_keep w.heap.size hblk w.heap.size hblk (node_ok 20 s 0 (w.alloc (.cells #[.int .i64 0, .int .u64 0, .string ⟨#[]⟩, .slice none 0 0] 27)) (by omega) (by omega) (by decide)))
  obtain ⟨O, hO⟩ : ∃ O, readO s.data.toList = O := ⟨_, rfl⟩
  rw [hO]
  have HO := Lib.hid hO
  clear hO hblk
  go_enter Try.func18, Try.ntmps18
  go_wp2_with fail
  refine hcall.out.mono ?_
  rintro e w4 ⟨x, ka, kn, kc, en, rfl, hb4, h1, hk6, _⟩
  obtain ⟨c0, c1, c2, c3, f0, f1, f2, f3⟩ := block4 hk6
  have hlt6 : w.heap.size < w4.heap.size := (Array.getElem?_eq_some_iff.1 hk6).1
  have hbb : Below w.heap.size w w4 := ((Below.refl _ _).alloc (Nat.le_refl _) _).trans (hb4.mono (by simp))
  clear hcall hk6
  rcases h1 with ⟨rfl, hn⟩ | ⟨E, rfl, hE, hp, hkid⟩
  · have hO2 : Hid (O = none) := Lib.hid (by rw [← HO.out, readO]; rw [List.drop_zero] at hn; rw [hn])
    have hne : ((-1 : Int) == (s.size : Int)) = false := by simp <;> omega
    clear hn
    go_wp2_with fail
    refine bodyPost_ret (v := .tuple #[nodeV 0 0 ⟨#[]⟩ (.slice none 0 0), .bool false]) (by simp [results, Try.results18, go_sem, nodeV, c0, c1, c2, c3, hlt6]) rfl ⟨⟨0, 0, ⟨#[]⟩, .nil⟩, none, 0, 0, _, rfl, ?_, (fun h => by cases h), fun _ => ⟨hO2.out, rfl⟩, .inl ⟨rfl, rfl⟩⟩
    exact ((((hbb.setCell (Nat.le_refl _) _).setCell (Nat.le_refl _) _).setCell (Nat.le_refl _) _).setCell (Nat.le_refl _) _).alloc (by simp only [size_setCell]; omega) _
  · rw [List.drop_zero] at hp
    have HP := Lib.hid hp
    have HKID := Lib.hid hkid
    clear hp hkid
    by_cases h0 : E = s.size
    · have hO2 : Hid (O = some x) := Lib.hid (by
        have e1 : s.data.toList.drop E = [] := List.drop_of_length_le (by simp [h0])
        rw [← HO.out, readO, HP.out, e1])
      have hee : ((E : Int) == (s.size : Int)) = true := by simp [h0]
      have hee2 : (E : Int) = (s.size : Int) := by omega
      clear h0
      go_wp2_with fail
      refine bodyPost_ret (v := .tuple #[nodeV x.k x.n x.s (.slice ka kn kc), .bool true]) (by simp [results, Try.results18, go_sem, nodeV, c0, c1, c2, c3, hlt6]) rfl ⟨x, ka, kn, kc, _, rfl, ?_, fun _ => hO2.out, (fun h => by cases h), ?_⟩
      · exact ((((hbb.setCell (Nat.le_refl _) _).setCell (Nat.le_refl _) _).setCell (Nat.le_refl _) _).setCell (Nat.le_refl _) _).alloc (by simp only [size_setCell]; omega) _
      · refine (kids_set4 HKID.out (by simp) (by simp : w.heap.size ≤ _)).mono (fun b hb => ⟨hb.1, by simp at hb ⊢; omega⟩) (fun b hb => Below.heap_alloc _ _ _ hb.2)
    · have hO2 : Hid (O = none) := Lib.hid (by
        rw [← HO.out, readO, HP.out]
        have : s.data.toList.drop E ≠ [] := by intro h; have := congrArg List.length h; simp at this; omega
        cases hq : s.data.toList.drop E with
        | nil => exact absurd hq this
        | cons a l => rfl)
      have hee : ((E : Int) == (s.size : Int)) = false := by simp; omega
      clear h0
      go_wp2_with fail
      refine bodyPost_ret (v := .tuple #[nodeV 0 0 ⟨#[]⟩ (.slice none 0 0), .bool false]) (by simp [results, Try.results18, go_sem, nodeV, c0, c1, c2, c3, hlt6]) rfl ⟨⟨0, 0, ⟨#[]⟩, .nil⟩, none, 0, 0, _, rfl, ?_, (fun h => by cases h), fun _ => ⟨hO2.out, rfl⟩, .inl ⟨rfl, rfl⟩⟩
      exact ((((hbb.setCell (Nat.le_refl _) _).setCell (Nat.le_refl _) _).setCell (Nat.le_refl _) _).setCell (Nat.le_refl _) _).alloc (by simp only [size_setCell]; omega) _
end Go.Proofs.Ytaojcbdljgcfgaa
