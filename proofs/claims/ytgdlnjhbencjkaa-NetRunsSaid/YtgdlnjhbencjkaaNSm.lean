/- net: Small, same; bytes that are read. -/
import Derived.Test.YtgdlnjhbencjkaaNSame
import Derived.Test.YtgdlnjhbencjkaaNAwk
namespace Go.Proofs.Ytgdlnjhbencjkaa
open Go.RowKit
theorem ents_len : ∀ l : List Ent, 2 * l.length ≤ (entsF l).bytes.length
  | [] => by simp [entsF, F.bytes]
  | e :: r => by
    have ih := ents_len r
    have h2 : szL 2 = [2] := szL_lt (by omega)
    have h3 : (entF e).len = 2 := rfl
    have : 2 ≤ (nodeL 2 0 ⟨#[]⟩ (entF e).len (entF e).bytes).length := by
      simp only [nodeL, h3, h2, if_neg (show ¬ (2 : Int) = 0 by decide), if_neg (show ¬ (2 : Int) = 1 by decide), List.length_cons, List.length_append]
      omega
    simp only [entsF, F.bytes, List.length_append, List.length_cons]
    omega
theorem msgB_ents (m : Mg) : (entsF m.ents).bytes.length ≤ (msgB m).length := by
  have h : (entsF m.ents).bytes.length ≤ (nodeL 2 0 ⟨#[]⟩ (entsF m.ents).len (entsF m.ents).bytes).length := by
    simp only [nodeL, if_neg (show ¬ (2 : Int) = 0 by decide), if_neg (show ¬ (2 : Int) = 1 by decide), List.length_cons, List.length_append]
    omega
  have h2 : (nodeL 2 0 ⟨#[]⟩ (entsF m.ents).len (entsF m.ents).bytes).length ≤ (msgF m).bytes.length := by
    simp only [msgF, F.bytes, List.length_append]
    omega
  have h3 : (msgF m).bytes.length ≤ (msgB m).length := by
    simp only [msgB, nodeL, if_neg (show ¬ (2 : Int) = 0 by decide), if_neg (show ¬ (2 : Int) = 1 by decide), List.length_cons, List.length_append]
    omega
  omega
theorem rd_bytes {l : List UInt8} {m : Mg} (h : rdO l = some m) (hl : l.length ≤ 2000) : msgB m = l ∧ Nd.ok ⟨2, 0, ⟨#[]⟩, msgF m⟩ ∧ (0 ≤ m.kind ∧ m.kind < 9223372036854775808) ∧ (-1 ≤ m.src ∧ m.src < 9223372036854775808) ∧ (-1 ≤ m.dst ∧ m.dst < 9223372036854775808) ∧ m.ents.length ≤ 1000 := by
  unfold rdO readO at h
  cases hp : parse 20 l with
  | none => rw [hp] at h; cases h
  | some p =>
    obtain ⟨x, r⟩ := p
    rw [hp] at h
    cases r with
    | cons a r => cases h
    | nil =>
      have h' : msgO x = some m := h
      obtain ⟨e1, e2, e3⟩ := parse_inv 20 l x [] hp
      have hok := e3 (by omega)
      obtain ⟨rfl, h1, h2, h3⟩ := msgO_inv h' e2 hok
      have hb : msgB m = l := by rw [e1, List.append_nil]; rfl
      refine ⟨hb, hok, ⟨h1.1, by omega⟩, ⟨h2.1, by omega⟩, ⟨h3.1, by omega⟩, ?_⟩
      have q1 := ents_len m.ents
      have q2 := msgB_ents m
      rw [hb] at q2
      omega
def SameRes1 (m1 m2 : Mg) (w : World) (e : Ending) (w' : World) : Prop := ∃ r : Bool, e = .returned (.bool r) ∧ (r = true ↔ m1 = m2) ∧ Below w.heap.size w w'
set_option maxHeartbeats 2000000 in
set_option maxRecDepth 100000 in
theorem same_prog (m1 m2 : Mg) (v1 v2 : Value) (w : World) (h1 : ESl w v1 m1.ents) (h2 : ESl w v2 m2.ents) (hE : m1.ents.length ≤ 1000) :
    Calls Try.prog 14 #[.agg (mgL m1 v1).toArray, .agg (mgL m2 v2).toArray] w (SameRes1 m1 m2 w) := by
  obtain ⟨a1, c1, rfl, _, _⟩ := id h1
  obtain ⟨a2, c2, rfl, _, _⟩ := id h2
  obtain ⟨W1, hW1⟩ : ∃ W1, W1 = (w.alloc (.cells (mgL m1 (.slice a1 m1.ents.length c1)).toArray 32)).alloc (.cells (mgL m2 (.slice a2 m2.ents.length c2)).toArray 32) := ⟨_, rfl⟩
  have hb1 : Below w.heap.size w W1 := by rw [hW1]; exact ((Below.refl _ _).alloc (Nat.le_refl _) _).alloc (by simp) _
  have hz1 : W1.heap[w.heap.size]? = some (.cells (mgL m1 (.slice a1 m1.ents.length c1)).toArray 32 (0, 0)) := by rw [hW1, heap_alloc_old _ _ (by simp)]; exact heap_alloc_new _ _
  have hy1 : W1.heap[w.heap.size + 1]? = some (.cells (mgL m2 (.slice a2 m2.ents.length c2)).toArray 32 (0, 0)) := by rw [hW1]; exact heap_alloc2 _ _ _
  obtain ⟨W2, hW2⟩ : ∃ W2, W2 = (W1.alloc (.cells (mgL m1 (.slice a1 m1.ents.length c1)).toArray 32)).alloc (.cells (mgL m2 (.slice a2 m2.ents.length c2)).toArray 32) := ⟨_, rfl⟩
  have hb2 : Below W1.heap.size W1 W2 := by rw [hW2]; exact ((Below.refl _ _).alloc (Nat.le_refl _) _).alloc (by simp) _
  have hz2 : W2.heap[W1.heap.size]? = some (.cells (mgL m1 (.slice a1 m1.ents.length c1)).toArray 32 (0, 0)) := by rw [hW2, heap_alloc_old _ _ (by simp)]; exact heap_alloc_new _ _
  have hy2 : W2.heap[W1.heap.size + 1]? = some (.cells (mgL m2 (.slice a2 m2.ents.length c2)).toArray 32 (0, 0)) := by rw [hW2]; exact heap_alloc2 _ _ _
  have K := Lib.hid (same_ref [m1] [m2] _ _ W2 (MSl.one hz2 ((h1.later hb1).later hb2) 1) (MSl.one hy2 ((h2.later hb1).later hb2) 1) (by simp) (fun m hm => by
    have e : m = m1 := by simpa using hm
    rw [e]; omega))
  have HB := Lib.hid (hb1.trans (hb2.mono hb1.size))
  unfold mgL at hW1 hW2 hz1 hy1 ⊢
  obtain ⟨x0, x1, x2, x3, x4, x5, x6, x7, x8, x9⟩ := cells10 hz1
  have hz1' := (Below.alloc (Below.refl W1.heap.size W1) (Nat.le_refl _) (.cells #[.int .i64 m1.kind, .int .i64 m1.src, .int .i64 m1.dst, .int .u64 (m1.term : Int), .int .u64 (m1.index : Int), .int .u64 (m1.lterm : Int), .int .u64 (m1.commit : Int), .bool m1.ok, .slice a1 m1.ents.length c1, .string m1.state] 32)).block _ (block_lt hy1)
  obtain ⟨y0, y1, y2, y3, y4, y5, y6, y7, y8, y9⟩ := cells10 (hz1'.trans hy1)
  have hs1 : W1.heap.size = w.heap.size + 1 + 1 := by rw [hW1]; simp
  rw [hs1] at K
  clear h1 h2 hE hb1 hz1 hy1 hb2 hz2 hy2 hz1'
  go_enter Try.func14, Try.ntmps14
  go_wp2_with fail
  simp only [← hW1, ← hW2]
  clear hW1 hW2 x0 x1 x2 x3 x4 x5 x6 x7 x8 x9 y0 y1 y2 y3 y4 y5 y6 y7 y8 y9 hs1
  refine K.out.mono ?_
  rintro e w3 ⟨r, rfl, hr, hb3⟩
  have HR := Lib.hid hr
  have HB3 := Lib.hid (HB.out.trans (hb3.mono HB.out.size))
  clear hr hb3 K
  go_wp2_with fail
  go_ret
  exact ⟨r, rfl, HR.out.trans ⟨fun e => by injection e, fun e => by rw [e]⟩, HB3.out⟩
def SmallP (m : Mg) : Prop := m.ents.length ≤ 12 ∧ m.state.size ≤ 100 ∧ ∀ e ∈ m.ents, e.2.size ≤ 100
def SmRes (m : Mg) (w : World) (e : Ending) (w' : World) : Prop := ∃ r : Bool, e = .returned (.bool r) ∧ (r = true ↔ SmallP m) ∧ Below w.heap.size w w'
theorem SmRes.no {m : Mg} {w w' : World} (h : ¬ SmallP m) (hb : Below w.heap.size w w') : SmRes m w (.returned (.bool false)) w' := ⟨false, rfl, ⟨fun e => (by cases e), fun e => absurd e h⟩, hb⟩
theorem SmRes.yes {m : Mg} {w w' : World} (h : SmallP m) (hb : Below w.heap.size w w') : SmRes m w (.returned (.bool true)) w' := ⟨true, rfl, ⟨fun _ => h, fun _ => rfl⟩, hb⟩
set_option maxHeartbeats 4000000 in
set_option maxRecDepth 100000 in
theorem small_prog (m : Mg) (ev : Value) (w : World) (h : ESl w ev m.ents) :
    Calls Try.prog 9 #[.agg (mgL m ev).toArray] w (SmRes m w) := by
  obtain ⟨ea, ec, rfl, _, hcells⟩ := id h
  unfold mgL
  by_cases h1 : 12 < m.ents.length
  · have hI : (12 : Int) < (m.ents.length : Int) := by omega
    have HNO : Hid (¬ SmallP m) := Lib.hid (fun e => by have := e.1; omega)
    clear h hcells h1
    go_enter Try.func9, Try.ntmps9
    go_wp2_with fail
    go_ret
    exact .no HNO.out ((Below.refl _ _).alloc (Nat.le_refl _) _)
  · have hI : (m.ents.length : Int) ≤ 12 := by omega
    by_cases h2 : 100 < m.state.size
    · have hJ : (100 : Int) < (m.state.size : Int) := by omega
      have HNO : Hid (¬ SmallP m) := Lib.hid (fun e => by have := e.2.1; omega)
      clear h hcells h1 h2
      go_enter Try.func9, Try.ntmps9
      go_wp2_with fail
      go_ret
      exact .no HNO.out ((Below.refl _ _).alloc (Nat.le_refl _) _)
    · have hJ : ¬ (100 : Int) < (m.state.size : Int) := by omega
      have hI2 : ¬ (12 : Int) < (m.ents.length : Int) := by omega
      have HES := Lib.hid h
      have HLS := Lib.hid (And.intro (show m.ents.length ≤ 12 by omega) (show m.state.size ≤ 100 by omega))
      clear h hcells h1 h2
      go_enter Try.func9, Try.ntmps9
      go_wp2_with fail
      go_loopw [18] (fun i wr => ∃ k : Nat, k ≤ m.ents.length ∧ i = .int .i64 (k : Int) ∧ Hid (∀ j e, j < k → m.ents[j]? = some e → e.2.size ≤ 100) ∧ Hid (Below w.heap.size w wr)) (fun i _ => m.ents.length - (intOf i).toNat)
      case atStart => exact ⟨0, by omega, rfl, Lib.hid (fun j e h => by omega), Lib.hid ((Below.refl _ _).alloc (Nat.le_refl _) _)⟩
      case round =>
        obtain ⟨k, hk, rfl, HP, HB⟩ := hrel
        by_cases hlt : k < m.ents.length
        · have hkI : (k : Int) < (m.ents.length : Int) := by omega
          have hk0 : (0 : Int) ≤ (k : Int) := by omega
          obtain ⟨⟨t, s⟩, hx⟩ : ∃ x, m.ents[k]? = some x := ⟨_, List.getElem?_eq_getElem hlt⟩
          obtain ⟨ax, cx, e1, _, f1⟩ := HES.out
          injection e1 with e1 e1q e1'
          clear e1q
          obtain ⟨gx, ox, rfl, hgx, fx⟩ := f1 (fun e => by rw [e] at hx; cases hx)
          obtain ⟨u1w, u2w⟩ := fx k _ hx
          have u1 := cellB HB.out u1w
          have u2 := cellB HB.out u2w
          subst e1
          have HX := Lib.hid hx
          have HB1 := Lib.hid (HB.out.alloc HB.out.size (.cells #[.int .u64 (t : Int), .string s] 60))
          clear f1 fx e1' u1w u2w hx
          by_cases hs : 100 < s.size
          · have hsI : (100 : Int) < (s.size : Int) := by omega
            have HNO : Hid (¬ SmallP m) := Lib.hid (fun e => by have : s.size ≤ 100 := e.2.2 _ (List.mem_of_getElem? HX.out); omega)
            clear hs
            go_wp2_with fail
            go_ret
            exact .no HNO.out HB1.out
          · have hsI : ¬ (100 : Int) < (s.size : Int) := by omega
            have HP2 : Hid (∀ j e, j < k + 1 → m.ents[j]? = some e → e.2.size ≤ 100) := Lib.hid (fun j e hj he => by
              rcases (by omega : j < k ∨ j = k) with h | h
              · exact HP.out j e h he
              · subst h
                rw [HX.out] at he
                obtain rfl := Option.some.inj he
                show s.size ≤ 100
                omega)
            clear hs
            go_wp2_with fail
            go_roundw
            case rel => exact ⟨k + 1, by omega, by go_num, HP2, HB1⟩
            case measure => simp [intOf]; omega
        · have hke : k = m.ents.length := by omega
          have hkI : ¬ (k : Int) < (m.ents.length : Int) := by omega
          have HYES : Hid (SmallP m) := Lib.hid ⟨HLS.out.1, HLS.out.2, fun e he => by
            obtain ⟨j, hj⟩ := List.mem_iff_getElem?.1 he
            exact HP.out j e (by have := (List.getElem?_eq_some_iff.1 hj).1; omega) hj⟩
          go_wp2_with fail
          go_ret
          exact .yes HYES.out HB.out
end Go.Proofs.Ytgdlnjhbencjkaa
