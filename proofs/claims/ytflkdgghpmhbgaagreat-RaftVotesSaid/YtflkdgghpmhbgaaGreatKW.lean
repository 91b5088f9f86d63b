/- raft: the law's Small. -/
import Derived.Test.YtflkdgghpmhbgaaGreatKV
namespace Go.Proofs.YtflkdgghpmhbgaaGreat
open Go.RowKit

/-- An act within the law's bounds. -/
structure SmA (x : Ac) : Prop where
  ticks : x.1 = 0 → 0 ≤ x.2.1 ∧ x.2.1 ≤ 50
  text : x.2.2.2.2.2.2.size ≤ 100
  state : x.2.2.1.state.size ≤ 100
  few : x.2.2.1.ents.length ≤ 12
  term : x.2.2.1.term ≤ 4294967296
  index : x.2.2.1.index ≤ 4294967296
  lterm : x.2.2.1.lterm ≤ 4294967296
  commit : x.2.2.1.commit ≤ 4294967296
  ix : x.2.2.2.2.2.1 ≤ 4294967296
  ents : ∀ y ∈ x.2.2.1.ents, y.2.size ≤ 100 ∧ y.1 ≤ 4294967296
def SmRes (A : List Ac) (n : Nat) (w : World) (e : Ending) (w' : World) : Prop := ∃ r : Bool, e = .returned (.bool r) ∧ (r = true → A.length ≤ n ∧ ∀ x ∈ A, SmA x) ∧ Below w.heap.size w w'
theorem SmRes.no {A : List Ac} {n : Nat} {w w' : World} (hb : Below w.heap.size w w') : SmRes A n w (.returned (.bool false)) w' := ⟨false, rfl, (fun e => by cases e), hb⟩
theorem SmRes.yes {A : List Ac} {n : Nat} {w w' : World} (h1 : A.length ≤ n) (h2 : ∀ x ∈ A, SmA x) (hb : Below w.heap.size w w') : SmRes A n w (.returned (.bool true)) w' := ⟨true, rfl, fun _ => ⟨h1, h2⟩, hb⟩
set_option maxHeartbeats 16000000 in
set_option maxRecDepth 100000 in
theorem small_prog (A : List Ac) (v : Value) (w : World) (h : ASl w v A) (n : Nat) (hn : n ≤ 1000) : Calls Tryz.prog 16 #[v, .int .i64 (n : Int)] w (SmRes A n w) := by
  obtain ⟨la, lc, rfl, hml, hwf, hcells⟩ := h
  have HWF := Lib.hid hwf
  have HC := Lib.hid hcells
  clear hwf hcells
  by_cases hbig : n < A.length
  · have hb : (n : Int) < (A.length : Int) := by omega
    go_enter Tryz.func16, Tryz.ntmps16
    go_wp2_with fail
    go_ret
    exact .no (Below.refl _ _)
  · have hb : ¬ (n : Int) < (A.length : Int) := by omega
    have hA1000 : A.length ≤ 1000 := by omega
    go_enter Tryz.func16, Tryz.ntmps16
    go_wp2_with fail
    go_loopw [16] (fun i wr => ∃ k : Nat, k ≤ A.length ∧ i = .int .i64 (k : Int) ∧ Hid (∀ j x, j < k → A[j]? = some x → SmA x) ∧ Hid (Below w.heap.size w wr)) (fun i _ => A.length - (intOf i).toNat)
    case atStart => exact ⟨0, by omega, rfl, Lib.hid (fun j x h => by omega), Lib.hid (Below.refl _ _)⟩
    case round =>
      obtain ⟨k, hk, rfl, HP, HB⟩ := hrel
      by_cases hlt : k < A.length
      · have hkI : (k : Int) < (A.length : Int) := by omega
        have hk0 : (0 : Int) ≤ (k : Int) := by omega
        obtain ⟨⟨what, N, m, ev, nr, ix, tx⟩, hx⟩ : ∃ x, A[k]? = some x := ⟨_, List.getElem?_eq_getElem hlt⟩
        obtain ⟨g, o, rfl, hg, hcs⟩ := HC.out (fun e => by rw [e] at hlt; simp at hlt)
        obtain ⟨hES, hWM⟩ := HWF.out _ (List.mem_of_getElem? hx)
        have hES : ESl w ev m.ents := hES
        obtain ⟨ea, ec, rfl, _, _⟩ := id hES
        have d : ∀ j u, (acC (what, N, m, .slice ea m.ents.length ec, nr, ix, tx))[j]? = some u → wr.cell? ⟨g, o + k * 15 + j, none⟩ = some u := fun j u hu => cellB HB.out (hcs k _ hx j u hu)
        have d0 := d 0 _ rfl
        have d1 := d 1 _ rfl
        have d2 := d 2 _ rfl
        have d3 := d 3 _ rfl
        have d4 := d 4 _ rfl
        have d5 := d 5 _ rfl
        have d6 := d 6 _ rfl
        have d7 := d 7 _ rfl
        have d8 := d 8 _ rfl
        have d9 := d 9 _ rfl
        have d10 := d 10 _ rfl
        have d11 := d 11 _ rfl
        have d12 := d 12 _ rfl
        have d13 := d 13 _ rfl
        have d14 := d 14 _ rfl
        rw [Nat.add_zero] at d0
        have HES := Lib.hid hES
        have HX := Lib.hid hx
        have HB2 : Hid (Below w.heap.size w ((wr.alloc (.cells #[.int .i64 what, .int .i64 N, .int .i64 m.kind, .int .i64 m.src, .int .i64 m.dst, .int .u64 (m.term : Int), .int .u64 (m.index : Int), .int .u64 (m.lterm : Int), .int .u64 (m.commit : Int), .bool m.ok, .slice ea m.ents.length ec, .string m.state, .bool nr, .int .u64 (ix : Int), .string tx] 42)).alloc (.cells #[.int .i64 m.kind, .int .i64 m.src, .int .i64 m.dst, .int .u64 (m.term : Int), .int .u64 (m.index : Int), .int .u64 (m.lterm : Int), .int .u64 (m.commit : Int), .bool m.ok, .slice ea m.ents.length ec, .string m.state] 40))) := Lib.hid ((HB.out.alloc HB.out.size _).alloc (by have := HB.out.size; simp; omega) _)
        clear d hcs hES hWM hx
        by_cases hw : what = 0
        · subst hw
          by_cases hn0 : N < 0
          · skip
            go_wp2_with fail
            go_ret
            exact .no HB2.out
          · by_cases hn50 : 50 < N
            · skip
              go_wp2_with fail
              go_ret
              exact .no HB2.out
            · skip
              by_cases h0 : 100 < tx.size
              · have hI0 : (100 : Int) < (tx.size : Int) := by omega
                go_wp2_with fail
                go_ret
                exact .no HB2.out
              · have hI0 : ¬ (100 : Int) < (tx.size : Int) := by omega
                by_cases h1 : 100 < m.state.size
                · have hI1 : (100 : Int) < (m.state.size : Int) := by omega
                  go_wp2_with fail
                  go_ret
                  exact .no HB2.out
                · have hI1 : ¬ (100 : Int) < (m.state.size : Int) := by omega
                  by_cases h2 : 12 < m.ents.length
                  · have hI2 : (12 : Int) < (m.ents.length : Int) := by omega
                    go_wp2_with fail
                    go_ret
                    exact .no HB2.out
                  · have hI2 : ¬ (12 : Int) < (m.ents.length : Int) := by omega
                    by_cases h3 : 4294967296 < m.term
                    · have hI3 : (4294967296 : Int) < (m.term : Int) := by omega
                      go_wp2_with fail
                      go_ret
                      exact .no HB2.out
                    · have hI3 : ¬ (4294967296 : Int) < (m.term : Int) := by omega
                      by_cases h4 : 4294967296 < m.index
                      · have hI4 : (4294967296 : Int) < (m.index : Int) := by omega
                        go_wp2_with fail
                        go_ret
                        exact .no HB2.out
                      · have hI4 : ¬ (4294967296 : Int) < (m.index : Int) := by omega
                        by_cases h5 : 4294967296 < m.lterm
                        · have hI5 : (4294967296 : Int) < (m.lterm : Int) := by omega
                          go_wp2_with fail
                          go_ret
                          exact .no HB2.out
                        · have hI5 : ¬ (4294967296 : Int) < (m.lterm : Int) := by omega
                          by_cases h6 : 4294967296 < m.commit
                          · have hI6 : (4294967296 : Int) < (m.commit : Int) := by omega
                            go_wp2_with fail
                            go_ret
                            exact .no HB2.out
                          · have hI6 : ¬ (4294967296 : Int) < (m.commit : Int) := by omega
                            by_cases h7 : 4294967296 < ix
                            · have hI7 : (4294967296 : Int) < (ix : Int) := by omega
                              go_wp2_with fail
                              go_ret
                              exact .no HB2.out
                            · have hI7 : ¬ (4294967296 : Int) < (ix : Int) := by omega
                              have HS : Hid ((∀ y ∈ m.ents, y.2.size ≤ 100 ∧ y.1 ≤ 4294967296) → SmA (0, N, m, .slice ea m.ents.length ec, nr, ix, tx)) := Lib.hid (fun hy => ⟨(fun _ => ⟨by show 0 ≤ N; omega, by show N ≤ 50; omega⟩), by show tx.size ≤ 100; omega, by show m.state.size ≤ 100; omega, by show m.ents.length ≤ 12; omega, by show m.term ≤ 4294967296; omega, by show m.index ≤ 4294967296; omega, by show m.lterm ≤ 4294967296; omega, by show m.commit ≤ 4294967296; omega, by show ix ≤ 4294967296; omega, hy⟩)
                              have hL12 : m.ents.length ≤ 12 := by omega
                              clear h0 h1 h2 h3 h4 h5 h6 h7
                              go_wp2_with fail
                              obtain ⟨W6, hW6⟩ : ∃ W6, W6 = (wr.alloc (.cells #[.int .i64 0, .int .i64 N, .int .i64 m.kind, .int .i64 m.src, .int .i64 m.dst, .int .u64 (m.term : Int), .int .u64 (m.index : Int), .int .u64 (m.lterm : Int), .int .u64 (m.commit : Int), .bool m.ok, .slice ea m.ents.length ec, .string m.state, .bool nr, .int .u64 (ix : Int), .string tx] 42)).alloc (.cells #[.int .i64 m.kind, .int .i64 m.src, .int .i64 m.dst, .int .u64 (m.term : Int), .int .u64 (m.index : Int), .int .u64 (m.lterm : Int), .int .u64 (m.commit : Int), .bool m.ok, .slice ea m.ents.length ec, .string m.state] 40) := ⟨_, rfl⟩
                              rw [← hW6] at HB2
                              try simp only [← hW6]
                              clear hW6 d0 d1 d2 d3 d4 d5 d6 d7 d8 d9 d10 d11 d12 d13 d14 hI0 hI1 hI2 hI3 hI4 hI5 hI6 hI7
                              go_loopw [81] (fun i w7 => ∃ q : Nat, q ≤ m.ents.length ∧ i = .int .i64 (q : Int) ∧ Hid (∀ j y, j < q → m.ents[j]? = some y → y.2.size ≤ 100 ∧ y.1 ≤ 4294967296) ∧ Hid (Below w.heap.size w w7)) (fun i _ => m.ents.length - (intOf i).toNat)
                              case atStart => exact ⟨0, by omega, rfl, Lib.hid (fun j y h => by omega), HB2⟩
                              case round =>
                                obtain ⟨q, hq, rfl, HQ, HB7⟩ := hrel
                                by_cases hql : q < m.ents.length
                                · have hqI : (q : Int) < (m.ents.length : Int) := by omega
                                  have hq0 : (0 : Int) ≤ (q : Int) := by omega
                                  obtain ⟨⟨t, s⟩, hy⟩ : ∃ y, m.ents[q]? = some y := ⟨_, List.getElem?_eq_getElem hql⟩
                                  obtain ⟨ax, cx, e1, _, f1⟩ := HES.out
                                  injection e1 with e1 e1q e1'
                                  clear e1q
                                  obtain ⟨gx, ox, rfl, hgx, fx⟩ := f1 (fun e => by rw [e] at hy; cases hy)
                                  obtain ⟨u1w, u2w⟩ := fx q _ hy
                                  have u1 := cellB HB7.out u1w
                                  have u2 := cellB HB7.out u2w
                                  subst e1
                                  have HY := Lib.hid hy
                                  have HB8 := Lib.hid (HB7.out.alloc HB7.out.size (.cells #[.int .u64 (t : Int), .string s] 70))
                                  clear f1 fx e1' u1w u2w hy
                                  by_cases s1 : 100 < s.size
                                  · have sI : (100 : Int) < (s.size : Int) := by omega
                                    clear s1
                                    go_wp2_with fail
                                    go_ret
                                    exact .no HB8.out
                                  · have sI : ¬ (100 : Int) < (s.size : Int) := by omega
                                    by_cases s2 : 4294967296 < t
                                    · have tI : (4294967296 : Int) < (t : Int) := by omega
                                      clear s1 s2
                                      go_wp2_with fail
                                      go_ret
                                      exact .no HB8.out
                                    · have tI : ¬ (4294967296 : Int) < (t : Int) := by omega
                                      have HQ2 : Hid (∀ j y, j < q + 1 → m.ents[j]? = some y → y.2.size ≤ 100 ∧ y.1 ≤ 4294967296) := Lib.hid (fun j y hj he => by
                                        rcases (by omega : j < q ∨ j = q) with h | h
                                        · exact HQ.out j y h he
                                        · subst h
                                          rw [HY.out] at he
                                          obtain rfl := Option.some.inj he
                                          exact ⟨by show s.size ≤ 100; omega, by show t ≤ 4294967296; omega⟩)
                                      clear s1 s2
                                      go_wp2_with fail
                                      go_roundw
                                      case rel => exact ⟨q + 1, by omega, by go_num, HQ2, HB8⟩
                                      case measure => simp [intOf]; omega
                                · have hqI : ¬ (q : Int) < (m.ents.length : Int) := by omega
                                  have HP2 : Hid (∀ j x, j < k + 1 → A[j]? = some x → SmA x) := Lib.hid (fun j x hj he => by
                                    rcases (by omega : j < k ∨ j = k) with h | h
                                    · exact HP.out j x h he
                                    · subst h
                                      rw [HX.out] at he
                                      obtain rfl := Option.some.inj he
                                      exact HS.out fun y hy => by
                                        obtain ⟨j, hj⟩ := List.mem_iff_getElem?.1 hy
                                        exact HQ.out j y (by have := (List.getElem?_eq_some_iff.1 hj).1; omega) hj)
                                  go_wp2_with fail
                                  go_roundw
                                  case rel => exact ⟨k + 1, by omega, by go_num, HP2, HB7⟩
                                  case measure => simp [intOf]; omega
        · skip
          by_cases h0 : 100 < tx.size
          · have hI0 : (100 : Int) < (tx.size : Int) := by omega
            go_wp2_with fail
            go_ret
            exact .no HB2.out
          · have hI0 : ¬ (100 : Int) < (tx.size : Int) := by omega
            by_cases h1 : 100 < m.state.size
            · have hI1 : (100 : Int) < (m.state.size : Int) := by omega
              go_wp2_with fail
              go_ret
              exact .no HB2.out
            · have hI1 : ¬ (100 : Int) < (m.state.size : Int) := by omega
              by_cases h2 : 12 < m.ents.length
              · have hI2 : (12 : Int) < (m.ents.length : Int) := by omega
                go_wp2_with fail
                go_ret
                exact .no HB2.out
              · have hI2 : ¬ (12 : Int) < (m.ents.length : Int) := by omega
                by_cases h3 : 4294967296 < m.term
                · have hI3 : (4294967296 : Int) < (m.term : Int) := by omega
                  go_wp2_with fail
                  go_ret
                  exact .no HB2.out
                · have hI3 : ¬ (4294967296 : Int) < (m.term : Int) := by omega
                  by_cases h4 : 4294967296 < m.index
                  · have hI4 : (4294967296 : Int) < (m.index : Int) := by omega
                    go_wp2_with fail
                    go_ret
                    exact .no HB2.out
                  · have hI4 : ¬ (4294967296 : Int) < (m.index : Int) := by omega
                    by_cases h5 : 4294967296 < m.lterm
                    · have hI5 : (4294967296 : Int) < (m.lterm : Int) := by omega
                      go_wp2_with fail
                      go_ret
                      exact .no HB2.out
                    · have hI5 : ¬ (4294967296 : Int) < (m.lterm : Int) := by omega
                      by_cases h6 : 4294967296 < m.commit
                      · have hI6 : (4294967296 : Int) < (m.commit : Int) := by omega
                        go_wp2_with fail
                        go_ret
                        exact .no HB2.out
                      · have hI6 : ¬ (4294967296 : Int) < (m.commit : Int) := by omega
                        by_cases h7 : 4294967296 < ix
                        · have hI7 : (4294967296 : Int) < (ix : Int) := by omega
                          go_wp2_with fail
                          go_ret
                          exact .no HB2.out
                        · have hI7 : ¬ (4294967296 : Int) < (ix : Int) := by omega
                          have HS : Hid ((∀ y ∈ m.ents, y.2.size ≤ 100 ∧ y.1 ≤ 4294967296) → SmA (what, N, m, .slice ea m.ents.length ec, nr, ix, tx)) := Lib.hid (fun hy => ⟨(fun e => absurd (show what = 0 from e) hw), by show tx.size ≤ 100; omega, by show m.state.size ≤ 100; omega, by show m.ents.length ≤ 12; omega, by show m.term ≤ 4294967296; omega, by show m.index ≤ 4294967296; omega, by show m.lterm ≤ 4294967296; omega, by show m.commit ≤ 4294967296; omega, by show ix ≤ 4294967296; omega, hy⟩)
                          have hL12 : m.ents.length ≤ 12 := by omega
                          clear h0 h1 h2 h3 h4 h5 h6 h7
                          go_wp2_with fail
                          obtain ⟨W6, hW6⟩ : ∃ W6, W6 = (wr.alloc (.cells #[.int .i64 what, .int .i64 N, .int .i64 m.kind, .int .i64 m.src, .int .i64 m.dst, .int .u64 (m.term : Int), .int .u64 (m.index : Int), .int .u64 (m.lterm : Int), .int .u64 (m.commit : Int), .bool m.ok, .slice ea m.ents.length ec, .string m.state, .bool nr, .int .u64 (ix : Int), .string tx] 42)).alloc (.cells #[.int .i64 m.kind, .int .i64 m.src, .int .i64 m.dst, .int .u64 (m.term : Int), .int .u64 (m.index : Int), .int .u64 (m.lterm : Int), .int .u64 (m.commit : Int), .bool m.ok, .slice ea m.ents.length ec, .string m.state] 40) := ⟨_, rfl⟩
                          rw [← hW6] at HB2
                          try simp only [← hW6]
                          clear hW6 d0 d1 d2 d3 d4 d5 d6 d7 d8 d9 d10 d11 d12 d13 d14 hI0 hI1 hI2 hI3 hI4 hI5 hI6 hI7
                          go_loopw [81] (fun i w7 => ∃ q : Nat, q ≤ m.ents.length ∧ i = .int .i64 (q : Int) ∧ Hid (∀ j y, j < q → m.ents[j]? = some y → y.2.size ≤ 100 ∧ y.1 ≤ 4294967296) ∧ Hid (Below w.heap.size w w7)) (fun i _ => m.ents.length - (intOf i).toNat)
                          case atStart => exact ⟨0, by omega, rfl, Lib.hid (fun j y h => by omega), HB2⟩
                          case round =>
                            obtain ⟨q, hq, rfl, HQ, HB7⟩ := hrel
                            by_cases hql : q < m.ents.length
                            · have hqI : (q : Int) < (m.ents.length : Int) := by omega
                              have hq0 : (0 : Int) ≤ (q : Int) := by omega
                              obtain ⟨⟨t, s⟩, hy⟩ : ∃ y, m.ents[q]? = some y := ⟨_, List.getElem?_eq_getElem hql⟩
                              obtain ⟨ax, cx, e1, _, f1⟩ := HES.out
                              injection e1 with e1 e1q e1'
                              clear e1q
                              obtain ⟨gx, ox, rfl, hgx, fx⟩ := f1 (fun e => by rw [e] at hy; cases hy)
                              obtain ⟨u1w, u2w⟩ := fx q _ hy
                              have u1 := cellB HB7.out u1w
                              have u2 := cellB HB7.out u2w
                              subst e1
                              have HY := Lib.hid hy
                              have HB8 := Lib.hid (HB7.out.alloc HB7.out.size (.cells #[.int .u64 (t : Int), .string s] 70))
                              clear f1 fx e1' u1w u2w hy
                              by_cases s1 : 100 < s.size
                              · have sI : (100 : Int) < (s.size : Int) := by omega
                                clear s1
                                go_wp2_with fail
                                go_ret
                                exact .no HB8.out
                              · have sI : ¬ (100 : Int) < (s.size : Int) := by omega
                                by_cases s2 : 4294967296 < t
                                · have tI : (4294967296 : Int) < (t : Int) := by omega
                                  clear s1 s2
                                  go_wp2_with fail
                                  go_ret
                                  exact .no HB8.out
                                · have tI : ¬ (4294967296 : Int) < (t : Int) := by omega
                                  have HQ2 : Hid (∀ j y, j < q + 1 → m.ents[j]? = some y → y.2.size ≤ 100 ∧ y.1 ≤ 4294967296) := Lib.hid (fun j y hj he => by
                                    rcases (by omega : j < q ∨ j = q) with h | h
                                    · exact HQ.out j y h he
                                    · subst h
                                      rw [HY.out] at he
                                      obtain rfl := Option.some.inj he
                                      exact ⟨by show s.size ≤ 100; omega, by show t ≤ 4294967296; omega⟩)
                                  clear s1 s2
                                  go_wp2_with fail
                                  go_roundw
                                  case rel => exact ⟨q + 1, by omega, by go_num, HQ2, HB8⟩
                                  case measure => simp [intOf]; omega
                            · have hqI : ¬ (q : Int) < (m.ents.length : Int) := by omega
                              have HP2 : Hid (∀ j x, j < k + 1 → A[j]? = some x → SmA x) := Lib.hid (fun j x hj he => by
                                rcases (by omega : j < k ∨ j = k) with h | h
                                · exact HP.out j x h he
                                · subst h
                                  rw [HX.out] at he
                                  obtain rfl := Option.some.inj he
                                  exact HS.out fun y hy => by
                                    obtain ⟨j, hj⟩ := List.mem_iff_getElem?.1 hy
                                    exact HQ.out j y (by have := (List.getElem?_eq_some_iff.1 hj).1; omega) hj)
                              go_wp2_with fail
                              go_roundw
                              case rel => exact ⟨k + 1, by omega, by go_num, HP2, HB7⟩
                              case measure => simp [intOf]; omega
      · have hkI : ¬ (k : Int) < (A.length : Int) := by omega
        have HYES : Hid (∀ x ∈ A, SmA x) := Lib.hid (fun x hx => by
          obtain ⟨j, hj⟩ := List.mem_iff_getElem?.1 hx
          exact HP.out j x (by have := (List.getElem?_eq_some_iff.1 hj).1; omega) hj)
        go_wp2_with fail
        go_ret
        exact .yes (by omega) HYES.out HB.out
end Go.Proofs.YtflkdgghpmhbgaaGreat
