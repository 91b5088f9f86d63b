/- log: read: what a log on these bytes tells. -/
import Derived.Test.YtfocljmjejniiaaGAll
import Derived.Laws.ResultCell
namespace Go.Proofs.Ytfocljmjejniiaa
open Go.RowKit

theorem rRecord_lt (r : RS) (h : (rRecord r).2.short = false) : (rRecord r).1.2.size + (rRecord r).2.rest.size + 17 ≤ r.rest.size := by
  unfold rRecord at h ⊢
  split at h
  · rename_i h1
    rw [if_pos h1]
    have := (rSealed_full r 9 h).2
    have h0 : (⟨#[]⟩ : ByteArray).size = 0 := rfl
    simp only [h0]; omega
  · rename_i h1
    rw [if_neg h1]
    simp only [Bool.or_eq_true, not_or, Bool.not_eq_true] at h1
    have h2 := (rSealed_full r 9 h1.1).2
    have h3 := rSealed_full _ _ h
    simp only at h3 ⊢
    omega
theorem readAllC_bd {c : CT} {body : ByteArray} (h : readAllC body = some c) : c.base + c.ents.length < m64 ∧ c.ents.length ≤ body.size + 1 := by
  unfold readAllC at h
  split at h
  · cases h
  · rename_i h1
    injection h with h; subst h
    simp only [Bool.or_eq_true, Bool.not_eq_true', not_or, Bool.not_eq_false] at h1
    have h2 := h1.2.2
    have h3 : (rAll body).1.base < m64 := rNumber_lt _
    simp only [CT.takes, CT.lastN, List.length_nil, Nat.add_zero, Nat.mod_eq_of_lt h3, Bool.and_eq_true, decide_eq_true_eq] at h2
    unfold m64 at h3
    refine ⟨by unfold m64; omega, ?_⟩
    have key : (rAll body).1.ents = (rEntries (rText (rNumber (rNumber (rNumber (rNumber ⟨body, false, false⟩).2).2).2).2).2).1 := rfl
    rw [key]
    have h4 := rEnts_len ((rText (rNumber (rNumber (rNumber (rNumber ⟨body, false, false⟩).2).2).2).2).2.rest.size + 1) (rText (rNumber (rNumber (rNumber (rNumber ⟨body, false, false⟩).2).2).2).2).2 []
    have h5 := (rText_le (rNumber (rNumber (rNumber (rNumber ⟨body, false, false⟩).2).2).2).2).1
    have h6 := rNumber_le (rNumber (rNumber (rNumber ⟨body, false, false⟩).2).2).2
    have h7 := rNumber_le (rNumber (rNumber ⟨body, false, false⟩).2).2
    have h8 := rNumber_le (rNumber ⟨body, false, false⟩).2
    have h9 := rNumber_le ⟨body, false, false⟩
    simp only at h9
    unfold rEntries
    simp only [List.length_nil] at h4
    omega
/-- What the loop comes to. -/
theorem readLoop_end (f : Nat) (c : CT) (r : RS) (h : r.rest.size = 0) : readLoop f c r = some c := by
  cases f with
  | zero => rfl
  | succ f => simp only [readLoop, h, if_true]
theorem readLoop_short (f : Nat) (c : CT) (r : RS) (h : r.rest.size ≠ 0) (hs : (rRecord r).2.short = true) : readLoop (f + 1) c r = if r.rest.data.getD 0 0 = 249 ∨ r.rest.data.getD 0 0 = 250 then some c else none := by
  simp only [readLoop, h, hs, if_true, if_false]
theorem readLoop_wrong (f : Nat) (c : CT) (r : RS) (h : r.rest.size ≠ 0) (hs : (rRecord r).2.short = false) (hw : (rRecord r).2.wrong = true) : readLoop (f + 1) c r = none := by
  simp only [readLoop, h, hs, hw, if_true, if_false, Bool.false_eq_true]
theorem readLoop_none (f : Nat) (c : CT) (r : RS) (h : r.rest.size ≠ 0) (hs : (rRecord r).2.short = false) (hw : (rRecord r).2.wrong = false) (hr : redoC c (rRecord r).1.1 (rRecord r).1.2 = none) : readLoop (f + 1) c r = none := by
  simp only [readLoop, h, hs, hw, if_false, Bool.false_eq_true, hr]
theorem readLoop_some (f : Nat) (c c' : CT) (r : RS) (h : r.rest.size ≠ 0) (hs : (rRecord r).2.short = false) (hw : (rRecord r).2.wrong = false) (hr : redoC c (rRecord r).1.1 (rRecord r).1.2 = some c') : readLoop (f + 1) c r = readLoop f c' (rRecord r).2 := by
  simp only [readLoop, h, hs, hw, if_false, Bool.false_eq_true, hr]

/-- A content that was read, or one that is none. -/
def Got2 (B : Nat) (o : Option CT) (e : Ending) (w' : World) : Prop :=
  ∃ c v, e = .returned (.tuple #[.agg (ctC c v), .bool o.isSome]) ∧ (∃ a n cp, v = .slice a n cp) ∧ ∀ c', o = some c' → c' = c ∧ EOwn w' B v c.ents

def rdN (b : Nat) (o : Value) (w : World) : Nat := match o, w.cell? ⟨b, 0, none⟩ with
  | .bool true, some (.string s) => s.size + 1
  | _, _ => 0
theorem rdN_true {b : Nat} {w : World} {r : RS} (h : Rd w b r) : rdN b (.bool true) w = r.rest.size + 1 := by
  obtain ⟨c0, _⟩ := h.cells
  simp [rdN, c0]
theorem rdN_false (b : Nat) (w : World) : rdN b (.bool false) w = 0 := rfl

theorem results_ct {tmps : Array Value} {w : World} {H : Nat} {cs : Array Value} {x : Value} (h2 : tmps.getD 2 undef = .pointer (some ⟨H, 0, none⟩)) (h3 : tmps.getD 3 undef = x)
    (hg : w.heap[H]? = some (.cells cs 58 (0, 0))) (hs : cs.size = 6) : (results Try.f19 tmps).run Try.prog w = .ok (.tuple #[.agg cs, x]) w := by
  have hi : (Try.prog.info? 58).map (·.size) = some cs.size := by rw [hs]; kernel_rfl
  rw [results_cell_tmp rfl, h2, h3]
  simp [asAddr, Result.andThen, run_loadVar_row w H 58 58 cs (0, 0) _ hg Try.underlying58 rfl hi]

def RdRel (w : World) (H G : Nat) (R : Option CT) (okv : Value) (wr : World) : Prop := ∃ (ok : Bool) (f : Nat) (c : CT) (r : RS) (v : Value), okv = .bool ok ∧ Hid (ok = true → readLoop f c r = R) ∧ Hid (ok = false → R = none) ∧
  Hid (CtAt wr G 58 [] v c) ∧ Hid (Rd wr (H + 1) r) ∧ Hid (wr.heap[H]? = some (.cells #[.int .u64 0, .int .i64 0, .int .u64 0, .int .u64 0, .string ⟨#[]⟩, .slice none 0 0] 58 (0, 0))) ∧
  Hid (Below H w wr) ∧ Hid (c.ents.length + r.rest.size ≤ 40001) ∧ Hid (c.base + c.ents.length < m64) ∧ Hid (r.rest.size < f) ∧ Hid (∀ k, v.ownBlock = some k → H + 2 ≤ k)

/-- The end, with the content that lies at G. -/
theorem read_leaf {w wr : World} {H G : Nat} {R : Option CT} {c : CT} {v : Value} {a : Act} (hH : w.heap.size = H) (h2 : a.tmps.getD 2 undef = .pointer (some ⟨H, 0, none⟩)) (h3 : a.tmps.getD 3 undef = .bool R.isSome) (hd : a.defers = [])
    (hc : CtAt wr G 58 [] v c) (hz : wr.heap[H]? = some (.cells #[.int .u64 0, .int .i64 0, .int .u64 0, .int .u64 0, .string ⟨#[]⟩, .slice none 0 0] 58 (0, 0)))
    (hb : Below H w wr) (hR : ∀ c', R = some c' → c' = c) (hv : ∀ k, v.ownBlock = some k → H + 2 ≤ k) :
    bodyPost Try.prog Try.f19 (fun e w' => Got2 w.heap.size R e w' ∧ Below w.heap.size w w') .ret a (set6 wr H (.int .u64 (c.term : Int)) (.int .i64 c.vote) (.int .u64 (c.base : Int)) (.int .u64 (c.bterm : Int)) (.string c.state) v) := by
  rw [hH]
  refine bodyPost_ret (results_ct h2 h3 (set6_heap hz _ _ _ _ _ _) rfl) hd ⟨⟨c, v, rfl, ?_, fun c' h => ⟨hR c' h, ?_⟩⟩, hb.trans (set6_below (Nat.le_refl H) _ _ _ _ _ _)⟩
  · obtain ⟨a, cp, h, _⟩ := hc.2.1.shape
    exact ⟨a, _, cp, h⟩
  · refine (hc.2.1.base (B' := H) (fun k hk => by have := hv k hk; omega)).mv fun k hk => ?_
    have hk2 : k ≠ H := by have := hv k hk; omega
    unfold set6
    rw [heap_setCell_other _ ⟨H, 5, none⟩ k _ hk2, heap_setCell_other _ ⟨H, 4, none⟩ k _ hk2, heap_setCell_other _ ⟨H, 3, none⟩ k _ hk2, heap_setCell_other _ ⟨H, 2, none⟩ k _ hk2, heap_setCell_other _ ⟨H, 1, none⟩ k _ hk2, heap_setCell_other _ ⟨H, 0, none⟩ k _ hk2]

set_option maxHeartbeats 8000000 in
set_option maxRecDepth 100000 in
theorem read_prog' (s : ByteArray) (w : World) (hs : s.size ≤ 40000) :
    Calls Try.prog 19 #[.string s] w fun e w' => Got2 w.heap.size (readC s) e w' ∧ Below w.heap.size w w' := by
  by_cases h0 : s.size = 0
  · have hse : s = ⟨#[]⟩ := ByteArray.ext (Array.eq_empty_of_size_eq_zero h0)
    subst hse
    rw [readC_nil]
    go_enter Try.func19, Try.ntmps19
    go_wp2_with fail
    exact bodyPost_ret (v := .tuple #[.agg (ctC fresh (.slice none 0 0)), .bool true]) (by simp [results, Try.results19, go_sem, ctC, fresh]) rfl
      ⟨⟨fresh, _, rfl, ⟨none, 0, 0, rfl⟩, fun c' h => by injection h with h; exact ⟨h.symm, EOwn.nil _ _⟩⟩, (Below.refl _ _).alloc (Nat.le_refl _) _⟩
  · have hie := isEmpty_of h0
    have R1 := Lib.hid (fun W b2 (hd : Rd W b2 ⟨s, false, false⟩) => rrecord_prog b2 ⟨s, false, false⟩ W hd (by simp only; omega))
    have B1 := Lib.hid (fun hx => rRecord_lt ⟨s, false, false⟩ hx)
    have key : readC s = if (rRecord ⟨s, false, false⟩).2.wrong || ((rRecord ⟨s, false, false⟩).2.short || !decide ((rRecord ⟨s, false, false⟩).1.1 = 248)) then none
      else (readAllC (rRecord ⟨s, false, false⟩).1.2).bind fun c => readLoop (s.size + 1) c (rRecord ⟨s, false, false⟩).2 := by
      unfold readC
      rw [if_neg h0]
      congr 1
      cases readAllC (rRecord ⟨s, false, false⟩).1.2 <;> rfl
    obtain ⟨R, hR⟩ : ∃ R, readC s = R := ⟨_, rfl⟩
    rw [hR] at key ⊢
    obtain ⟨⟨⟨k, body⟩, r1⟩, h1⟩ : ∃ x, rRecord ⟨s, false, false⟩ = x := ⟨_, rfl⟩
    rw [h1] at R1 B1 key
    simp only at R1 B1 key
    have HK := Lib.hid key
    have HS := Lib.hid hs
    clear h1 hR key h0 hs
    obtain ⟨q1, sh, wg⟩ := r1
    simp only at HK B1
    go_enter Try.func19, Try.ntmps19
    go_wp2_with fail
    obtain ⟨H, hH⟩ : ∃ H, w.heap.size = H := ⟨_, rfl⟩
    obtain ⟨W0, hW0⟩ : ∃ W0, W0 = (w.alloc (.cells #[.int .u64 0, .int .i64 0, .int .u64 0, .int .u64 0, .string ⟨#[]⟩, .slice none 0 0] 58)).alloc (.cells #[.string s, .bool false, .bool false] 73) := ⟨_, rfl⟩
    have hd0 : Rd W0 (H + 1) ⟨s, false, false⟩ := by
      have := heap_alloc_new (w.alloc (.cells #[.int .u64 0, .int .i64 0, .int .u64 0, .int .u64 0, .string ⟨#[]⟩, .slice none 0 0] 58)) (.cells #[.string s, .bool false, .bool false] 73)
      unfold Rd
      rw [hW0, ← hH]; simpa using this
    have hz0 : W0.heap[H]? = some (.cells #[.int .u64 0, .int .i64 0, .int .u64 0, .int .u64 0, .string ⟨#[]⟩, .slice none 0 0] 58 (0, 0)) := by
      rw [hW0, ← hH]; rw [Lib.alloc_old _ _ _ (by simp)]; exact heap_alloc_new _ _
    have hb0 : Below w.heap.size w W0 := by rw [hW0]; exact ((Below.refl _ _).alloc (Nat.le_refl _) _).alloc (by simp) _
    have hsz : W0.heap.size = H + 2 := by rw [hW0, ← hH]; simp
    rw [← hW0]
    simp only [hH]
    rw [hH] at hb0
    have S1 := Lib.hid (R1.out W0 (H + 1) hd0)
    have HB0 := Lib.hid hb0
    have HZ0 := Lib.hid hz0
    have HSZ := Lib.hid hsz
    have HH := Lib.hid hH
    clear hW0 hd0 hz0 hb0 hsz hH R1
    try go_wp2_with fail
    refine S1.out.mono ?_
    rintro e w1 ⟨rfl, hd, ho⟩
    have hz := (ho.block H (by have := HSZ.out; omega) (by omega)).trans HZ0.out
    obtain ⟨c0, c1, c2⟩ := hd.cells
    simp only at c0 c1 c2
    have HD1 := Lib.hid hd
    have HB1 := Lib.hid (HB0.out.trans (ho.below (Nat.le_succ H) (by have := HSZ.out; omega)))
    have HZ1 := Lib.hid hz
    have HS1 : Hid (H + 2 ≤ w1.heap.size) := Lib.hid (by have := HSZ.out; have := ho.size; omega)
    obtain ⟨g0, g1, g2, g3, g4, g5⟩ := cells6 hz
    have y0 : ∀ o, w1.frozen? ⟨H, o, none⟩ = false := fun o => by simp [World.frozen?, hz]
    have y00 := y0 0
    have y01 := y0 1
    have y02 := y0 2
    have y03 := y0 3
    have y04 := y0 4
    have y05 := y0 5
    clear hd ho hz S1 HB0 HZ0 y0
    by_cases hbad : wg = true ∨ sh = true ∨ k ≠ 248
    · have HQ : Hid (R = none) := Lib.hid (by
        rw [HK.out]
        rcases hbad with h | h | h <;> simp [h])
      have hkI : wg = true ∨ sh = true ∨ ((k.toNat : Int) != 248) = true := by
        rcases hbad with h | h | h
        · exact .inl h
        · exact .inr (.inl h)
        · refine .inr (.inr ?_)
          have : k.toNat ≠ 248 := fun e => h (UInt8.toNat_inj.1 e)
          simp; omega
      clear HK hbad
      have leaf : ∀ (a : Act), a.tmps.getD 2 undef = .pointer (some ⟨H, 0, none⟩) → a.tmps.getD 3 undef = .bool false → a.defers = [] →
          bodyPost Try.prog Try.f19 (fun e w' => Got2 w.heap.size R e w' ∧ Below w.heap.size w w') .ret a (set6 w1 H (.int .u64 0) (.int .i64 0) (.int .u64 0) (.int .u64 0) (.string ⟨#[]⟩) (.slice none 0 0)) := by
        intro a ha2 ha3 hd
        rw [HQ.out, HH.out]
        exact bodyPost_ret (results_ct ha2 ha3 (set6_heap (w := w1) HZ1.out (.int .u64 0) (.int .i64 0) (.int .u64 0) (.int .u64 0) (.string ⟨#[]⟩) (.slice none 0 0)) rfl) hd
          ⟨⟨⟨0, 0, 0, 0, ⟨#[]⟩, []⟩, .slice none 0 0, rfl, ⟨none, 0, 0, rfl⟩, fun c' h => by cases h⟩, HB1.out.trans (set6_below (Nat.le_refl H) (.int .u64 0) (.int .i64 0) (.int .u64 0) (.int .u64 0) (.string ⟨#[]⟩) (.slice none 0 0))⟩
      have LEAF := Lib.hid leaf
      clear leaf
      rcases hkI with rfl | hkI
      · go_wp2_with fail
        exact LEAF.out _ rfl rfl rfl
      · cases wg
        · rcases hkI with rfl | hkI
          · go_wp2_with fail
            exact LEAF.out _ rfl rfl rfl
          · cases sh
            · go_wp2_with fail
              exact LEAF.out _ rfl rfl rfl
            · go_wp2_with fail
              exact LEAF.out _ rfl rfl rfl
        · go_wp2_with fail
          exact LEAF.out _ rfl rfl rfl
    · have hok : wg = false ∧ sh = false ∧ k = 248 := by
        refine ⟨?_, ?_, ?_⟩
        · cases wg <;> simp_all
        · cases sh <;> simp_all
        · exact Classical.byContradiction fun h => hbad (.inr (.inr h))
      obtain ⟨rfl, rfl, rfl⟩ := hok
      clear hbad
      have HK2 : Hid (R = (readAllC body).bind fun c => readLoop (s.size + 1) c ⟨q1, false, false⟩) := Lib.hid (by rw [HK.out]; simp)
      have HB2 := Lib.hid (B1.out rfl)
      have S2 := Lib.hid (readAll_prog body w1 (by have := HB2.out; have := HS.out; omega))
      clear HK B1
      go_wp2_with fail
      refine S2.out.mono ?_
      rintro e w2 ⟨hgot, hb2⟩
      have hz2 := (hb2.block H (by have := HS1.out; omega)).trans HZ1.out
      have hd2 := HD1.out.later hb2
      have hb02 := HB1.out.trans (hb2.mono (by have := HS1.out; omega))
      obtain ⟨o, hoo⟩ : ∃ o, readAllC body = o := ⟨_, rfl⟩
      have HBD := Lib.hid (fun c (h : o = some c) => readAllC_bd (hoo.trans h))
      rw [hoo] at hgot HK2
      have HS2 : Hid (H + 2 ≤ w2.heap.size) := Lib.hid (Nat.le_trans HS1.out hb2.size)
      have HLW := Lib.hid hb2.size
      clear S2 hoo hb2 g0 g1 g2 g3 g4 g5 y00 y01 y02 y03 y04 y05 c0 c1 c2 HZ1 HD1 HB1
      have HZ2 := Lib.hid hz2
      have HD2 := Lib.hid hd2
      have HB02 := Lib.hid hb02
      clear hz2 hd2 hb02
      obtain ⟨okb, cc, vv, rfl, hvs, hpost⟩ : ∃ (okb : Bool) (cc : CT) (vv : Value), e = .returned (.tuple #[.agg (ctC cc vv), .bool okb]) ∧ (∃ a n cp, vv = .slice a n cp) ∧
          (okb = o.isSome ∧ (o = none → cc = ⟨0, 0, 0, 0, ⟨#[]⟩, []⟩ ∧ vv = .slice none 0 0) ∧ ∀ c, o = some c → c = cc ∧ EOwn w2 w1.heap.size vv cc.ents) := by
        cases o with
        | none => exact ⟨false, ⟨0, 0, 0, 0, ⟨#[]⟩, []⟩, .slice none 0 0, hgot, ⟨none, 0, 0, rfl⟩, rfl, fun _ => ⟨rfl, rfl⟩, fun c h => by cases h⟩
        | some c =>
          obtain ⟨v, h1, h2⟩ := hgot
          have : ∃ a n cp, v = .slice a n cp := by obtain ⟨a, cp, hv, _⟩ := h2.shape; exact ⟨a, _, cp, hv⟩
          exact ⟨true, c, v, h1, this, rfl, (fun h => by cases h), fun c' h => by injection h with h; subst h; exact ⟨rfl, h2⟩⟩
      obtain ⟨va, vn, vc, rfl⟩ := hvs
      have HPO := Lib.hid hpost
      clear hpost hgot
      unfold ctC
      go_wp2_with fail
      obtain ⟨G, hG⟩ : ∃ G, w2.heap.size = G := ⟨_, rfl⟩
      obtain ⟨W3, hW3⟩ : ∃ W3, W3 = w2.alloc (.cells #[.int .u64 (cc.term : Int), .int .i64 cc.vote, .int .u64 (cc.base : Int), .int .u64 (cc.bterm : Int), .string cc.state, .slice va vn vc] 58) := ⟨_, rfl⟩
      have ha3 : Below w2.heap.size w2 W3 := by rw [hW3]; exact (Below.refl _ _).alloc (Nat.le_refl _) _
      have hrel0 : RdRel w H G R (.bool okb) W3 := by
        have hHW : H + 2 ≤ w2.heap.size := HS2.out
        have hz3 := (ha3.block H (by omega)).trans HZ2.out
        have hd3 := HD2.out.later ha3
        have hb3 := HB02.out.trans (ha3.mono (by omega))
        have hhp : W3.heap[G]? = some (.cells (ctL cc (.slice va vn vc) ++ []).toArray 58 (0, 0)) := by rw [hW3, ← hG]; exact heap_alloc_new _ _
        obtain ⟨e1, e2, e3⟩ := HPO.out
        have hbd := HB2.out
        have hss := HS.out
        cases o with
        | none =>
          obtain ⟨rfl, e4⟩ := e2 rfl
          refine ⟨okb, s.size + 1, _, _, _, rfl, Lib.hid (fun h => by rw [e1] at h; cases h), Lib.hid (fun _ => by rw [HK2.out]; rfl), Lib.hid ⟨hhp, by rw [e4]; exact EOwn.nil _ _, by rw [e4]; simp [Value.ownBlock]⟩, Lib.hid hd3, Lib.hid hz3, Lib.hid hb3, Lib.hid (by simp only [List.length_nil]; omega), Lib.hid (by simp [m64]), Lib.hid (by simp only; omega), Lib.hid (fun k hk => by rw [e4] at hk; simp [Value.ownBlock] at hk)⟩
        | some c =>
          obtain ⟨rfl, e4⟩ := e3 c rfl
          obtain ⟨f1, f2⟩ := HBD.out c rfl
          have e5 := e4.later ha3
          have hlow := e4.low
          have hlt := e4.lt
          refine ⟨okb, s.size + 1, _, _, _, rfl, Lib.hid (fun _ => by rw [HK2.out]; rfl), Lib.hid (fun h => by rw [e1] at h; cases h), Lib.hid ⟨hhp, e5.base (fun _ _ => Nat.zero_le _), fun e => by have := hlt G e; omega⟩, Lib.hid hd3, Lib.hid hz3, Lib.hid hb3, Lib.hid (by simp only; omega), Lib.hid f1, Lib.hid (by simp only; omega), Lib.hid (fun k hk => by have := hlow k hk; have := HS1.out; omega)⟩
      have HREL := Lib.hid hrel0
      have HGH : Hid (H + 2 ≤ G) := Lib.hid (by rw [← hG]; exact HS2.out)
      rw [← hW3, hG]
      clear hrel0 ha3 hG hW3 HPO HBD HK2 HZ2 HD2 HB02 HS2 HB2
      try go_wp2_with fail
      go_loopw [8] (RdRel w H G R) (fun o wr => rdN (H + 1) o wr)
      case atStart => exact HREL.out
      case round =>
        obtain ⟨ok, f, c, r, v, rfl, P1, P2, HC, HD, HZ, HB, HL, HBS, HF, HV⟩ := hrel
        clear HREL
        obtain ⟨m0, m1, m2, m3, m4, m5⟩ := HC.out.cells
        obtain ⟨g0, g1, g2, g3, g4, g5⟩ := cells6 HZ.out
        have y0 : ∀ o, wr.frozen? ⟨H, o, none⟩ = false := fun o => by simp [World.frozen?, HZ.out]
        have y00 := y0 0
        have y01 := y0 1
        have y02 := y0 2
        have y03 := y0 3
        have y04 := y0 4
        have y05 := y0 5
        have hGH : G ≠ H := by have := HGH.out; omega
        have hHG : H ≠ G := fun e => hGH e.symm
        obtain ⟨va2, vc2, rfl, _⟩ := HC.out.2.1.shape
        clear y0
        cases ok
        · have HQ := Lib.hid (P2.out rfl)
          go_wp2_with fail
          exact read_leaf HH.out rfl (by rw [HQ.out]; rfl) rfl HC.out HZ.out HB.out (fun c' h => by rw [HQ.out] at h; cases h) HV.out
        · have HQ1 := Lib.hid (P1.out rfl)
          clear P1 P2
          obtain ⟨c0, c1, c2⟩ := HD.out.cells
          by_cases hr0 : r.rest.size = 0
          · have hre : r.rest = ⟨#[]⟩ := ByteArray.ext (Array.eq_empty_of_size_eq_zero hr0)
            have HQ : Hid (R = some c) := Lib.hid (by rw [← HQ1.out, readLoop_end _ _ _ hr0])
            rw [hre] at c0
            clear hr0 hre HQ1
            go_wp2_with fail
            exact read_leaf HH.out rfl (by rw [HQ.out]; rfl) rfl HC.out HZ.out HB.out (fun c' h => by rw [HQ.out] at h; injection h with h; exact h.symm) HV.out
          · have hie2 := isEmpty_of hr0
            have hpos : 0 < r.rest.size := by omega
            have hposI : (0 : Int) < (r.rest.size : Int) := by omega
            obtain ⟨f, rfl⟩ : ∃ g, f = g + 1 := ⟨f - 1, by have := HF.out; omega⟩
            have e0 : r.rest.data.getD 0 0 = r.rest[0]'hpos := by
              unfold Array.getD
              rw [dif_pos (show 0 < r.rest.data.size from hpos)]
              rfl
            have HM := Lib.hid (rdN_true HD.out)
            have S1 := Lib.hid (rrecord_prog (H + 1) r wr HD.out (by have := HL.out; omega))
            have L1 := Lib.hid (fun hx => readLoop_short f c r hr0 hx)
            have L2 := Lib.hid (fun hx hy => readLoop_wrong f c r hr0 hx hy)
            have L3 := Lib.hid (fun hx hy hz => readLoop_none f c r hr0 hx hy hz)
            have L4 := Lib.hid (fun c' hx hy hz => readLoop_some f c c' r hr0 hx hy hz)
            have B1 := Lib.hid (fun hx => rRecord_lt r hx)
            obtain ⟨b0, hb0⟩ : ∃ b0, r.rest[0]'hpos = b0 := ⟨_, rfl⟩
            rw [e0, hb0] at L1
            obtain ⟨⟨⟨k, body⟩, r1⟩, hrr⟩ : ∃ x, rRecord r = x := ⟨_, rfl⟩
            rw [hrr] at S1 L1 L2 L3 L4 B1
            simp only at S1 L1 L2 L3 L4 B1
            have HR0 := Lib.hid hr0
            have HB0 := Lib.hid hb0
            clear hrr hr0 e0
            obtain ⟨q1, sh, wg⟩ := r1
            simp only at S1 L1 L2 L3 L4 B1
            go_wp2_with fail
            refine S1.out.mono ?_
            rintro e w5 ⟨rfl, hd5, ho5⟩
            have hGl := HC.out.lt
            have hc5 := HC.out.mv (ho5.block G hGl (by have := HGH.out; omega)) (fun k hk => ho5.block k (HC.out.2.1.lt k hk) (by have := HV.out k hk; omega))
            have hz5 := (ho5.block H (by have := HGH.out; omega) (by omega)).trans HZ.out
            have hb5 := HB.out.trans (ho5.below (Nat.le_succ H) (by have := HGH.out; omega))
            have hg5 : G < w5.heap.size := Nat.lt_of_lt_of_le hGl ho5.size
            clear m0 m1 m2 m3 m4 m5 g0 g1 g2 g3 g4 g5 y00 y01 y02 y03 y04 y05 c0 c1 c2 S1 hGl
            obtain ⟨m0, m1, m2, m3, m4, m5⟩ := hc5.cells
            obtain ⟨g0, g1, g2, g3, g4, g5⟩ := cells6 hz5
            obtain ⟨c0, c1, c2⟩ := hd5.cells
            simp only at c0 c1 c2
            have y0 : ∀ o, w5.frozen? ⟨H, o, none⟩ = false := fun o => by simp [World.frozen?, hz5]
            have y00 := y0 0
            have y01 := y0 1
            have y02 := y0 2
            have y03 := y0 3
            have y04 := y0 4
            have y05 := y0 5
            have HC5 := Lib.hid hc5
            have HZ5 := Lib.hid hz5
            have HD5 := Lib.hid hd5
            have HB5 := Lib.hid hb5
            have HG5 := Lib.hid hg5
            clear y0 hc5 hz5 hd5 hb5 hg5 HC HZ HD HB ho5
            cases sh
            · have HB1 := Lib.hid (B1.out rfl)
              clear L1
              cases wg
              · have L3' := Lib.hid (L3.out rfl rfl)
                have L4' := Lib.hid (fun c' => L4.out c' rfl rfl)
                clear L3 L4
                have S2 := Lib.hid (redo_prog G _ c k body w5 HC5.out (by have := HL.out; have := HB1.out; omega) HBS.out)
                have HBD := Lib.hid (fun c' (h : redoC c k body = some c') => redoC_bd h HBS.out)
                clear L2
                obtain ⟨o, hoo⟩ : ∃ o, redoC c k body = o := ⟨_, rfl⟩
                rw [hoo] at S2 L3' L4' HBD
                clear hoo m0 m1 m2 m3 m4 m5
                go_wp2_with fail
                refine S2.out.mono ?_
                rintro e w6 ⟨rfl, v6, hc6, hch⟩
                have hne1 : (Value.slice va2 c.ents.length vc2).ownBlock ≠ some H := fun e => by have := HV.out H e; omega
                have hne2 : (Value.slice va2 c.ents.length vc2).ownBlock ≠ some (H + 1) := fun e => by have := HV.out (H + 1) e; omega
                have hz6 := hch.keep HZ5.out hHG hne1
                have hd6 : Rd w6 (H + 1) ⟨q1, false, false⟩ := hch.keep HD5.out (by have := HGH.out; omega) hne2
                have hb6 := HB5.out.trans (hch.below (B := H) (by have := HGH.out; omega) (fun j hj => by have := HV.out j hj; omega) (by have := HG5.out; have := HGH.out; omega))
                have hv6 : ∀ k, v6.ownBlock = some k → H + 2 ≤ k := fun j hj => by
                  rcases hch.loc j hj with e | e
                  · exact HV.out j e
                  · have := HG5.out; have := HGH.out; omega
                have HN : Hid (RdRel w H G R (.bool o.isSome) w6) := by
                  have hB1 := HB1.out
                  have hHL := HL.out
                  have hHF := HF.out
                  cases o with
                  | none => exact Lib.hid ⟨false, f, c, ⟨q1, false, false⟩, v6, rfl, Lib.hid (fun h => by cases h), Lib.hid (fun _ => by rw [← HQ1.out]; exact L3'.out rfl), Lib.hid hc6, Lib.hid hd6, Lib.hid hz6, Lib.hid hb6, Lib.hid (by simp only; omega), HBS, Lib.hid (by simp only; omega), Lib.hid hv6⟩
                  | some c' =>
                    obtain ⟨f1, f2⟩ := HBD.out c' rfl
                    exact Lib.hid ⟨true, f, c', ⟨q1, false, false⟩, v6, rfl, Lib.hid (fun _ => by rw [← HQ1.out]; exact (L4'.out c' rfl).symm), Lib.hid (fun h => by cases h), Lib.hid hc6, Lib.hid hd6, Lib.hid hz6, Lib.hid hb6, Lib.hid (by simp only; omega), Lib.hid f1, Lib.hid (by simp only; omega), Lib.hid hv6⟩
                have HM6 : Hid (rdN (H + 1) (.bool o.isSome) w6 < r.rest.size + 1) := Lib.hid (by
                  have hB1 := HB1.out
                  cases o with
                  | none => exact Nat.succ_pos _
                  | some c' => rw [show (some c' : Option CT).isSome = true from rfl, rdN_true hd6]; simp only; omega)
                obtain ⟨okn, hokn⟩ : ∃ okn, o.isSome = okn := ⟨_, rfl⟩
                rw [hokn] at HN HM6 ⊢
                clear hc6 hch hz6 hd6 hb6 hv6 hokn HZ5 HD5 HB5 HC5 L3' L4' HBD S2 hne1 hne2
                go_wp2_with fail
                go_roundw
                case rel => exact HN.out
                case measure => rw [HM.out]; exact HM6.out
              · have L2' := Lib.hid (L2.out rfl rfl)
                have HN : Hid (RdRel w H G R (.bool false) w5) := Lib.hid (by
                  have hB1 := HB1.out
                  have hHL := HL.out
                  have hHF := HF.out
                  exact ⟨false, f, c, ⟨q1, false, true⟩, _, rfl, Lib.hid (fun h => by cases h), Lib.hid (fun _ => by rw [← HQ1.out]; exact L2'.out), HC5, HD5, HZ5, HB5, Lib.hid (by simp only; omega), HBS, Lib.hid (by simp only; omega), HV⟩)
                go_wp2_with fail
                go_roundw
                case rel => exact HN.out
                case measure => rw [HM.out]; exact Nat.succ_pos _
            · have hL1 := L1.out rfl
              rw [HQ1.out] at hL1
              have HL1 := Lib.hid hL1
              clear hL1 L2 L3 L4 L1 HQ1
              by_cases hb1 : b0 = 249
              · subst hb1
                go_wp2_with fail
                exact read_leaf HH.out rfl (by rw [HL1.out]; rfl) rfl HC5.out HZ5.out HB5.out (fun c' h => by rw [HL1.out] at h; injection h with h; exact h.symm) HV.out
              · by_cases hb2 : b0 = 250
                · subst hb2
                  go_wp2_with fail
                  exact read_leaf HH.out rfl (by rw [HL1.out]; rfl) rfl HC5.out HZ5.out HB5.out (fun c' h => by rw [HL1.out] at h; injection h with h; exact h.symm) HV.out
                · have e1 : b0.toNat ≠ 249 := fun e => hb1 (UInt8.toNat_inj.1 e)
                  have e2 : b0.toNat ≠ 250 := fun e => hb2 (UInt8.toNat_inj.1 e)
                  have h1I : ((b0.toNat : Int) == 249) = false := by simp; omega
                  have h2I : ((b0.toNat : Int) == 250) = false := by simp; omega
                  have HQ : Hid (R = none) := Lib.hid (by rw [HL1.out]; simp [hb1, hb2])
                  clear e1 e2 hb1 hb2 HL1
                  go_wp2_with fail
                  exact read_leaf HH.out rfl (by rw [HQ.out]; rfl) rfl HC5.out HZ5.out HB5.out (fun c' h => by rw [HQ.out] at h; cases h) HV.out
end Go.Proofs.Ytfocljmjejniiaa
