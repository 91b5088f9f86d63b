/- log: redo: a record's change, done again. -/
import Derived.Test.YtfocljmjejniiaaGRep
namespace Go.Proofs.Ytfocljmjejniiaa
open Go.RowKit

section
variable {w w' : World} {b : Nat} {ty : TypeId} {X : List Value} {v : Value} {c : CT}
theorem CtAt.set0 (h : CtAt w b ty X v c) (n : Nat) : CtAt (w.setCell ⟨b, 0, none⟩ (.int .u64 (n : Int))) b ty X v { c with term := n } :=
  ⟨by have := heap_setCell_same w b 0 _ _ (.int .u64 (n : Int)) h.1; simpa [ctL] using this, h.2.1.mv fun k hk => heap_setCell_other w ⟨b, 0, none⟩ k _ (fun e => h.2.2 (by rw [hk, e])), h.2.2⟩
theorem CtAt.set1 (h : CtAt w b ty X v c) (n : Int) : CtAt (w.setCell ⟨b, 1, none⟩ (.int .i64 n)) b ty X v { c with vote := n } :=
  ⟨by have := heap_setCell_same w b 1 _ _ (.int .i64 n) h.1; simpa [ctL] using this, h.2.1.mv fun k hk => heap_setCell_other w ⟨b, 1, none⟩ k _ (fun e => h.2.2 (by rw [hk, e])), h.2.2⟩
theorem CtAt.set5 {v' : Value} {E : List Ent} (h : CtAt w b ty X v c) (ho : EOwn w 0 v' E) (hne : v'.ownBlock ≠ some b) : CtAt (w.setCell ⟨b, 5, none⟩ v') b ty X v' { c with ents := E } :=
  ⟨by have := heap_setCell_same w b 5 _ _ v' h.1; simpa [ctL] using this, ho.mv fun k hk => heap_setCell_other w ⟨b, 5, none⟩ k _ (fun e => hne (by rw [hk, e])), hne⟩
theorem CtAt.put5 {v' : Value} {E : List Ent} (h : w.heap[b]? = some (.cells (ctL c v ++ X).toArray ty (0, 0))) (ho : EOwn w 0 v' E) (hne : v'.ownBlock ≠ some b) : CtAt (w.setCell ⟨b, 5, none⟩ v') b ty X v' { c with ents := E } :=
  ⟨by have := heap_setCell_same w b 5 _ _ v' h; simpa [ctL] using this, ho.mv fun k hk => heap_setCell_other w ⟨b, 5, none⟩ k _ (fun e => hne (by rw [hk, e])), hne⟩
end

set_option maxHeartbeats 4000000 in
set_option maxRecDepth 100000 in
theorem redo_vote_prog {ty : TypeId} {X : List Value} (b : Nat) (v : Value) (c : CT) (body : ByteArray) (w : World) (h : CtAt w b ty X v c) (hb : body.size ≤ 90000) :
    Calls Try.prog 37 #[.pointer (some ⟨b, 0, none⟩), .int .u8 249, .string body] w fun e w' => e = .returned (.bool (redoV c body).isSome) ∧ CtAt w' b ty X v ((redoV c body).getD c) ∧ Ch b v w w' v := by
  have H := Lib.hid h
  have HN := Lib.hid h.lt
  have K1 := Lib.hid (fun W b2 (hd : Rd W b2 ⟨body, false, false⟩) => rnum_prog b2 ⟨body, false, false⟩ W hd (by simp only; omega))
  have HL1 := Lib.hid (Nat.le_trans (rNumber_le ⟨body, false, false⟩) hb)
  unfold redoV
  obtain ⟨⟨n, r1⟩, h1⟩ : ∃ x, rNumber ⟨body, false, false⟩ = x := ⟨_, rfl⟩
  rw [h1] at K1 HL1 ⊢
  simp only at K1 HL1 ⊢
  have K2 := Lib.hid (fun W b2 (hd : Rd W b2 r1) => rnum_prog b2 r1 W hd (by have := HL1.out; omega))
  obtain ⟨⟨m, r2⟩, h2⟩ : ∃ x, rNumber r1 = x := ⟨_, rfl⟩
  rw [h2] at K2 ⊢
  simp only at K2 ⊢
  have hz : IntKind.i64.wrap (m : Int) = voteZ m := rfl
  obtain ⟨q, hq⟩ : ∃ q, voteZ m = q := ⟨_, rfl⟩
  rw [hq] at hz ⊢
  have K3 := Lib.hid (fun W b2 (hd : Rd W b2 r2) => rended_prog b2 r2 W hd)
  have K4 := Lib.hid (fun W (hW : CtAt W b ty X v c) => votes_prog b v c n q W hW)
  obtain ⟨en, hen⟩ : ∃ en, rEnded r2 = en := ⟨_, rfl⟩
  rw [hen] at K3 ⊢
  obtain ⟨vo, hvo⟩ : ∃ vo, c.votes n q = vo := ⟨_, rfl⟩
  rw [hvo] at K4 ⊢
  clear h hb h1 h2 hq hen hvo
  go_enter Try.func37, Try.ntmps37
  go_wp2_with fail
  obtain ⟨W0, hW0⟩ : ∃ W0, W0 = w.alloc (.cells #[.string body, .bool false, .bool false] 73) := ⟨_, rfl⟩
  have hd0 : Rd W0 w.heap.size ⟨body, false, false⟩ := by rw [hW0]; exact heap_alloc_new _ _
  have hb0 : Below w.heap.size w W0 := by rw [hW0]; exact (Below.refl _ _).alloc (Nat.le_refl _) _
  rw [← hW0]
  have K1' := Lib.hid (K1.out W0 w.heap.size hd0)
  have HB0 := Lib.hid hb0
  clear hW0 hd0 hb0 K1
  try go_wp2_with fail
  refine K1'.out.mono ?_
  rintro e w1 ⟨rfl, hd1, ho1⟩
  have K2' := Lib.hid (K2.out w1 w.heap.size hd1)
  have HB1 := Lib.hid (HB0.out.trans (ho1.below (Nat.le_refl _) HB0.out.size))
  clear hd1 ho1 K2 K1' HB0
  go_wp2_with fail
  refine K2'.out.mono ?_
  rintro e w2 ⟨rfl, hd2, ho2⟩
  have K3' := Lib.hid (K3.out w2 w.heap.size hd2)
  have hb2 := HB1.out.trans (ho2.below (Nat.le_refl _) HB1.out.size)
  have HB2 := Lib.hid hb2
  have H2 := Lib.hid (H.out.later hb2)
  clear hd2 ho2 K3 K2' HB1 hb2
  go_wp2_with fail
  refine K3'.out.mono ?_
  rintro e w3 ⟨rfl, rfl⟩
  clear K3'
  cases en
  · go_wp2_with fail
    go_ret
    exact ⟨rfl, H2.out, Ch.ofBelow v HB2.out⟩
  · have K4' := Lib.hid (K4.out w3 H2.out)
    clear K4
    go_wp2_with fail
    refine K4'.out.mono ?_
    rintro e w4 ⟨rfl, rfl⟩
    clear K4'
    cases vo
    · go_wp2_with fail
      go_ret
      exact ⟨rfl, H2.out, Ch.ofBelow v HB2.out⟩
    · obtain ⟨c0, c1, c2, c3, c4, c5⟩ := H2.out.cells
      have z0 := H2.out.free 0
      have z1 := H2.out.free 1
      have HD := Lib.hid ((H2.out.set0 n).set1 q)
      have HC := Lib.hid (((Ch.ofBelow v HB2.out : Ch b v w w4 v).trans (Ch.set b 0 v w4 (.int .u64 (n : Int)))).trans (Ch.set b 1 v _ (.int .i64 q)))
      clear c2 c3 c4 c5
      go_wp2_with fail
      go_ret
      exact ⟨rfl, HD.out, HC.out⟩

theorem rEnts_len : ∀ (f : Nat) (r : RS) (out : List Ent), (rEnts f r out).1.length ≤ out.length + f
  | 0, r, out => Nat.le_refl _
  | f + 1, r, out => by
    by_cases h : (decide (r.rest.size = 0) || r.short) = true
    · rw [rEnts_end _ _ _ h]; exact Nat.le_add_right _ _
    · rw [rEnts_next _ _ _ (by simpa using h)]
      have := rEnts_len f (rText (rNumber r).2).2 (out ++ [((rNumber r).1, (rText (rNumber r).2).1)])
      rw [List.length_append, List.length_singleton] at this
      omega

set_option maxHeartbeats 4000000 in
set_option maxRecDepth 100000 in
theorem redo_add_prog {ty : TypeId} {X : List Value} (b : Nat) (v : Value) (c : CT) (body : ByteArray) (w : World) (h : CtAt w b ty X v c) (hl : c.ents.length + body.size ≤ 90000) (hc : c.base + c.ents.length < m64) :
    Calls Try.prog 37 #[.pointer (some ⟨b, 0, none⟩), .int .u8 250, .string body] w fun e w' => e = .returned (.bool (redoA c body).isSome) ∧ ∃ v', CtAt w' b ty X v' ((redoA c body).getD c) ∧ Ch b v w w' v' := by
  have H := Lib.hid h
  have HN := Lib.hid h.lt
  have K1 := Lib.hid (fun W b2 (hd : Rd W b2 ⟨body, false, false⟩) => rnum_prog b2 ⟨body, false, false⟩ W hd (by simp only; omega))
  have HL1 := Lib.hid (show (rNumber ⟨body, false, false⟩).2.rest.size + c.ents.length ≤ 90000 by have := rNumber_le ⟨body, false, false⟩; simp only at this; omega)
  have HNL := Lib.hid (rNumber_lt ⟨body, false, false⟩)
  unfold redoA
  obtain ⟨⟨n, r1⟩, h1⟩ : ∃ x, rNumber ⟨body, false, false⟩ = x := ⟨_, rfl⟩
  rw [h1] at K1 HL1 HNL ⊢
  simp only at K1 HL1 HNL ⊢
  have K2 := Lib.hid (fun W b2 (hd : Rd W b2 r1) => rents_prog b2 r1 W hd (by have := HL1.out; omega))
  have HEL : Hid ((rEntries r1).1.length + c.ents.length ≤ 90001) := Lib.hid (by have := rEnts_len (r1.rest.size + 1) r1 []; have := HL1.out; unfold rEntries; simp only [List.length_nil] at *; omega)
  obtain ⟨⟨E, r2⟩, h2⟩ : ∃ x, rEntries r1 = x := ⟨_, rfl⟩
  rw [h2] at K2 HEL ⊢
  simp only at K2 HEL ⊢
  have K3 := Lib.hid (fun W b2 (hd : Rd W b2 r2) => rended_prog b2 r2 W hd)
  have K4 := Lib.hid (fun W (hW : CtAt W b ty X v c) => takes_prog b v c n E.length W hW (by omega) HNL.out (by have := HEL.out; omega))
  obtain ⟨en, hen⟩ : ∃ en, rEnded r2 = en := ⟨_, rfl⟩
  rw [hen] at K3 ⊢
  have HT : Hid (c.takes n E.length = true → n - c.base ≤ c.ents.length ∧ c.base ≤ n) := Lib.hid (fun ht => by
    simp only [CT.takes, lastN_of hc, Bool.and_eq_true, decide_eq_true_eq] at ht
    omega)
  obtain ⟨vo, hvo⟩ : ∃ vo, c.takes n E.length = vo := ⟨_, rfl⟩
  rw [hvo] at K4 HT ⊢
  have HLL := Lib.hid hl
  obtain ⟨i, hi⟩ : ∃ i, n - c.base = i := ⟨_, rfl⟩
  rw [hi] at HT ⊢
  have HI := Lib.hid hi
  clear h h1 h2 hen hvo hl hc hi
  go_enter Try.func37, Try.ntmps37
  go_wp2_with fail
  obtain ⟨W0, hW0⟩ : ∃ W0, W0 = w.alloc (.cells #[.string body, .bool false, .bool false] 73) := ⟨_, rfl⟩
  have hd0 : Rd W0 w.heap.size ⟨body, false, false⟩ := by rw [hW0]; exact heap_alloc_new _ _
  have hb0 : Below w.heap.size w W0 := by rw [hW0]; exact (Below.refl _ _).alloc (Nat.le_refl _) _
  rw [← hW0]
  have K1' := Lib.hid (K1.out W0 w.heap.size hd0)
  have HB0 := Lib.hid hb0
  clear hW0 hd0 hb0 K1
  try go_wp2_with fail
  refine K1'.out.mono ?_
  rintro e w1 ⟨rfl, hd1, ho1⟩
  have K2' := Lib.hid (K2.out w1 w.heap.size hd1)
  have hb1 := HB0.out.trans (ho1.below (Nat.le_refl _) HB0.out.size)
  have HB1 := Lib.hid hb1
  clear hd1 ho1 K2 K1' HB0 hb1
  go_wp2_with fail
  refine K2'.out.mono ?_
  rintro e w2 ⟨ev, rfl, he2, hd2, ho2⟩
  have K3' := Lib.hid (K3.out w2 w.heap.size hd2)
  have hb2 := HB1.out.trans (ho2.below (Nat.le_refl _) HB1.out.size)
  have HB2 := Lib.hid hb2
  have H2 := Lib.hid (H.out.later hb2)
  have HE2 := Lib.hid he2
  obtain ⟨ea, ec, rfl, hec, _⟩ := he2.shape
  have hELI : (E.length : Int) ≤ 90001 := by have := HEL.out; omega
  clear hd2 ho2 K3 K2' hb2 he2
  go_wp2_with fail
  refine K3'.out.mono ?_
  rintro e w3 ⟨rfl, rfl⟩
  clear K3'
  cases en
  · go_wp2_with fail
    go_ret
    exact ⟨rfl, v, H2.out, Ch.ofBelow v HB2.out⟩
  · have K4' := Lib.hid (K4.out w3 H2.out)
    clear K4
    go_wp2_with fail
    refine K4'.out.mono ?_
    rintro e w4 ⟨rfl, q4, rfl⟩
    clear K4'
    cases vo
    · go_wp2_with fail
      go_ret
      exact ⟨rfl, v, H2.out, Ch.ofBelow v (HB2.out.trans ((Same.of _ q4).below _))⟩
    · obtain ⟨hn1, hn2⟩ := HT.out rfl
      obtain ⟨c0, c1, c2, c3, c4, c5⟩ := H2.out.cells
      have z5 := H2.out.free 5
      obtain ⟨a, cp, rfl, hcp, hcm, hsp⟩ := H2.out.2.1.shape
      have hi1 : (n : Int) - (c.base : Int) = (i : Int) := by have := HI.out; omega
      have hi2 : IntKind.u64.wrap (i : Int) = (i : Int) := u64_nat' _ (by have := HLL.out; omega)
      have hi4 : IntKind.i64.wrap (i : Int) = (i : Int) := IntWalk.i64_in _ (by have := HLL.out; omega)
      have hi3 : (i : Int) ≤ 90000 := by have := HLL.out; omega
      have K5 := Lib.hid (fun W (ho : EOwn W 0 (.slice a c.ents.length cp) c.ents) (hs : ESl W (.slice ea E.length ec) E) => replace_prog (.slice a c.ents.length cp) (.slice ea E.length ec) c.ents E i W ho hs (by omega) (by have := HLL.out; have := HEL.out; omega))
      have hlI : (c.ents.length : Int) ≤ 90000 := by have := HLL.out; omega
      clear c0 c1 c3 c4 hsp hn1 hn2 hcp hcm hec
      go_wp2_with fail
      have H4 := Lib.hid (H2.out.same (Same.of w3 (q4 + 1)))
      have HE4 : Hid (ESl (w3.drewN (q4 + 1)) (.slice ea E.length ec) E) := Lib.hid HE2.out.sl
      have K5' := Lib.hid (K5.out (w3.drewN (q4 + 1)) H4.out.2.1 HE4.out)
      obtain ⟨m, hm⟩ : ∃ m, (c.ents.take i ++ E).length = m := ⟨_, rfl⟩
      have K6 := Lib.hid (K5'.out.mono (R' := fun e w' => ∃ a5 cp5, e = .returned (.slice a5 m cp5) ∧ EOwn w' 0 (.slice a5 m cp5) (c.ents.take i ++ E) ∧ Grew (w3.drewN (q4 + 1)) (.slice a c.ents.length cp) w' (.slice a5 m cp5) ∧
          w'.cell? ⟨b, 5, none⟩ = some (.slice a c.ents.length cp) ∧ w'.frozen? ⟨b, 5, none⟩ = false) (by
        rintro e w' ⟨v', rfl, ho, hg⟩
        obtain ⟨a5, cp5, hv5, _⟩ := ho.shape
        rw [hm] at hv5
        subst hv5
        have hblk : w'.heap[b]? = (w3.drewN (q4 + 1)).heap[b]? := hg.block H4.out.lt H4.out.2.2
        refine ⟨a5, cp5, rfl, ho, hg, ?_, ?_⟩
        · rw [World.cell?_of_block (w := w3.drewN (q4 + 1)) (a := ⟨b, 5, none⟩) hblk]; exact H4.out.cells.2.2.2.2.2
        · rw [← H4.out.free 5]; simp only [World.frozen?, hblk]))
      have HM := Lib.hid hm
      clear K5 K5' hm
      go_region_with ((with_reducible refine K6.out.mono ?_); rintro e w5 ⟨a5, cp5, rfl, ho5, hg5, d5, y5⟩)
      all_goals
        have hblk : w5.heap[b]? = (w3.drewN (q4 + 1)).heap[b]? := hg5.block H4.out.lt H4.out.2.2
        have hne : (Value.slice a5 m cp5).ownBlock ≠ some b := fun e => by
          rcases hg5.loc b e with h1 | h1
          · exact H4.out.2.2 h1
          · have := H4.out.lt; omega
        have HD := Lib.hid (CtAt.put5 (hblk.trans H4.out.1) ho5 hne)
        have HC := Lib.hid ((((Ch.ofBelow (Value.slice a c.ents.length cp) HB2.out : Ch b (Value.slice a c.ents.length cp) w w3 (Value.slice a c.ents.length cp)).trans (Ch.drewN (b := b) (Value.slice a c.ents.length cp) w3 (q4 + 1))).trans (Ch.ofGrew hg5)).trans (Ch.set b 5 _ w5 (.slice a5 m cp5)))
        clear hblk hne ho5 hg5 d5 y5
        go_wp2_with fail
        go_ret
        exact ⟨rfl, _, HD.out, HC.out⟩
set_option maxRecDepth 100000 in
theorem redo_other_prog {ty : TypeId} {X : List Value} (b : Nat) (v : Value) (c : CT) (k : UInt8) (body : ByteArray) (w : World) (h : CtAt w b ty X v c) (h1 : k ≠ 249) (h2 : k ≠ 250) :
    Calls Try.prog 37 #[.pointer (some ⟨b, 0, none⟩), .int .u8 (k.toNat : Int), .string body] w fun e w' => e = .returned (.bool false) ∧ CtAt w' b ty X v c ∧ Ch b v w w' v := by
  have H := Lib.hid h
  have e1 : k.toNat ≠ 249 := fun e => h1 (UInt8.toNat_inj.1 e)
  have e2 : k.toNat ≠ 250 := fun e => h2 (UInt8.toNat_inj.1 e)
  have h1I : ((k.toNat : Int) == 249) = false := by simp; omega
  have h2I : ((k.toNat : Int) == 250) = false := by simp; omega
  clear h h1 h2 e1 e2
  go_enter Try.func37, Try.ntmps37
  go_wp2_with fail
  go_ret
  exact ⟨rfl, H.out.later ((Below.refl _ _).alloc (Nat.le_refl _) _), Ch.alloc v w _⟩

theorem redo_prog {ty : TypeId} {X : List Value} (b : Nat) (v : Value) (c : CT) (k : UInt8) (body : ByteArray) (w : World) (h : CtAt w b ty X v c) (hl : c.ents.length + body.size ≤ 90000) (hc : c.base + c.ents.length < m64) :
    Calls Try.prog 37 #[.pointer (some ⟨b, 0, none⟩), .int .u8 (k.toNat : Int), .string body] w fun e w' => e = .returned (.bool (redoC c k body).isSome) ∧ ∃ v', CtAt w' b ty X v' ((redoC c k body).getD c) ∧ Ch b v w w' v' := by
  by_cases h1 : k = 249
  · subst h1
    have e1 : redoC c 249 body = redoV c body := rfl
    rw [e1]
    exact (redo_vote_prog b v c body w h (by omega)).mono fun e w' ⟨a, q, r⟩ => ⟨a, v, q, r⟩
  · by_cases h2 : k = 250
    · subst h2
      have e1 : redoC c 250 body = redoA c body := rfl
      rw [e1]
      exact redo_add_prog b v c body w h hl hc
    · have e1 : redoC c k body = none := by simp [redoC, h1, h2]
      rw [e1]
      exact (redo_other_prog b v c k body w h h1 h2).mono fun e w' ⟨a, q, r⟩ => ⟨a, v, q, r⟩
/-- How long it may become. -/
theorem redoC_bd {c c' : CT} {k : UInt8} {body : ByteArray} (h : redoC c k body = some c') (hc : c.base + c.ents.length < m64) : c'.base + c'.ents.length < m64 ∧ c'.ents.length ≤ c.ents.length + body.size + 1 := by
  unfold redoC at h
  split at h
  · unfold redoV at h
    split at h
    · cases h
    · injection h with h; subst h; exact ⟨hc, by simp only; omega⟩
  · split at h
    · unfold redoA at h
      split at h
      · cases h
      · rename_i h1
        injection h with h; subst h
        have hl : (rEntries (rNumber ⟨body, false, false⟩).2).1.length ≤ body.size + 1 := by
          have h2 := rEnts_len ((rNumber ⟨body, false, false⟩).2.rest.size + 1) (rNumber ⟨body, false, false⟩).2 []
          have h3 := rNumber_le ⟨body, false, false⟩
          simp only at h3
          unfold rEntries
          simp only [List.length_nil] at h2
          omega
        simp only [Bool.or_eq_true, Bool.not_eq_true', not_or, Bool.not_eq_false] at h1
        have h2 := h1.2
        simp only [CT.takes, lastN_of hc, Bool.and_eq_true, decide_eq_true_eq] at h2
        simp only [List.length_append, List.length_take]
        unfold m64 at hc ⊢
        omega
    · cases h
end Go.Proofs.Ytfocljmjejniiaa
