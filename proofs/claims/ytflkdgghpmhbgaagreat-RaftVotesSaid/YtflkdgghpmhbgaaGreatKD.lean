/- log: read: what a log on these bytes tells. -/
import Derived.Test.YtflkdgghpmhbgaaGreatKC
import Derived.Laws.ResultCell
namespace Go.Proofs.YtflkdgghpmhbgaaGreat
open Go.RowKit

section
variable {w w' : World} {b : Nat} {ty : TypeId} {X : List Value} {v : Value} {c : CT}
theorem CtAt.set0 (h : CtAt w b ty X v c) (n : Nat) : CtAt (w.setCell ⟨b, 0, none⟩ (.int .u64 (n : Int))) b ty X v { c with term := n } :=
  ⟨by have := heap_setCell_same w b 0 _ _ (.int .u64 (n : Int)) h.1; simpa [ctL] using this, h.2.1.mv fun k hk => heap_setCell_other w ⟨b, 0, none⟩ k _ (fun e => h.2.2 (by rw [hk, e])), h.2.2⟩
theorem CtAt.set1 (h : CtAt w b ty X v c) (n : Int) : CtAt (w.setCell ⟨b, 1, none⟩ (.int .i64 n)) b ty X v { c with vote := n } :=
  ⟨by have := heap_setCell_same w b 1 _ _ (.int .i64 n) h.1; simpa [ctL] using this, h.2.1.mv fun k hk => heap_setCell_other w ⟨b, 1, none⟩ k _ (fun e => h.2.2 (by rw [hk, e])), h.2.2⟩
theorem CtAt.set5 {v' : Value} {E : List Ent} (h : CtAt w b ty X v c) (ho : EOwn w 0 v' E) (hne : v'.ownBlock ≠ some b) : CtAt (w.setCell ⟨b, 5, none⟩ v') b ty X v' { c with ents := E } :=
  ⟨by have := heap_setCell_same w b 5 _ _ v' h.1; simpa [ctL] using this, ho.mv fun k hk => heap_setCell_other w ⟨b, 5, none⟩ k _ (fun e => hne (by rw [hk, e])), hne⟩
theorem CtAt.put5 {v' : Value} {E : List Ent} (h : w.heap[b]? = some (.cells (ctL c v ++ X).toArray ty (0, 0))) (ho : EOwn w 0 v' E) (hne : v'.ownBlock ≠ some b) : CtAt (w.setCell ⟨b, 5, none⟩ v') b ty X v' { c with ents := E } :=
  ⟨by have := heap_setCell_same w b 5 _ _ v' h; simpa [ctL] using this, ho.mv fun k hk => heap_setCell_other w ⟨b, 5, none⟩ k _ (fun e => hne (by rw [hk, e])), hne⟩
end

set_option maxHeartbeats 4000000 in
set_option maxRecDepth 100000 in
theorem redo_vote_prog {ty : TypeId} {X : List Value} (b : Nat) (v : Value) (c : CT) (body : ByteArray) (w : World) (h : CtAt w b ty X v c) (hb : body.size ≤ 900000000) :
    Calls Tryz.prog 96 #[.pointer (some ⟨b, 0, none⟩), .int .u8 249, .string body] w fun e w' => e = .returned (.bool (redoV c body).isSome) ∧ CtAt w' b ty X v ((redoV c body).getD c) ∧ Ch b v w w' v := by
  have H := Lib.hid h
  have HN := Lib.hid h.lt
  have K1 := Lib.hid (fun W b2 (hd : Rd W b2 ⟨body, false, false⟩) => rnum_prog b2 ⟨body, false, false⟩ W hd (by simp only; omega))
  have HL1 := Lib.hid (Nat.le_trans (rNumber_le ⟨body, false, false⟩) hb)
  unfold redoV
  obtain ⟨⟨n, r1⟩, h1⟩ : ∃ x, rNumber ⟨body, false, false⟩ = x := ⟨_, rfl⟩
  rw [h1] at K1 HL1 ⊢
  simp only at K1 HL1 ⊢
  have K2 := Lib.hid (fun W b2 (hd : Rd W b2 r1) => rnum_prog b2 r1 W hd (by have := HL1.out; omega))
  obtain ⟨⟨m, r2⟩, h2⟩ : ∃ x, rNumber r1 = x := ⟨_, rfl⟩
  rw [h2] at K2 ⊢
  simp only at K2 ⊢
  have hz : IntKind.i64.wrap (m : Int) = voteZ m := rfl
  obtain ⟨q, hq⟩ : ∃ q, voteZ m = q := ⟨_, rfl⟩
  rw [hq] at hz ⊢
  have K3 := Lib.hid (fun W b2 (hd : Rd W b2 r2) => rended_prog b2 r2 W hd)
  have K4 := Lib.hid (fun W (hW : CtAt W b ty X v c) => votes_prog b v c n q W hW)
  obtain ⟨en, hen⟩ : ∃ en, rEnded r2 = en := ⟨_, rfl⟩
  rw [hen] at K3 ⊢
  obtain ⟨vo, hvo⟩ : ∃ vo, c.votes n q = vo := ⟨_, rfl⟩
  rw [hvo] at K4 ⊢
  clear h hb h1 h2 hq hen hvo
  go_enter Tryz.func96, Tryz.ntmps96
  go_wp2_with fail
  obtain ⟨W0, hW0⟩ : ∃ W0, W0 = w.alloc (.cells #[.string body, .bool false, .bool false] 171) := ⟨_, rfl⟩
  have hd0 : Rd W0 w.heap.size ⟨body, false, false⟩ := by rw [hW0]; exact heap_alloc_new _ _
  have hb0 : Below w.heap.size w W0 := by rw [hW0]; exact (Below.refl _ _).alloc (Nat.le_refl _) _
  rw [← hW0]
  have K1' := Lib.hid (K1.out W0 w.heap.size hd0)
  have HB0 := Lib.hid hb0
  clear hW0 hd0 hb0 K1
  try go_wp2_with fail
  refine K1'.out.mono ?_
  rintro e w1 ⟨rfl, hd1, ho1⟩
  have K2' := Lib.hid (K2.out w1 w.heap.size hd1)
  have HB1 := Lib.hid (HB0.out.trans (ho1.below (Nat.le_refl _) HB0.out.size))
  clear hd1 ho1 K2 K1' HB0
  go_wp2_with fail
  refine K2'.out.mono ?_
  rintro e w2 ⟨rfl, hd2, ho2⟩
  have K3' := Lib.hid (K3.out w2 w.heap.size hd2)
  have hb2 := HB1.out.trans (ho2.below (Nat.le_refl _) HB1.out.size)
  have HB2 := Lib.hid hb2
  have H2 := Lib.hid (H.out.later hb2)
  clear hd2 ho2 K3 K2' HB1 hb2
  go_wp2_with fail
  refine K3'.out.mono ?_
  rintro e w3 ⟨rfl, rfl⟩
  clear K3'
  cases en
  · go_wp2_with fail
    go_ret
    exact ⟨rfl, H2.out, Ch.ofBelow v HB2.out⟩
  · have K4' := Lib.hid (K4.out w3 H2.out)
    clear K4
    go_wp2_with fail
    refine K4'.out.mono ?_
    rintro e w4 ⟨rfl, rfl⟩
    clear K4'
    cases vo
    · go_wp2_with fail
      go_ret
      exact ⟨rfl, H2.out, Ch.ofBelow v HB2.out⟩
    · obtain ⟨c0, c1, c2, c3, c4, c5⟩ := H2.out.cells
      have z0 := H2.out.free 0
      have z1 := H2.out.free 1
      have HD := Lib.hid ((H2.out.set0 n).set1 q)
      have HC := Lib.hid (((Ch.ofBelow v HB2.out : Ch b v w w4 v).trans (Ch.set b 0 v w4 (.int .u64 (n : Int)))).trans (Ch.set b 1 v _ (.int .i64 q)))
      clear c2 c3 c4 c5
      go_wp2_with fail
      go_ret
      exact ⟨rfl, HD.out, HC.out⟩

theorem rEnts_len : ∀ (f : Nat) (r : RS) (out : List Ent), (rEnts f r out).1.length ≤ out.length + f
  | 0, r, out => Nat.le_refl _
  | f + 1, r, out => by
    by_cases h : (decide (r.rest.size = 0) || r.short) = true
    · rw [rEnts_end _ _ _ h]; exact Nat.le_add_right _ _
    · rw [rEnts_next _ _ _ (by simpa using h)]
      have := rEnts_len f (rText (rNumber r).2).2 (out ++ [((rNumber r).1, (rText (rNumber r).2).1)])
      rw [List.length_append, List.length_singleton] at this
      omega

set_option maxHeartbeats 4000000 in
set_option maxRecDepth 100000 in
theorem redo_add_prog {ty : TypeId} {X : List Value} (b : Nat) (v : Value) (c : CT) (body : ByteArray) (w : World) (h : CtAt w b ty X v c) (hl : c.ents.length + body.size ≤ 900000000) (hc : c.base + c.ents.length < m64) :
    Calls Tryz.prog 96 #[.pointer (some ⟨b, 0, none⟩), .int .u8 250, .string body] w fun e w' => e = .returned (.bool (redoA c body).isSome) ∧ ∃ v', CtAt w' b ty X v' ((redoA c body).getD c) ∧ Ch b v w w' v' := by
  have H := Lib.hid h
  have HN := Lib.hid h.lt
  have K1 := Lib.hid (fun W b2 (hd : Rd W b2 ⟨body, false, false⟩) => rnum_prog b2 ⟨body, false, false⟩ W hd (by simp only; omega))
  have HL1 := Lib.hid (show (rNumber ⟨body, false, false⟩).2.rest.size + c.ents.length ≤ 900000000 by have := rNumber_le ⟨body, false, false⟩; simp only at this; omega)
  have HNL := Lib.hid (rNumber_lt ⟨body, false, false⟩)
  unfold redoA
  obtain ⟨⟨n, r1⟩, h1⟩ : ∃ x, rNumber ⟨body, false, false⟩ = x := ⟨_, rfl⟩
  rw [h1] at K1 HL1 HNL ⊢
  simp only at K1 HL1 HNL ⊢
  have K2 := Lib.hid (fun W b2 (hd : Rd W b2 r1) => rents_prog b2 r1 W hd (by have := HL1.out; omega))
  have HEL : Hid ((rEntries r1).1.length + c.ents.length ≤ 900010000) := Lib.hid (by have := rEnts_len (r1.rest.size + 1) r1 []; have := HL1.out; unfold rEntries; simp only [List.length_nil] at *; omega)
  obtain ⟨⟨E, r2⟩, h2⟩ : ∃ x, rEntries r1 = x := ⟨_, rfl⟩
  rw [h2] at K2 HEL ⊢
  simp only at K2 HEL ⊢
  have K3 := Lib.hid (fun W b2 (hd : Rd W b2 r2) => rended_prog b2 r2 W hd)
  have K4 := Lib.hid (fun W (hW : CtAt W b ty X v c) => takes_prog b v c n E.length W hW (by omega) HNL.out (by have := HEL.out; omega))
  obtain ⟨en, hen⟩ : ∃ en, rEnded r2 = en := ⟨_, rfl⟩
  rw [hen] at K3 ⊢
  have HT : Hid (c.takes n E.length = true → n - c.base ≤ c.ents.length ∧ c.base ≤ n) := Lib.hid (fun ht => by
    simp only [CT.takes, lastN_of hc, Bool.and_eq_true, decide_eq_true_eq] at ht
    omega)
  obtain ⟨vo, hvo⟩ : ∃ vo, c.takes n E.length = vo := ⟨_, rfl⟩
  rw [hvo] at K4 HT ⊢
  have HLL := Lib.hid hl
  obtain ⟨i, hi⟩ : ∃ i, n - c.base = i := ⟨_, rfl⟩
  rw [hi] at HT ⊢
  have HI := Lib.hid hi
  clear h h1 h2 hen hvo hl hc hi
  go_enter Tryz.func96, Tryz.ntmps96
  go_wp2_with fail
  obtain ⟨W0, hW0⟩ : ∃ W0, W0 = w.alloc (.cells #[.string body, .bool false, .bool false] 171) := ⟨_, rfl⟩
  have hd0 : Rd W0 w.heap.size ⟨body, false, false⟩ := by rw [hW0]; exact heap_alloc_new _ _
  have hb0 : Below w.heap.size w W0 := by rw [hW0]; exact (Below.refl _ _).alloc (Nat.le_refl _) _
  rw [← hW0]
  have K1' := Lib.hid (K1.out W0 w.heap.size hd0)
  have HB0 := Lib.hid hb0
  clear hW0 hd0 hb0 K1
  try go_wp2_with fail
  refine K1'.out.mono ?_
  rintro e w1 ⟨rfl, hd1, ho1⟩
  have K2' := Lib.hid (K2.out w1 w.heap.size hd1)
  have hb1 := HB0.out.trans (ho1.below (Nat.le_refl _) HB0.out.size)
  have HB1 := Lib.hid hb1
  clear hd1 ho1 K2 K1' HB0 hb1
  go_wp2_with fail
  refine K2'.out.mono ?_
  rintro e w2 ⟨ev, rfl, he2, hd2, ho2⟩
  have K3' := Lib.hid (K3.out w2 w.heap.size hd2)
  have hb2 := HB1.out.trans (ho2.below (Nat.le_refl _) HB1.out.size)
  have HB2 := Lib.hid hb2
  have H2 := Lib.hid (H.out.later hb2)
  have HE2 := Lib.hid he2
  obtain ⟨ea, ec, rfl, hec, _⟩ := he2.shape
  have hELI : (E.length : Int) ≤ 900010000 := by have := HEL.out; omega
  clear hd2 ho2 K3 K2' hb2 he2
  go_wp2_with fail
  refine K3'.out.mono ?_
  rintro e w3 ⟨rfl, rfl⟩
  clear K3'
  cases en
  · go_wp2_with fail
    go_ret
    exact ⟨rfl, v, H2.out, Ch.ofBelow v HB2.out⟩
  · have K4' := Lib.hid (K4.out w3 H2.out)
    clear K4
    go_wp2_with fail
    refine K4'.out.mono ?_
    rintro e w4 ⟨rfl, q4, rfl⟩
    clear K4'
    cases vo
    · go_wp2_with fail
      go_ret
      exact ⟨rfl, v, H2.out, Ch.ofBelow v (HB2.out.trans ((Same.of _ q4).below _))⟩
    · obtain ⟨hn1, hn2⟩ := HT.out rfl
      obtain ⟨c0, c1, c2, c3, c4, c5⟩ := H2.out.cells
      have z5 := H2.out.free 5
      obtain ⟨a, cp, rfl, hcp, hcm, hsp⟩ := H2.out.2.1.shape
      have hi1 : (n : Int) - (c.base : Int) = (i : Int) := by have := HI.out; omega
      have hi2 : IntKind.u64.wrap (i : Int) = (i : Int) := u64_nat' _ (by have := HLL.out; omega)
      have hi4 : IntKind.i64.wrap (i : Int) = (i : Int) := IntWalk.i64_in _ (by have := HLL.out; omega)
      have hi3 : (i : Int) ≤ 900000000 := by have := HLL.out; omega
      have K5 := Lib.hid (fun W (ho : EOwn W 0 (.slice a c.ents.length cp) c.ents) (hs : ESl W (.slice ea E.length ec) E) => replace_prog (.slice a c.ents.length cp) (.slice ea E.length ec) c.ents E i W ho hs (by omega) (by have := HLL.out; have := HEL.out; omega))
      have hlI : (c.ents.length : Int) ≤ 900000000 := by have := HLL.out; omega
      clear c0 c1 c3 c4 hsp hn1 hn2 hcp hcm hec
      go_wp2_with fail
      have H4 := Lib.hid (H2.out.same (Same.of w3 (q4 + 1)))
      have HE4 : Hid (ESl (w3.drewN (q4 + 1)) (.slice ea E.length ec) E) := Lib.hid HE2.out.sl
      have K5' := Lib.hid (K5.out (w3.drewN (q4 + 1)) H4.out.2.1 HE4.out)
      obtain ⟨m, hm⟩ : ∃ m, (c.ents.take i ++ E).length = m := ⟨_, rfl⟩
      have K6 := Lib.hid (K5'.out.mono (R' := fun e w' => ∃ a5 cp5, e = .returned (.slice a5 m cp5) ∧ EOwn w' 0 (.slice a5 m cp5) (c.ents.take i ++ E) ∧ Grew (w3.drewN (q4 + 1)) (.slice a c.ents.length cp) w' (.slice a5 m cp5) ∧
          w'.cell? ⟨b, 5, none⟩ = some (.slice a c.ents.length cp) ∧ w'.frozen? ⟨b, 5, none⟩ = false) (by
        rintro e w' ⟨v', rfl, ho, hg⟩
        obtain ⟨a5, cp5, hv5, _⟩ := ho.shape
        rw [hm] at hv5
        subst hv5
        have hblk : w'.heap[b]? = (w3.drewN (q4 + 1)).heap[b]? := hg.block H4.out.lt H4.out.2.2
        refine ⟨a5, cp5, rfl, ho, hg, ?_, ?_⟩
        · rw [World.cell?_of_block (w := w3.drewN (q4 + 1)) (a := ⟨b, 5, none⟩) hblk]; exact H4.out.cells.2.2.2.2.2
        · rw [← H4.out.free 5]; simp only [World.frozen?, hblk]))
      have HM := Lib.hid hm
      clear K5 K5' hm
      go_region_with ((with_reducible refine K6.out.mono ?_); rintro e w5 ⟨a5, cp5, rfl, ho5, hg5, d5, y5⟩)
      all_goals
        have hblk : w5.heap[b]? = (w3.drewN (q4 + 1)).heap[b]? := hg5.block H4.out.lt H4.out.2.2
        have hne : (Value.slice a5 m cp5).ownBlock ≠ some b := fun e => by
          rcases hg5.loc b e with h1 | h1
          · exact H4.out.2.2 h1
          · have := H4.out.lt; omega
        have HD := Lib.hid (CtAt.put5 (hblk.trans H4.out.1) ho5 hne)
        have HC := Lib.hid ((((Ch.ofBelow (Value.slice a c.ents.length cp) HB2.out : Ch b (Value.slice a c.ents.length cp) w w3 (Value.slice a c.ents.length cp)).trans (Ch.drewN (b := b) (Value.slice a c.ents.length cp) w3 (q4 + 1))).trans (Ch.ofGrew hg5)).trans (Ch.set b 5 _ w5 (.slice a5 m cp5)))
        clear hblk hne ho5 hg5 d5 y5
        go_wp2_with fail
        go_ret
        exact ⟨rfl, _, HD.out, HC.out⟩
set_option maxRecDepth 100000 in
theorem redo_other_prog {ty : TypeId} {X : List Value} (b : Nat) (v : Value) (c : CT) (k : UInt8) (body : ByteArray) (w : World) (h : CtAt w b ty X v c) (h1 : k ≠ 249) (h2 : k ≠ 250) :
    Calls Tryz.prog 96 #[.pointer (some ⟨b, 0, none⟩), .int .u8 (k.toNat : Int), .string body] w fun e w' => e = .returned (.bool false) ∧ CtAt w' b ty X v c ∧ Ch b v w w' v := by
  have H := Lib.hid h
  have e1 : k.toNat ≠ 249 := fun e => h1 (UInt8.toNat_inj.1 e)
  have e2 : k.toNat ≠ 250 := fun e => h2 (UInt8.toNat_inj.1 e)
  have h1I : ((k.toNat : Int) == 249) = false := by simp; omega
  have h2I : ((k.toNat : Int) == 250) = false := by simp; omega
  clear h h1 h2 e1 e2
  go_enter Tryz.func96, Tryz.ntmps96
  go_wp2_with fail
  go_ret
  exact ⟨rfl, H.out.later ((Below.refl _ _).alloc (Nat.le_refl _) _), Ch.alloc v w _⟩

theorem redo_prog {ty : TypeId} {X : List Value} (b : Nat) (v : Value) (c : CT) (k : UInt8) (body : ByteArray) (w : World) (h : CtAt w b ty X v c) (hl : c.ents.length + body.size ≤ 900000000) (hc : c.base + c.ents.length < m64) :
    Calls Tryz.prog 96 #[.pointer (some ⟨b, 0, none⟩), .int .u8 (k.toNat : Int), .string body] w fun e w' => e = .returned (.bool (redoC c k body).isSome) ∧ ∃ v', CtAt w' b ty X v' ((redoC c k body).getD c) ∧ Ch b v w w' v' := by
  by_cases h1 : k = 249
  · subst h1
    have e1 : redoC c 249 body = redoV c body := rfl
    rw [e1]
    exact (redo_vote_prog b v c body w h (by omega)).mono fun e w' ⟨a, q, r⟩ => ⟨a, v, q, r⟩
  · by_cases h2 : k = 250
    · subst h2
      have e1 : redoC c 250 body = redoA c body := rfl
      rw [e1]
      exact redo_add_prog b v c body w h hl hc
    · have e1 : redoC c k body = none := by simp [redoC, h1, h2]
      rw [e1]
      exact (redo_other_prog b v c k body w h h1 h2).mono fun e w' ⟨a, q, r⟩ => ⟨a, v, q, r⟩
/-- How long it may become. -/
theorem redoC_bd {c c' : CT} {k : UInt8} {body : ByteArray} (h : redoC c k body = some c') (hc : c.base + c.ents.length < m64) : c'.base + c'.ents.length < m64 ∧ c'.ents.length ≤ c.ents.length + body.size + 1 := by
  unfold redoC at h
  split at h
  · unfold redoV at h
    split at h
    · cases h
    · injection h with h; subst h; exact ⟨hc, by simp only; omega⟩
  · split at h
    · unfold redoA at h
      split at h
      · cases h
      · rename_i h1
        injection h with h; subst h
        have hl : (rEntries (rNumber ⟨body, false, false⟩).2).1.length ≤ body.size + 1 := by
          have h2 := rEnts_len ((rNumber ⟨body, false, false⟩).2.rest.size + 1) (rNumber ⟨body, false, false⟩).2 []
          have h3 := rNumber_le ⟨body, false, false⟩
          simp only at h3
          unfold rEntries
          simp only [List.length_nil] at h2
          omega
        simp only [Bool.or_eq_true, Bool.not_eq_true', not_or, Bool.not_eq_false] at h1
        have h2 := h1.2
        simp only [CT.takes, lastN_of hc, Bool.and_eq_true, decide_eq_true_eq] at h2
        simp only [List.length_append, List.length_take]
        unfold m64 at hc ⊢
        omega
    · cases h
end Go.Proofs.YtflkdgghpmhbgaaGreat
namespace Go.Proofs.YtflkdgghpmhbgaaGreat
open Go.RowKit

def zeroCT : Value := .agg #[.int .u64 0, .int .i64 0, .int .u64 0, .int .u64 0, .string ⟨#[]⟩, .slice none 0 0]
/-- A content that was read, or none. -/
def GotCT (B : Nat) (o : Option CT) (e : Ending) (w' : World) : Prop := match o with
  | none => e = .returned (.tuple #[zeroCT, .bool false])
  | some c => ∃ v, e = .returned (.tuple #[.agg (ctC c v), .bool true]) ∧ EOwn w' B v c.ents

/-- Six cells stored one behind the other. -/
def set6 (w : World) (H : Nat) (b0 b1 b2 b3 b4 b5 : Value) : World := (((((w.setCell ⟨H, 0, none⟩ b0).setCell ⟨H, 1, none⟩ b1).setCell ⟨H, 2, none⟩ b2).setCell ⟨H, 3, none⟩ b3).setCell ⟨H, 4, none⟩ b4).setCell ⟨H, 5, none⟩ b5
theorem set6_heap {w : World} {H : Nat} {a0 a1 a2 a3 a4 a5 : Value} {ty : TypeId} (h : w.heap[H]? = some (.cells #[a0, a1, a2, a3, a4, a5] ty (0, 0))) (b0 b1 b2 b3 b4 b5 : Value) :
    (set6 w H b0 b1 b2 b3 b4 b5).heap[H]? = some (.cells #[b0, b1, b2, b3, b4, b5] ty (0, 0)) := by
  have h0 := heap_setCell_same w H 0 _ _ b0 h
  have h1 := heap_setCell_same _ H 1 _ _ b1 h0
  have h2 := heap_setCell_same _ H 2 _ _ b2 h1
  have h3 := heap_setCell_same _ H 3 _ _ b3 h2
  have h4 := heap_setCell_same _ H 4 _ _ b4 h3
  have h5 := heap_setCell_same _ H 5 _ _ b5 h4
  simpa [set6] using h5
theorem set6_below {w : World} {H B : Nat} (hB : B ≤ H) (b0 b1 b2 b3 b4 b5 : Value) : Below B w (set6 w H b0 b1 b2 b3 b4 b5) :=
  ((((((Below.refl B w).setCell hB _).setCell hB _).setCell hB _).setCell hB _).setCell hB _).setCell hB _
theorem cells6 {w : World} {H : Nat} {a0 a1 a2 a3 a4 a5 : Value} {ty : TypeId} (h : w.heap[H]? = some (.cells #[a0, a1, a2, a3, a4, a5] ty (0, 0))) :
    w.cell? ⟨H, 0, none⟩ = some a0 ∧ w.cell? ⟨H, 1, none⟩ = some a1 ∧ w.cell? ⟨H, 2, none⟩ = some a2 ∧ w.cell? ⟨H, 3, none⟩ = some a3 ∧ w.cell? ⟨H, 4, none⟩ = some a4 ∧ w.cell? ⟨H, 5, none⟩ = some a5 := by
  simp [World.cell?, h]

set_option maxHeartbeats 8000000 in
set_option maxRecDepth 100000 in
theorem readAll_prog (body : ByteArray) (w : World) (hb : body.size ≤ 900000000) :
    Calls Tryz.prog 95 #[.string body] w fun e w' => GotCT w.heap.size (readAllC body) e w' ∧ Below w.heap.size w w' := by
  have R1 := Lib.hid (fun W b2 (hd : Rd W b2 ⟨body, false, false⟩) => rnum_prog b2 ⟨body, false, false⟩ W hd (by simp only; omega))
  have L1 := Lib.hid (Nat.le_trans (rNumber_le ⟨body, false, false⟩) hb)
  obtain ⟨⟨n1, r1⟩, h1⟩ : ∃ x, rNumber ⟨body, false, false⟩ = x := ⟨_, rfl⟩
  rw [h1] at R1 L1
  simp only at R1 L1
  have R2 := Lib.hid (fun W b2 (hd : Rd W b2 r1) => rnum_prog b2 r1 W hd (by have := L1.out; omega))
  have L2 := Lib.hid (Nat.le_trans (rNumber_le r1) L1.out)
  obtain ⟨⟨n2, r2⟩, h2⟩ : ∃ x, rNumber r1 = x := ⟨_, rfl⟩
  rw [h2] at R2 L2
  simp only at R2 L2
  have R3 := Lib.hid (fun W b2 (hd : Rd W b2 r2) => rnum_prog b2 r2 W hd (by have := L2.out; omega))
  have L3 := Lib.hid (Nat.le_trans (rNumber_le r2) L2.out)
  have N3 := Lib.hid (rNumber_lt r2)
  obtain ⟨⟨n3, r3⟩, h3⟩ : ∃ x, rNumber r2 = x := ⟨_, rfl⟩
  rw [h3] at R3 L3 N3
  simp only at R3 L3 N3
  have R4 := Lib.hid (fun W b2 (hd : Rd W b2 r3) => rnum_prog b2 r3 W hd (by have := L3.out; omega))
  have L4 := Lib.hid (Nat.le_trans (rNumber_le r3) L3.out)
  obtain ⟨⟨n4, r4⟩, h4⟩ : ∃ x, rNumber r3 = x := ⟨_, rfl⟩
  rw [h4] at R4 L4
  simp only at R4 L4
  have R5 := Lib.hid (fun W b2 (hd : Rd W b2 r4) => rtext_prog b2 r4 W hd (by have := L4.out; omega))
  have L5 := Lib.hid (Nat.le_trans (rText_le r4).1 L4.out)
  obtain ⟨⟨s5, r5⟩, h5⟩ : ∃ x, rText r4 = x := ⟨_, rfl⟩
  rw [h5] at R5 L5
  simp only at R5 L5
  have R6 := Lib.hid (fun W b2 (hd : Rd W b2 r5) => rents_prog b2 r5 W hd L5.out)
  have HEL : Hid ((rEntries r5).1.length ≤ 900010000) := Lib.hid (by have := rEnts_len (r5.rest.size + 1) r5 []; have := L5.out; unfold rEntries; simp only [List.length_nil] at *; omega)
  obtain ⟨⟨E, r6⟩, h6⟩ : ∃ x, rEntries r5 = x := ⟨_, rfl⟩
  rw [h6] at R6 HEL
  simp only at R6 HEL
  have R7 := Lib.hid (fun W b2 (hd : Rd W b2 r6) => rended_prog b2 r6 W hd)
  have hzz : IntKind.i64.wrap (n2 : Int) = voteZ n2 := rfl
  obtain ⟨q, hq⟩ : ∃ q, voteZ n2 = q := ⟨_, rfl⟩
  rw [hq] at hzz
  obtain ⟨en, hen⟩ : ∃ en, rEnded r6 = en := ⟨_, rfl⟩
  rw [hen] at R7
  have R8 := Lib.hid (fun W b2 (hW : CtAt W b2 116 [] (.slice none 0 0) ⟨n1, q, n3, n4, s5, []⟩) => takes_prog b2 (.slice none 0 0) ⟨n1, q, n3, n4, s5, []⟩ n3 E.length W hW (by simp) N3.out (by have := HEL.out; omega))
  obtain ⟨tk, htk⟩ : ∃ tk, CT.takes ⟨n1, q, n3, n4, s5, []⟩ n3 E.length = tk := ⟨_, rfl⟩
  rw [htk] at R8
  have key : readAllC body = if (!en || (decide (q < -1) || !tk)) = true then none else some ⟨n1, q, n3, n4, s5, E⟩ := by
    simp only [readAllC, rAll, h1, h2, h3, h4, h5, h6, hq, hen, htk]
  obtain ⟨o, hoo⟩ : ∃ o, readAllC body = o := ⟨_, rfl⟩
  rw [hoo] at key ⊢
  have HK := Lib.hid key
  clear key hoo hb h1 h2 h3 h4 h5 h6 hq hen htk
  go_enter Tryz.func95, Tryz.ntmps95
  go_wp2_with fail
  obtain ⟨H, hH⟩ : ∃ H, w.heap.size = H := ⟨_, rfl⟩
  obtain ⟨W0, hW0⟩ : ∃ W0, W0 = (w.alloc (.cells #[.int .u64 0, .int .i64 0, .int .u64 0, .int .u64 0, .string ⟨#[]⟩, .slice none 0 0] 116)).alloc (.cells #[.string body, .bool false, .bool false] 171) := ⟨_, rfl⟩
  have hd0 : Rd W0 (H + 1) ⟨body, false, false⟩ := by
    have := heap_alloc_new (w.alloc (.cells #[.int .u64 0, .int .i64 0, .int .u64 0, .int .u64 0, .string ⟨#[]⟩, .slice none 0 0] 116)) (.cells #[.string body, .bool false, .bool false] 171)
    unfold Rd
    rw [hW0, ← hH]; simpa using this
  have hz0 : W0.heap[H]? = some (.cells #[.int .u64 0, .int .i64 0, .int .u64 0, .int .u64 0, .string ⟨#[]⟩, .slice none 0 0] 116 (0, 0)) := by
    rw [hW0, ← hH]; rw [Lib.alloc_old _ _ _ (by simp)]; exact heap_alloc_new _ _
  have hb0 : Below w.heap.size w W0 := by rw [hW0]; exact ((Below.refl _ _).alloc (Nat.le_refl _) _).alloc (by simp) _
  have hsz : W0.heap.size = H + 2 := by rw [hW0, ← hH]; simp
  rw [← hW0]
  simp only [hH]
  rw [hH] at hb0
  have S1 := Lib.hid (R1.out W0 (H + 1) hd0)
  have HB0 := Lib.hid hb0
  have HZ0 := Lib.hid hz0
  have HSZ := Lib.hid hsz
  have HH := Lib.hid hH
  clear hW0 hd0 hz0 hb0 hsz hH R1
  try go_wp2_with fail
  refine S1.out.mono ?_
  rintro e w1 ⟨rfl, hd, ho⟩
  have hz := (ho.block H (by have := HSZ.out; omega) (by omega)).trans HZ0.out
  have S2 := Lib.hid (R2.out w1 (H + 1) hd)
  have HB1 := Lib.hid (HB0.out.trans (ho.below (Nat.le_succ H) (by have := HSZ.out; omega)))
  have HZ1 := Lib.hid hz
  have HS1 : Hid (H + 2 ≤ w1.heap.size) := Lib.hid (by have := HSZ.out; have := ho.size; omega)
  clear hd ho hz S1 HB0 HZ0 R2
  go_wp2_with fail
  refine S2.out.mono ?_
  rintro e w2 ⟨rfl, hd, ho⟩
  have hz := (ho.block H (by have := HSZ.out; have := HS1.out; omega) (by omega)).trans HZ1.out
  have S3 := Lib.hid (R3.out w2 (H + 1) hd)
  have HB2 := Lib.hid (HB1.out.trans (ho.below (Nat.le_succ H) (by have := HSZ.out; have := HS1.out; omega)))
  have HZ2 := Lib.hid hz
  have HS2 : Hid (H + 2 ≤ w2.heap.size) := Lib.hid (by have := HSZ.out; have := ho.size; have := HS1.out; omega)
  clear hd ho hz S2 HB1 HZ1 R3
  go_wp2_with fail
  refine S3.out.mono ?_
  rintro e w3 ⟨rfl, hd, ho⟩
  have hz := (ho.block H (by have := HSZ.out; have := HS2.out; omega) (by omega)).trans HZ2.out
  have S4 := Lib.hid (R4.out w3 (H + 1) hd)
  have HB3 := Lib.hid (HB2.out.trans (ho.below (Nat.le_succ H) (by have := HSZ.out; have := HS2.out; omega)))
  have HZ3 := Lib.hid hz
  have HS3 : Hid (H + 2 ≤ w3.heap.size) := Lib.hid (by have := HSZ.out; have := ho.size; have := HS2.out; omega)
  clear hd ho hz S3 HB2 HZ2 R4
  go_wp2_with fail
  refine S4.out.mono ?_
  rintro e w4 ⟨rfl, hd, ho⟩
  have hz := (ho.block H (by have := HSZ.out; have := HS3.out; omega) (by omega)).trans HZ3.out
  have S5 := Lib.hid (R5.out w4 (H + 1) hd)
  have HB4 := Lib.hid (HB3.out.trans (ho.below (Nat.le_succ H) (by have := HSZ.out; have := HS3.out; omega)))
  have HZ4 := Lib.hid hz
  have HS4 : Hid (H + 2 ≤ w4.heap.size) := Lib.hid (by have := HSZ.out; have := ho.size; have := HS3.out; omega)
  clear hd ho hz S4 HB3 HZ3 R5
  go_wp2_with fail
  refine S5.out.mono ?_
  rintro e w5 ⟨rfl, hd, ho⟩
  have hz := (ho.block H (by have := HSZ.out; have := HS4.out; omega) (by omega)).trans HZ4.out
  have HD5 := Lib.hid hd
  have HB5 := Lib.hid (HB4.out.trans (ho.below (Nat.le_succ H) (by have := HSZ.out; have := HS4.out; omega)))
  have HZ5 := Lib.hid hz
  have HS5 : Hid (H + 2 ≤ w5.heap.size) := Lib.hid (by have := HSZ.out; have := ho.size; have := HS4.out; omega)
  clear hd ho hz S5 HB4 HZ4 
  go_wp2_with fail
  obtain ⟨G, hG⟩ : ∃ G, w5.heap.size = G := ⟨_, rfl⟩
  obtain ⟨W6, hW6⟩ : ∃ W6, W6 = w5.alloc (.cells #[.int .u64 (n1 : Int), .int .i64 q, .int .u64 (n3 : Int), .int .u64 (n4 : Int), .string s5, .slice none 0 0] 116) := ⟨_, rfl⟩
  have ha6 : Below w5.heap.size w5 W6 := by rw [hW6]; exact (Below.refl _ _).alloc (Nat.le_refl _) _
  have hd6 := HD5.out.later ha6
  have hc6 : CtAt W6 G 116 [] (.slice none 0 0) ⟨n1, q, n3, n4, s5, []⟩ := ⟨by rw [hW6, ← hG]; exact heap_alloc_new _ _, EOwn.nil _ _, by simp [Value.ownBlock]⟩
  have hz6 := (ha6.block H (by have := HS5.out; omega)).trans HZ5.out
  have hb6 := HB5.out.trans (ha6.mono (by have := HS5.out; omega))
  have hs6 : W6.heap.size = G + 1 := by rw [hW6, ← hG]; simp
  rw [← hW6, hG]
  have S6 := Lib.hid (R6.out W6 (H + 1) hd6)
  have HGH : Hid (H + 2 ≤ G) := Lib.hid (by rw [← hG]; exact HS5.out)
  have HC6 := Lib.hid hc6
  have HZ6 := Lib.hid hz6
  have HB6 := Lib.hid hb6
  have HS6 := Lib.hid hs6
  clear ha6 hd6 hc6 hz6 hb6 hs6 hW6 hG HD5 HZ5 HB5 HS5 R6 HSZ
  refine S6.out.mono ?_
  rintro e w6 ⟨ev, rfl, hev, hd, ho⟩
  have hz7 := (ho.block H (by have := HS6.out; have := HGH.out; omega) (by omega)).trans HZ6.out
  have hc7 := HC6.out.mv (ho.block G (by have := HS6.out; omega) (by have := HGH.out; omega)) (fun k hk => by simp [Value.ownBlock] at hk)
  have S7 := Lib.hid (R7.out w6 (H + 1) hd)
  have HB7 := Lib.hid (HB6.out.trans (ho.below (Nat.le_succ H) (by have := HS6.out; have := HGH.out; omega)))
  have HZ7 := Lib.hid hz7
  have HC7 := Lib.hid hc7
  have HE7 := Lib.hid hev
  have HS7 : Hid (G + 1 ≤ w6.heap.size) := Lib.hid (by have := HS6.out; have := ho.size; omega)
  obtain ⟨ea, ec, rfl, hec, _⟩ := hev.shape
  have hELI : (E.length : Int) ≤ 900010000 := by have := HEL.out; omega
  clear hz7 hc7 hd ho hev S6 R7 HC6 HZ6 HB6
  go_wp2_with fail
  refine S7.out.mono ?_
  rintro e w7 ⟨rfl, rfl⟩
  have g0 : w7.cell? ⟨H, 0, none⟩ = some (.int .u64 0) := by simp [World.cell?, HZ7.out]
  have g1 : w7.cell? ⟨H, 1, none⟩ = some (.int .i64 0) := by simp [World.cell?, HZ7.out]
  have g2 : w7.cell? ⟨H, 2, none⟩ = some (.int .u64 0) := by simp [World.cell?, HZ7.out]
  have g3 : w7.cell? ⟨H, 3, none⟩ = some (.int .u64 0) := by simp [World.cell?, HZ7.out]
  have g4 : w7.cell? ⟨H, 4, none⟩ = some (.string ⟨#[]⟩) := by simp [World.cell?, HZ7.out]
  have g5 : w7.cell? ⟨H, 5, none⟩ = some (.slice none 0 0) := by simp [World.cell?, HZ7.out]
  have y0 : ∀ o, w7.frozen? ⟨H, o, none⟩ = false := fun o => by simp [World.frozen?, HZ7.out]
  have y00 := y0 0
  have y01 := y0 1
  have y02 := y0 2
  have y03 := y0 3
  have y04 := y0 4
  have y05 := y0 5
  clear y0
  cases en
  · have HQ : Hid (o = none) := Lib.hid (by rw [HK.out]; rfl)
    clear HK
    go_wp2_with fail
    rw [HQ.out, HH.out]
    change bodyPost _ _ _ _ _ (set6 w7 H (.int .u64 0) (.int .i64 0) (.int .u64 0) (.int .u64 0) (.string ⟨#[]⟩) (.slice none 0 0))
    obtain ⟨t0, t1, t2, t3, t4, t5⟩ := cells6 (set6_heap (w := w7) HZ7.out (.int .u64 0) (.int .i64 0) (.int .u64 0) (.int .u64 0) (.string ⟨#[]⟩) (.slice none 0 0))
    have hbb := HB7.out.trans (set6_below (Nat.le_refl H) (.int .u64 0) (.int .i64 0) (.int .u64 0) (.int .u64 0) (.string ⟨#[]⟩) (.slice none 0 0))
    generalize set6 w7 H (.int .u64 0) (.int .i64 0) (.int .u64 0) (.int .u64 0) (.string ⟨#[]⟩) (.slice none 0 0) = Wf at t0 t1 t2 t3 t4 t5 hbb ⊢
    exact bodyPost_ret (v := .tuple #[zeroCT, .bool false]) (by simp [results, Tryz.results95, go_sem, zeroCT, t0, t1, t2, t3, t4, t5]) rfl ⟨rfl, hbb⟩
  · have k1 : w7.cell? ⟨G, 1, none⟩ = some (.int .i64 q) := HC7.out.cells.2.1
    have k2 : w7.cell? ⟨G, 2, none⟩ = some (.int .u64 (n3 : Int)) := HC7.out.cells.2.2.1
    by_cases hq1 : q < -1
    · have HQ : Hid (o = none) := Lib.hid (by rw [HK.out]; simp [hq1])
      clear HK
      go_wp2_with fail
      rw [HQ.out, HH.out]
      change bodyPost _ _ _ _ _ (set6 w7 H (.int .u64 0) (.int .i64 0) (.int .u64 0) (.int .u64 0) (.string ⟨#[]⟩) (.slice none 0 0))
      obtain ⟨t0, t1, t2, t3, t4, t5⟩ := cells6 (set6_heap (w := w7) HZ7.out (.int .u64 0) (.int .i64 0) (.int .u64 0) (.int .u64 0) (.string ⟨#[]⟩) (.slice none 0 0))
      have hbb := HB7.out.trans (set6_below (Nat.le_refl H) (.int .u64 0) (.int .i64 0) (.int .u64 0) (.int .u64 0) (.string ⟨#[]⟩) (.slice none 0 0))
      generalize set6 w7 H (.int .u64 0) (.int .i64 0) (.int .u64 0) (.int .u64 0) (.string ⟨#[]⟩) (.slice none 0 0) = Wf at t0 t1 t2 t3 t4 t5 hbb ⊢
      exact bodyPost_ret (v := .tuple #[zeroCT, .bool false]) (by simp [results, Tryz.results95, go_sem, zeroCT, t0, t1, t2, t3, t4, t5]) rfl ⟨rfl, hbb⟩
    · have S8 := Lib.hid (R8.out w7 G HC7.out)
      clear R8
      have HQ1 := Lib.hid hq1
      go_wp2_with fail
      refine S8.out.mono ?_
      rintro e w8 ⟨rfl, hs8⟩
      have hz8 : w8.heap[H]? = some (.cells #[.int .u64 0, .int .i64 0, .int .u64 0, .int .u64 0, .string ⟨#[]⟩, .slice none 0 0] 116 (0, 0)) := by
        obtain ⟨n, rfl⟩ := hs8; exact HZ7.out
      have hcc := HC7.out.same hs8
      have he8 := HE7.out.later (hs8.below _)
      have HB8 := Lib.hid (HB7.out.trans (hs8.below _))
      clear g0 g1 g2 g3 g4 g5 y00 y01 y02 y03 y04 y05 k1 k2 HZ7 HC7 HE7 HB7 S8 S7 hs8
      obtain ⟨g0, g1, g2, g3, g4, g5⟩ := cells6 hz8
      have y0 : ∀ o, w8.frozen? ⟨H, o, none⟩ = false := fun o => by simp [World.frozen?, hz8]
      have y00 := y0 0
      have y01 := y0 1
      have y02 := y0 2
      have y03 := y0 3
      have y04 := y0 4
      have y05 := y0 5
      have HZ8 := Lib.hid hz8
      clear y0 hz8
      cases tk
      · have HQ : Hid (o = none) := Lib.hid (by rw [HK.out]; simp)
        clear HK hcc he8
        go_wp2_with fail
        rw [HQ.out, HH.out]
        change bodyPost _ _ _ _ _ (set6 w8 H (.int .u64 0) (.int .i64 0) (.int .u64 0) (.int .u64 0) (.string ⟨#[]⟩) (.slice none 0 0))
        obtain ⟨t0, t1, t2, t3, t4, t5⟩ := cells6 (set6_heap (w := w8) HZ8.out (.int .u64 0) (.int .i64 0) (.int .u64 0) (.int .u64 0) (.string ⟨#[]⟩) (.slice none 0 0))
        have hbb := HB8.out.trans (set6_below (Nat.le_refl H) (.int .u64 0) (.int .i64 0) (.int .u64 0) (.int .u64 0) (.string ⟨#[]⟩) (.slice none 0 0))
        generalize set6 w8 H (.int .u64 0) (.int .i64 0) (.int .u64 0) (.int .u64 0) (.string ⟨#[]⟩) (.slice none 0 0) = Wf at t0 t1 t2 t3 t4 t5 hbb ⊢
        exact bodyPost_ret (v := .tuple #[zeroCT, .bool false]) (by simp [results, Tryz.results95, go_sem, zeroCT, t0, t1, t2, t3, t4, t5]) rfl ⟨rfl, hbb⟩
      · have HQ : Hid (o = some ⟨n1, q, n3, n4, s5, E⟩) := Lib.hid (by rw [HK.out]; simp; have := HQ1.out; omega)
        have hne5 : (Value.slice ea E.length ec).ownBlock ≠ some G := fun e => by have := he8.low G e; have := HS6.out; omega
        have hput := CtAt.put5 hcc.1 (he8.base (B' := 0) (fun _ _ => Nat.zero_le _)) hne5
        obtain ⟨m0, m1, m2, m3, m4, m5⟩ := hcc.cells
        have z5 := hcc.free 5
        simp only at m0 m1 m2 m3 m4 m5
        have HP := Lib.hid hput
        have HE8 := Lib.hid he8
        have hGH : G ≠ H := by have := HGH.out; omega
        have hHG : H ≠ G := fun e => hGH e.symm
        clear hcc HK HQ1 hput he8
        go_wp2_with fail
        have hz9 : (w8.setCell ⟨G, 5, none⟩ (.slice ea E.length ec)).heap[H]? = some (.cells #[.int .u64 0, .int .i64 0, .int .u64 0, .int .u64 0, .string ⟨#[]⟩, .slice none 0 0] 116 (0, 0)) :=
          (heap_setCell_other w8 ⟨G, 5, none⟩ H _ hHG).trans HZ8.out
        have hb9 := HB8.out.trans ((Below.refl H w8).setCell (p := ⟨G, 5, none⟩) (by have := HGH.out; show H ≤ G; omega) (.slice ea E.length ec))
        have hown : EOwn (set6 (w8.setCell ⟨G, 5, none⟩ (.slice ea E.length ec)) H (.int .u64 (n1 : Int)) (.int .i64 q) (.int .u64 (n3 : Int)) (.int .u64 (n4 : Int)) (.string s5) (.slice ea E.length ec)) H (.slice ea E.length ec) E := by
          have hlow := HE8.out.low
          refine (HE8.out.base (B' := H) (fun k hk => by have := hlow k hk; have := HS6.out; have := HGH.out; omega)).mv fun k hk => ?_
          have hk1 : k ≠ G := by have := hlow k hk; have := HS6.out; omega
          have hk2 : k ≠ H := by have := hlow k hk; have := HS6.out; have := HGH.out; omega
          unfold set6
          rw [heap_setCell_other _ ⟨H, 5, none⟩ k _ hk2, heap_setCell_other _ ⟨H, 4, none⟩ k _ hk2, heap_setCell_other _ ⟨H, 3, none⟩ k _ hk2, heap_setCell_other _ ⟨H, 2, none⟩ k _ hk2, heap_setCell_other _ ⟨H, 1, none⟩ k _ hk2, heap_setCell_other _ ⟨H, 0, none⟩ k _ hk2, heap_setCell_other _ ⟨G, 5, none⟩ k _ hk1]
        rw [HQ.out, HH.out]
        change bodyPost _ _ _ _ _ (set6 (w8.setCell ⟨G, 5, none⟩ (.slice ea E.length ec)) H (.int .u64 (n1 : Int)) (.int .i64 q) (.int .u64 (n3 : Int)) (.int .u64 (n4 : Int)) (.string s5) (.slice ea E.length ec))
        obtain ⟨t0, t1, t2, t3, t4, t5⟩ := cells6 (set6_heap hz9 (.int .u64 (n1 : Int)) (.int .i64 q) (.int .u64 (n3 : Int)) (.int .u64 (n4 : Int)) (.string s5) (.slice ea E.length ec))
        have hbb := hb9.trans (set6_below (Nat.le_refl H) (.int .u64 (n1 : Int)) (.int .i64 q) (.int .u64 (n3 : Int)) (.int .u64 (n4 : Int)) (.string s5) (.slice ea E.length ec))
        generalize set6 (w8.setCell ⟨G, 5, none⟩ (.slice ea E.length ec)) H (.int .u64 (n1 : Int)) (.int .i64 q) (.int .u64 (n3 : Int)) (.int .u64 (n4 : Int)) (.string s5) (.slice ea E.length ec) = Wf at t0 t1 t2 t3 t4 t5 hbb hown ⊢
        clear g0 g1 g2 g3 g4 g5 y00 y01 y02 y03 y04 y05 m0 m1 m2 m3 m4 m5 z5
        exact bodyPost_ret (v := .tuple #[.agg (ctC ⟨n1, q, n3, n4, s5, E⟩ (.slice ea E.length ec)), .bool true]) (by simp [results, Tryz.results95, go_sem, ctC, t0, t1, t2, t3, t4, t5]) rfl ⟨⟨_, rfl, hown⟩, hbb⟩
end Go.Proofs.YtflkdgghpmhbgaaGreat
namespace Go.Proofs.YtflkdgghpmhbgaaGreat
open Go.RowKit

theorem rRecord_lt (r : RS) (h : (rRecord r).2.short = false) : (rRecord r).1.2.size + (rRecord r).2.rest.size + 17 ≤ r.rest.size := by
  unfold rRecord at h ⊢
  split at h
  · rename_i h1
    rw [if_pos h1]
    have := (rSealed_full r 9 h).2
    have h0 : (⟨#[]⟩ : ByteArray).size = 0 := rfl
    simp only [h0]; omega
  · rename_i h1
    rw [if_neg h1]
    simp only [Bool.or_eq_true, not_or, Bool.not_eq_true] at h1
    have h2 := (rSealed_full r 9 h1.1).2
    have h3 := rSealed_full _ _ h
    simp only at h3 ⊢
    omega
theorem readAllC_bd {c : CT} {body : ByteArray} (h : readAllC body = some c) : c.base + c.ents.length < m64 ∧ c.ents.length ≤ body.size + 1 := by
  unfold readAllC at h
  split at h
  · cases h
  · rename_i h1
    injection h with h; subst h
    simp only [Bool.or_eq_true, Bool.not_eq_true', not_or, Bool.not_eq_false] at h1
    have h2 := h1.2.2
    have h3 : (rAll body).1.base < m64 := rNumber_lt _
    simp only [CT.takes, CT.lastN, List.length_nil, Nat.add_zero, Nat.mod_eq_of_lt h3, Bool.and_eq_true, decide_eq_true_eq] at h2
    unfold m64 at h3
    refine ⟨by unfold m64; omega, ?_⟩
    have key : (rAll body).1.ents = (rEntries (rText (rNumber (rNumber (rNumber (rNumber ⟨body, false, false⟩).2).2).2).2).2).1 := rfl
    rw [key]
    have h4 := rEnts_len ((rText (rNumber (rNumber (rNumber (rNumber ⟨body, false, false⟩).2).2).2).2).2.rest.size + 1) (rText (rNumber (rNumber (rNumber (rNumber ⟨body, false, false⟩).2).2).2).2).2 []
    have h5 := (rText_le (rNumber (rNumber (rNumber (rNumber ⟨body, false, false⟩).2).2).2).2).1
    have h6 := rNumber_le (rNumber (rNumber (rNumber ⟨body, false, false⟩).2).2).2
    have h7 := rNumber_le (rNumber (rNumber ⟨body, false, false⟩).2).2
    have h8 := rNumber_le (rNumber ⟨body, false, false⟩).2
    have h9 := rNumber_le ⟨body, false, false⟩
    simp only at h9
    unfold rEntries
    simp only [List.length_nil] at h4
    omega
/-- What the loop comes to. -/
theorem readLoop_end (f : Nat) (c : CT) (r : RS) (h : r.rest.size = 0) : readLoop f c r = some c := by
  cases f with
  | zero => rfl
  | succ f => simp only [readLoop, h, if_true]
theorem readLoop_short (f : Nat) (c : CT) (r : RS) (h : r.rest.size ≠ 0) (hs : (rRecord r).2.short = true) : readLoop (f + 1) c r = if r.rest.data.getD 0 0 = 249 ∨ r.rest.data.getD 0 0 = 250 then some c else none := by
  simp only [readLoop, h, hs, if_true, if_false]
theorem readLoop_wrong (f : Nat) (c : CT) (r : RS) (h : r.rest.size ≠ 0) (hs : (rRecord r).2.short = false) (hw : (rRecord r).2.wrong = true) : readLoop (f + 1) c r = none := by
  simp only [readLoop, h, hs, hw, if_true, if_false, Bool.false_eq_true]
theorem readLoop_none (f : Nat) (c : CT) (r : RS) (h : r.rest.size ≠ 0) (hs : (rRecord r).2.short = false) (hw : (rRecord r).2.wrong = false) (hr : redoC c (rRecord r).1.1 (rRecord r).1.2 = none) : readLoop (f + 1) c r = none := by
  simp only [readLoop, h, hs, hw, if_false, Bool.false_eq_true, hr]
theorem readLoop_some (f : Nat) (c c' : CT) (r : RS) (h : r.rest.size ≠ 0) (hs : (rRecord r).2.short = false) (hw : (rRecord r).2.wrong = false) (hr : redoC c (rRecord r).1.1 (rRecord r).1.2 = some c') : readLoop (f + 1) c r = readLoop f c' (rRecord r).2 := by
  simp only [readLoop, h, hs, hw, if_false, Bool.false_eq_true, hr]

/-- A content that was read, or one that is none. -/
def Got2 (B : Nat) (o : Option CT) (e : Ending) (w' : World) : Prop :=
  ∃ c v, e = .returned (.tuple #[.agg (ctC c v), .bool o.isSome]) ∧ (∃ a n cp, v = .slice a n cp) ∧ ∀ c', o = some c' → c' = c ∧ EOwn w' B v c.ents

def rdN (b : Nat) (o : Value) (w : World) : Nat := match o, w.cell? ⟨b, 0, none⟩ with
  | .bool true, some (.string s) => s.size + 1
  | _, _ => 0
theorem rdN_true {b : Nat} {w : World} {r : RS} (h : Rd w b r) : rdN b (.bool true) w = r.rest.size + 1 := by
  obtain ⟨c0, _⟩ := h.cells
  simp [rdN, c0]
theorem rdN_false (b : Nat) (w : World) : rdN b (.bool false) w = 0 := rfl

theorem results_ct {tmps : Array Value} {w : World} {H : Nat} {cs : Array Value} {x : Value} (h2 : tmps.getD 2 undef = .pointer (some ⟨H, 0, none⟩)) (h3 : tmps.getD 3 undef = x)
    (hg : w.heap[H]? = some (.cells cs 116 (0, 0))) (hs : cs.size = 6) : (results Tryz.f57 tmps).run Tryz.prog w = .ok (.tuple #[.agg cs, x]) w := by
  have hi : (Tryz.prog.info? 116).map (·.size) = some cs.size := by rw [hs]; kernel_rfl
  rw [results_cell_tmp rfl, h2, h3]
  simp [asAddr, Result.andThen, run_loadVar_row w H 116 116 cs (0, 0) _ hg Tryz.underlying116 rfl hi]

def RdRel (w : World) (H G : Nat) (R : Option CT) (okv : Value) (wr : World) : Prop := ∃ (ok : Bool) (f : Nat) (c : CT) (r : RS) (v : Value), okv = .bool ok ∧ Hid (ok = true → readLoop f c r = R) ∧ Hid (ok = false → R = none) ∧
  Hid (CtAt wr G 116 [] v c) ∧ Hid (Rd wr (H + 1) r) ∧ Hid (wr.heap[H]? = some (.cells #[.int .u64 0, .int .i64 0, .int .u64 0, .int .u64 0, .string ⟨#[]⟩, .slice none 0 0] 116 (0, 0))) ∧
  Hid (Below H w wr) ∧ Hid (c.ents.length + r.rest.size ≤ 400010000) ∧ Hid (c.base + c.ents.length < m64) ∧ Hid (r.rest.size < f) ∧ Hid (∀ k, v.ownBlock = some k → H + 2 ≤ k)

/-- The end, with the content that lies at G. -/
theorem read_leaf {w wr : World} {H G : Nat} {R : Option CT} {c : CT} {v : Value} {a : Act} (hH : w.heap.size = H) (h2 : a.tmps.getD 2 undef = .pointer (some ⟨H, 0, none⟩)) (h3 : a.tmps.getD 3 undef = .bool R.isSome) (hd : a.defers = [])
    (hc : CtAt wr G 116 [] v c) (hz : wr.heap[H]? = some (.cells #[.int .u64 0, .int .i64 0, .int .u64 0, .int .u64 0, .string ⟨#[]⟩, .slice none 0 0] 116 (0, 0)))
    (hb : Below H w wr) (hR : ∀ c', R = some c' → c' = c) (hv : ∀ k, v.ownBlock = some k → H + 2 ≤ k) :
    bodyPost Tryz.prog Tryz.f57 (fun e w' => Got2 w.heap.size R e w' ∧ Below w.heap.size w w') .ret a (set6 wr H (.int .u64 (c.term : Int)) (.int .i64 c.vote) (.int .u64 (c.base : Int)) (.int .u64 (c.bterm : Int)) (.string c.state) v) := by
  rw [hH]
  refine bodyPost_ret (results_ct h2 h3 (set6_heap hz _ _ _ _ _ _) rfl) hd ⟨⟨c, v, rfl, ?_, fun c' h => ⟨hR c' h, ?_⟩⟩, hb.trans (set6_below (Nat.le_refl H) _ _ _ _ _ _)⟩
  · obtain ⟨a, cp, h, _⟩ := hc.2.1.shape
    exact ⟨a, _, cp, h⟩
  · refine (hc.2.1.base (B' := H) (fun k hk => by have := hv k hk; omega)).mv fun k hk => ?_
    have hk2 : k ≠ H := by have := hv k hk; omega
    unfold set6
    rw [heap_setCell_other _ ⟨H, 5, none⟩ k _ hk2, heap_setCell_other _ ⟨H, 4, none⟩ k _ hk2, heap_setCell_other _ ⟨H, 3, none⟩ k _ hk2, heap_setCell_other _ ⟨H, 2, none⟩ k _ hk2, heap_setCell_other _ ⟨H, 1, none⟩ k _ hk2, heap_setCell_other _ ⟨H, 0, none⟩ k _ hk2]

set_option maxHeartbeats 8000000 in
set_option maxRecDepth 100000 in
theorem read_prog' (s : ByteArray) (w : World) (hs : s.size ≤ 400000000) :
    Calls Tryz.prog 57 #[.string s] w fun e w' => Got2 w.heap.size (readC s) e w' ∧ Below w.heap.size w w' := by
  by_cases h0 : s.size = 0
  · have hse : s = ⟨#[]⟩ := ByteArray.ext (Array.eq_empty_of_size_eq_zero h0)
    subst hse
    rw [readC_nil]
    go_enter Tryz.func57, Tryz.ntmps57
    go_wp2_with fail
    exact bodyPost_ret (v := .tuple #[.agg (ctC fresh (.slice none 0 0)), .bool true]) (by simp [results, Tryz.results57, go_sem, ctC, fresh]) rfl
      ⟨⟨fresh, _, rfl, ⟨none, 0, 0, rfl⟩, fun c' h => by injection h with h; exact ⟨h.symm, EOwn.nil _ _⟩⟩, (Below.refl _ _).alloc (Nat.le_refl _) _⟩
  · have hie := isEmpty_of h0
    have R1 := Lib.hid (fun W b2 (hd : Rd W b2 ⟨s, false, false⟩) => rrecord_prog b2 ⟨s, false, false⟩ W hd (by simp only; omega))
    have B1 := Lib.hid (fun hx => rRecord_lt ⟨s, false, false⟩ hx)
    have key : readC s = if (rRecord ⟨s, false, false⟩).2.wrong || ((rRecord ⟨s, false, false⟩).2.short || !decide ((rRecord ⟨s, false, false⟩).1.1 = 248)) then none
      else (readAllC (rRecord ⟨s, false, false⟩).1.2).bind fun c => readLoop (s.size + 1) c (rRecord ⟨s, false, false⟩).2 := by
      unfold readC
      rw [if_neg h0]
      congr 1
      cases readAllC (rRecord ⟨s, false, false⟩).1.2 <;> rfl
    obtain ⟨R, hR⟩ : ∃ R, readC s = R := ⟨_, rfl⟩
    rw [hR] at key ⊢
    obtain ⟨⟨⟨k, body⟩, r1⟩, h1⟩ : ∃ x, rRecord ⟨s, false, false⟩ = x := ⟨_, rfl⟩
    rw [h1] at R1 B1 key
    simp only at R1 B1 key
    have HK := Lib.hid key
    have HS := Lib.hid hs
    clear h1 hR key h0 hs
    obtain ⟨q1, sh, wg⟩ := r1
    simp only at HK B1
    go_enter Tryz.func57, Tryz.ntmps57
    go_wp2_with fail
    obtain ⟨H, hH⟩ : ∃ H, w.heap.size = H := ⟨_, rfl⟩
    obtain ⟨W0, hW0⟩ : ∃ W0, W0 = (w.alloc (.cells #[.int .u64 0, .int .i64 0, .int .u64 0, .int .u64 0, .string ⟨#[]⟩, .slice none 0 0] 116)).alloc (.cells #[.string s, .bool false, .bool false] 171) := ⟨_, rfl⟩
    have hd0 : Rd W0 (H + 1) ⟨s, false, false⟩ := by
      have := heap_alloc_new (w.alloc (.cells #[.int .u64 0, .int .i64 0, .int .u64 0, .int .u64 0, .string ⟨#[]⟩, .slice none 0 0] 116)) (.cells #[.string s, .bool false, .bool false] 171)
      unfold Rd
      rw [hW0, ← hH]; simpa using this
    have hz0 : W0.heap[H]? = some (.cells #[.int .u64 0, .int .i64 0, .int .u64 0, .int .u64 0, .string ⟨#[]⟩, .slice none 0 0] 116 (0, 0)) := by
      rw [hW0, ← hH]; rw [Lib.alloc_old _ _ _ (by simp)]; exact heap_alloc_new _ _
    have hb0 : Below w.heap.size w W0 := by rw [hW0]; exact ((Below.refl _ _).alloc (Nat.le_refl _) _).alloc (by simp) _
    have hsz : W0.heap.size = H + 2 := by rw [hW0, ← hH]; simp
    rw [← hW0]
    simp only [hH]
    rw [hH] at hb0
    have S1 := Lib.hid (R1.out W0 (H + 1) hd0)
    have HB0 := Lib.hid hb0
    have HZ0 := Lib.hid hz0
    have HSZ := Lib.hid hsz
    have HH := Lib.hid hH
    clear hW0 hd0 hz0 hb0 hsz hH R1
    try go_wp2_with fail
    refine S1.out.mono ?_
    rintro e w1 ⟨rfl, hd, ho⟩
    have hz := (ho.block H (by have := HSZ.out; omega) (by omega)).trans HZ0.out
    obtain ⟨c0, c1, c2⟩ := hd.cells
    simp only at c0 c1 c2
    have HD1 := Lib.hid hd
    have HB1 := Lib.hid (HB0.out.trans (ho.below (Nat.le_succ H) (by have := HSZ.out; omega)))
    have HZ1 := Lib.hid hz
    have HS1 : Hid (H + 2 ≤ w1.heap.size) := Lib.hid (by have := HSZ.out; have := ho.size; omega)
    obtain ⟨g0, g1, g2, g3, g4, g5⟩ := cells6 hz
    have y0 : ∀ o, w1.frozen? ⟨H, o, none⟩ = false := fun o => by simp [World.frozen?, hz]
    have y00 := y0 0
    have y01 := y0 1
    have y02 := y0 2
    have y03 := y0 3
    have y04 := y0 4
    have y05 := y0 5
    clear hd ho hz S1 HB0 HZ0 y0
    by_cases hbad : wg = true ∨ sh = true ∨ k ≠ 248
    · have HQ : Hid (R = none) := Lib.hid (by
        rw [HK.out]
        rcases hbad with h | h | h <;> simp [h])
      have hkI : wg = true ∨ sh = true ∨ ((k.toNat : Int) != 248) = true := by
        rcases hbad with h | h | h
        · exact .inl h
        · exact .inr (.inl h)
        · refine .inr (.inr ?_)
          have : k.toNat ≠ 248 := fun e => h (UInt8.toNat_inj.1 e)
          simp; omega
      clear HK hbad
      have leaf : ∀ (a : Act), a.tmps.getD 2 undef = .pointer (some ⟨H, 0, none⟩) → a.tmps.getD 3 undef = .bool false → a.defers = [] →
          bodyPost Tryz.prog Tryz.f57 (fun e w' => Got2 w.heap.size R e w' ∧ Below w.heap.size w w') .ret a (set6 w1 H (.int .u64 0) (.int .i64 0) (.int .u64 0) (.int .u64 0) (.string ⟨#[]⟩) (.slice none 0 0)) := by
        intro a ha2 ha3 hd
        rw [HQ.out, HH.out]
        exact bodyPost_ret (results_ct ha2 ha3 (set6_heap (w := w1) HZ1.out (.int .u64 0) (.int .i64 0) (.int .u64 0) (.int .u64 0) (.string ⟨#[]⟩) (.slice none 0 0)) rfl) hd
          ⟨⟨⟨0, 0, 0, 0, ⟨#[]⟩, []⟩, .slice none 0 0, rfl, ⟨none, 0, 0, rfl⟩, fun c' h => by cases h⟩, HB1.out.trans (set6_below (Nat.le_refl H) (.int .u64 0) (.int .i64 0) (.int .u64 0) (.int .u64 0) (.string ⟨#[]⟩) (.slice none 0 0))⟩
      have LEAF := Lib.hid leaf
      clear leaf
      rcases hkI with rfl | hkI
      · go_wp2_with fail
        exact LEAF.out _ rfl rfl rfl
      · cases wg
        · rcases hkI with rfl | hkI
          · go_wp2_with fail
            exact LEAF.out _ rfl rfl rfl
          · cases sh
            · go_wp2_with fail
              exact LEAF.out _ rfl rfl rfl
            · go_wp2_with fail
              exact LEAF.out _ rfl rfl rfl
        · go_wp2_with fail
          exact LEAF.out _ rfl rfl rfl
    · have hok : wg = false ∧ sh = false ∧ k = 248 := by
        refine ⟨?_, ?_, ?_⟩
        · cases wg <;> simp_all
        · cases sh <;> simp_all
        · exact Classical.byContradiction fun h => hbad (.inr (.inr h))
      obtain ⟨rfl, rfl, rfl⟩ := hok
      clear hbad
      have HK2 : Hid (R = (readAllC body).bind fun c => readLoop (s.size + 1) c ⟨q1, false, false⟩) := Lib.hid (by rw [HK.out]; simp)
      have HB2 := Lib.hid (B1.out rfl)
      have S2 := Lib.hid (readAll_prog body w1 (by have := HB2.out; have := HS.out; omega))
      clear HK B1
      go_wp2_with fail
      refine S2.out.mono ?_
      rintro e w2 ⟨hgot, hb2⟩
      have hz2 := (hb2.block H (by have := HS1.out; omega)).trans HZ1.out
      have hd2 := HD1.out.later hb2
      have hb02 := HB1.out.trans (hb2.mono (by have := HS1.out; omega))
      obtain ⟨o, hoo⟩ : ∃ o, readAllC body = o := ⟨_, rfl⟩
      have HBD := Lib.hid (fun c (h : o = some c) => readAllC_bd (hoo.trans h))
      rw [hoo] at hgot HK2
      have HS2 : Hid (H + 2 ≤ w2.heap.size) := Lib.hid (Nat.le_trans HS1.out hb2.size)
      have HLW := Lib.hid hb2.size
      clear S2 hoo hb2 g0 g1 g2 g3 g4 g5 y00 y01 y02 y03 y04 y05 c0 c1 c2 HZ1 HD1 HB1
      have HZ2 := Lib.hid hz2
      have HD2 := Lib.hid hd2
      have HB02 := Lib.hid hb02
      clear hz2 hd2 hb02
      obtain ⟨okb, cc, vv, rfl, hvs, hpost⟩ : ∃ (okb : Bool) (cc : CT) (vv : Value), e = .returned (.tuple #[.agg (ctC cc vv), .bool okb]) ∧ (∃ a n cp, vv = .slice a n cp) ∧
          (okb = o.isSome ∧ (o = none → cc = ⟨0, 0, 0, 0, ⟨#[]⟩, []⟩ ∧ vv = .slice none 0 0) ∧ ∀ c, o = some c → c = cc ∧ EOwn w2 w1.heap.size vv cc.ents) := by
        cases o with
        | none => exact ⟨false, ⟨0, 0, 0, 0, ⟨#[]⟩, []⟩, .slice none 0 0, hgot, ⟨none, 0, 0, rfl⟩, rfl, fun _ => ⟨rfl, rfl⟩, fun c h => by cases h⟩
        | some c =>
          obtain ⟨v, h1, h2⟩ := hgot
          have : ∃ a n cp, v = .slice a n cp := by obtain ⟨a, cp, hv, _⟩ := h2.shape; exact ⟨a, _, cp, hv⟩
          exact ⟨true, c, v, h1, this, rfl, (fun h => by cases h), fun c' h => by injection h with h; subst h; exact ⟨rfl, h2⟩⟩
      obtain ⟨va, vn, vc, rfl⟩ := hvs
      have HPO := Lib.hid hpost
      clear hpost hgot
      unfold ctC
      go_wp2_with fail
      obtain ⟨G, hG⟩ : ∃ G, w2.heap.size = G := ⟨_, rfl⟩
      obtain ⟨W3, hW3⟩ : ∃ W3, W3 = w2.alloc (.cells #[.int .u64 (cc.term : Int), .int .i64 cc.vote, .int .u64 (cc.base : Int), .int .u64 (cc.bterm : Int), .string cc.state, .slice va vn vc] 116) := ⟨_, rfl⟩
      have ha3 : Below w2.heap.size w2 W3 := by rw [hW3]; exact (Below.refl _ _).alloc (Nat.le_refl _) _
      have hrel0 : RdRel w H G R (.bool okb) W3 := by
        have hHW : H + 2 ≤ w2.heap.size := HS2.out
        have hz3 := (ha3.block H (by omega)).trans HZ2.out
        have hd3 := HD2.out.later ha3
        have hb3 := HB02.out.trans (ha3.mono (by omega))
        have hhp : W3.heap[G]? = some (.cells (ctL cc (.slice va vn vc) ++ []).toArray 116 (0, 0)) := by rw [hW3, ← hG]; exact heap_alloc_new _ _
        obtain ⟨e1, e2, e3⟩ := HPO.out
        have hbd := HB2.out
        have hss := HS.out
        cases o with
        | none =>
          obtain ⟨rfl, e4⟩ := e2 rfl
          refine ⟨okb, s.size + 1, _, _, _, rfl, Lib.hid (fun h => by rw [e1] at h; cases h), Lib.hid (fun _ => by rw [HK2.out]; rfl), Lib.hid ⟨hhp, by rw [e4]; exact EOwn.nil _ _, by rw [e4]; simp [Value.ownBlock]⟩, Lib.hid hd3, Lib.hid hz3, Lib.hid hb3, Lib.hid (by simp only [List.length_nil]; omega), Lib.hid (by simp [m64]), Lib.hid (by simp only; omega), Lib.hid (fun k hk => by rw [e4] at hk; simp [Value.ownBlock] at hk)⟩
        | some c =>
          obtain ⟨rfl, e4⟩ := e3 c rfl
          obtain ⟨f1, f2⟩ := HBD.out c rfl
          have e5 := e4.later ha3
          have hlow := e4.low
          have hlt := e4.lt
          refine ⟨okb, s.size + 1, _, _, _, rfl, Lib.hid (fun _ => by rw [HK2.out]; rfl), Lib.hid (fun h => by rw [e1] at h; cases h), Lib.hid ⟨hhp, e5.base (fun _ _ => Nat.zero_le _), fun e => by have := hlt G e; omega⟩, Lib.hid hd3, Lib.hid hz3, Lib.hid hb3, Lib.hid (by simp only; omega), Lib.hid f1, Lib.hid (by simp only; omega), Lib.hid (fun k hk => by have := hlow k hk; have := HS1.out; omega)⟩
      have HREL := Lib.hid hrel0
      have HGH : Hid (H + 2 ≤ G) := Lib.hid (by rw [← hG]; exact HS2.out)
      rw [← hW3, hG]
      clear hrel0 ha3 hG hW3 HPO HBD HK2 HZ2 HD2 HB02 HS2 HB2
      try go_wp2_with fail
      go_loopw [8] (RdRel w H G R) (fun o wr => rdN (H + 1) o wr)
      case atStart => exact HREL.out
      case round =>
        obtain ⟨ok, f, c, r, v, rfl, P1, P2, HC, HD, HZ, HB, HL, HBS, HF, HV⟩ := hrel
        clear HREL
        obtain ⟨m0, m1, m2, m3, m4, m5⟩ := HC.out.cells
        obtain ⟨g0, g1, g2, g3, g4, g5⟩ := cells6 HZ.out
        have y0 : ∀ o, wr.frozen? ⟨H, o, none⟩ = false := fun o => by simp [World.frozen?, HZ.out]
        have y00 := y0 0
        have y01 := y0 1
        have y02 := y0 2
        have y03 := y0 3
        have y04 := y0 4
        have y05 := y0 5
        have hGH : G ≠ H := by have := HGH.out; omega
        have hHG : H ≠ G := fun e => hGH e.symm
        obtain ⟨va2, vc2, rfl, _⟩ := HC.out.2.1.shape
        clear y0
        cases ok
        · have HQ := Lib.hid (P2.out rfl)
          go_wp2_with fail
          exact read_leaf HH.out rfl (by rw [HQ.out]; rfl) rfl HC.out HZ.out HB.out (fun c' h => by rw [HQ.out] at h; cases h) HV.out
        · have HQ1 := Lib.hid (P1.out rfl)
          clear P1 P2
          obtain ⟨c0, c1, c2⟩ := HD.out.cells
          by_cases hr0 : r.rest.size = 0
          · have hre : r.rest = ⟨#[]⟩ := ByteArray.ext (Array.eq_empty_of_size_eq_zero hr0)
            have HQ : Hid (R = some c) := Lib.hid (by rw [← HQ1.out, readLoop_end _ _ _ hr0])
            rw [hre] at c0
            clear hr0 hre HQ1
            go_wp2_with fail
            exact read_leaf HH.out rfl (by rw [HQ.out]; rfl) rfl HC.out HZ.out HB.out (fun c' h => by rw [HQ.out] at h; injection h with h; exact h.symm) HV.out
          · have hie2 := isEmpty_of hr0
            have hpos : 0 < r.rest.size := by omega
            have hposI : (0 : Int) < (r.rest.size : Int) := by omega
            obtain ⟨f, rfl⟩ : ∃ g, f = g + 1 := ⟨f - 1, by have := HF.out; omega⟩
            have e0 : r.rest.data.getD 0 0 = r.rest[0]'hpos := by
              unfold Array.getD
              rw [dif_pos (show 0 < r.rest.data.size from hpos)]
              rfl
            have HM := Lib.hid (rdN_true HD.out)
            have S1 := Lib.hid (rrecord_prog (H + 1) r wr HD.out (by have := HL.out; omega))
            have L1 := Lib.hid (fun hx => readLoop_short f c r hr0 hx)
            have L2 := Lib.hid (fun hx hy => readLoop_wrong f c r hr0 hx hy)
            have L3 := Lib.hid (fun hx hy hz => readLoop_none f c r hr0 hx hy hz)
            have L4 := Lib.hid (fun c' hx hy hz => readLoop_some f c c' r hr0 hx hy hz)
            have B1 := Lib.hid (fun hx => rRecord_lt r hx)
            obtain ⟨b0, hb0⟩ : ∃ b0, r.rest[0]'hpos = b0 := ⟨_, rfl⟩
            rw [e0, hb0] at L1
            obtain ⟨⟨⟨k, body⟩, r1⟩, hrr⟩ : ∃ x, rRecord r = x := ⟨_, rfl⟩
            rw [hrr] at S1 L1 L2 L3 L4 B1
            simp only at S1 L1 L2 L3 L4 B1
            have HR0 := Lib.hid hr0
            have HB0 := Lib.hid hb0
            clear hrr hr0 e0
            obtain ⟨q1, sh, wg⟩ := r1
            simp only at S1 L1 L2 L3 L4 B1
            go_wp2_with fail
            refine S1.out.mono ?_
            rintro e w5 ⟨rfl, hd5, ho5⟩
            have hGl := HC.out.lt
            have hc5 := HC.out.mv (ho5.block G hGl (by have := HGH.out; omega)) (fun k hk => ho5.block k (HC.out.2.1.lt k hk) (by have := HV.out k hk; omega))
            have hz5 := (ho5.block H (by have := HGH.out; omega) (by omega)).trans HZ.out
            have hb5 := HB.out.trans (ho5.below (Nat.le_succ H) (by have := HGH.out; omega))
            have hg5 : G < w5.heap.size := Nat.lt_of_lt_of_le hGl ho5.size
            clear m0 m1 m2 m3 m4 m5 g0 g1 g2 g3 g4 g5 y00 y01 y02 y03 y04 y05 c0 c1 c2 S1 hGl
            obtain ⟨m0, m1, m2, m3, m4, m5⟩ := hc5.cells
            obtain ⟨g0, g1, g2, g3, g4, g5⟩ := cells6 hz5
            obtain ⟨c0, c1, c2⟩ := hd5.cells
            simp only at c0 c1 c2
            have y0 : ∀ o, w5.frozen? ⟨H, o, none⟩ = false := fun o => by simp [World.frozen?, hz5]
            have y00 := y0 0
            have y01 := y0 1
            have y02 := y0 2
            have y03 := y0 3
            have y04 := y0 4
            have y05 := y0 5
            have HC5 := Lib.hid hc5
            have HZ5 := Lib.hid hz5
            have HD5 := Lib.hid hd5
            have HB5 := Lib.hid hb5
            have HG5 := Lib.hid hg5
            clear y0 hc5 hz5 hd5 hb5 hg5 HC HZ HD HB ho5
            cases sh
            · have HB1 := Lib.hid (B1.out rfl)
              clear L1
              cases wg
              · have L3' := Lib.hid (L3.out rfl rfl)
                have L4' := Lib.hid (fun c' => L4.out c' rfl rfl)
                clear L3 L4
                have S2 := Lib.hid (redo_prog G _ c k body w5 HC5.out (by have := HL.out; have := HB1.out; omega) HBS.out)
                have HBD := Lib.hid (fun c' (h : redoC c k body = some c') => redoC_bd h HBS.out)
                clear L2
                obtain ⟨o, hoo⟩ : ∃ o, redoC c k body = o := ⟨_, rfl⟩
                rw [hoo] at S2 L3' L4' HBD
                clear hoo m0 m1 m2 m3 m4 m5
                go_wp2_with fail
                refine S2.out.mono ?_
                rintro e w6 ⟨rfl, v6, hc6, hch⟩
                have hne1 : (Value.slice va2 c.ents.length vc2).ownBlock ≠ some H := fun e => by have := HV.out H e; omega
                have hne2 : (Value.slice va2 c.ents.length vc2).ownBlock ≠ some (H + 1) := fun e => by have := HV.out (H + 1) e; omega
                have hz6 := hch.keep HZ5.out hHG hne1
                have hd6 : Rd w6 (H + 1) ⟨q1, false, false⟩ := hch.keep HD5.out (by have := HGH.out; omega) hne2
                have hb6 := HB5.out.trans (hch.below (B := H) (by have := HGH.out; omega) (fun j hj => by have := HV.out j hj; omega) (by have := HG5.out; have := HGH.out; omega))
                have hv6 : ∀ k, v6.ownBlock = some k → H + 2 ≤ k := fun j hj => by
                  rcases hch.loc j hj with e | e
                  · exact HV.out j e
                  · have := HG5.out; have := HGH.out; omega
                have HN : Hid (RdRel w H G R (.bool o.isSome) w6) := by
                  have hB1 := HB1.out
                  have hHL := HL.out
                  have hHF := HF.out
                  cases o with
                  | none => exact Lib.hid ⟨false, f, c, ⟨q1, false, false⟩, v6, rfl, Lib.hid (fun h => by cases h), Lib.hid (fun _ => by rw [← HQ1.out]; exact L3'.out rfl), Lib.hid hc6, Lib.hid hd6, Lib.hid hz6, Lib.hid hb6, Lib.hid (by simp only; omega), HBS, Lib.hid (by simp only; omega), Lib.hid hv6⟩
                  | some c' =>
                    obtain ⟨f1, f2⟩ := HBD.out c' rfl
                    exact Lib.hid ⟨true, f, c', ⟨q1, false, false⟩, v6, rfl, Lib.hid (fun _ => by rw [← HQ1.out]; exact (L4'.out c' rfl).symm), Lib.hid (fun h => by cases h), Lib.hid hc6, Lib.hid hd6, Lib.hid hz6, Lib.hid hb6, Lib.hid (by simp only; omega), Lib.hid f1, Lib.hid (by simp only; omega), Lib.hid hv6⟩
                have HM6 : Hid (rdN (H + 1) (.bool o.isSome) w6 < r.rest.size + 1) := Lib.hid (by
                  have hB1 := HB1.out
                  cases o with
                  | none => exact Nat.succ_pos _
                  | some c' => rw [show (some c' : Option CT).isSome = true from rfl, rdN_true hd6]; simp only; omega)
                obtain ⟨okn, hokn⟩ : ∃ okn, o.isSome = okn := ⟨_, rfl⟩
                rw [hokn] at HN HM6 ⊢
                clear hc6 hch hz6 hd6 hb6 hv6 hokn HZ5 HD5 HB5 HC5 L3' L4' HBD S2 hne1 hne2
                go_wp2_with fail
                go_roundw
                case rel => exact HN.out
                case measure => rw [HM.out]; exact HM6.out
              · have L2' := Lib.hid (L2.out rfl rfl)
                have HN : Hid (RdRel w H G R (.bool false) w5) := Lib.hid (by
                  have hB1 := HB1.out
                  have hHL := HL.out
                  have hHF := HF.out
                  exact ⟨false, f, c, ⟨q1, false, true⟩, _, rfl, Lib.hid (fun h => by cases h), Lib.hid (fun _ => by rw [← HQ1.out]; exact L2'.out), HC5, HD5, HZ5, HB5, Lib.hid (by simp only; omega), HBS, Lib.hid (by simp only; omega), HV⟩)
                go_wp2_with fail
                go_roundw
                case rel => exact HN.out
                case measure => rw [HM.out]; exact Nat.succ_pos _
            · have hL1 := L1.out rfl
              rw [HQ1.out] at hL1
              have HL1 := Lib.hid hL1
              clear hL1 L2 L3 L4 L1 HQ1
              by_cases hb1 : b0 = 249
              · subst hb1
                go_wp2_with fail
                exact read_leaf HH.out rfl (by rw [HL1.out]; rfl) rfl HC5.out HZ5.out HB5.out (fun c' h => by rw [HL1.out] at h; injection h with h; exact h.symm) HV.out
              · by_cases hb2 : b0 = 250
                · subst hb2
                  go_wp2_with fail
                  exact read_leaf HH.out rfl (by rw [HL1.out]; rfl) rfl HC5.out HZ5.out HB5.out (fun c' h => by rw [HL1.out] at h; injection h with h; exact h.symm) HV.out
                · have e1 : b0.toNat ≠ 249 := fun e => hb1 (UInt8.toNat_inj.1 e)
                  have e2 : b0.toNat ≠ 250 := fun e => hb2 (UInt8.toNat_inj.1 e)
                  have h1I : ((b0.toNat : Int) == 249) = false := by simp; omega
                  have h2I : ((b0.toNat : Int) == 250) = false := by simp; omega
                  have HQ : Hid (R = none) := Lib.hid (by rw [HL1.out]; simp [hb1, hb2])
                  clear e1 e2 hb1 hb2 HL1
                  go_wp2_with fail
                  exact read_leaf HH.out rfl (by rw [HQ.out]; rfl) rfl HC5.out HZ5.out HB5.out (fun c' h => by rw [HQ.out] at h; cases h) HV.out
end Go.Proofs.YtflkdgghpmhbgaaGreat
