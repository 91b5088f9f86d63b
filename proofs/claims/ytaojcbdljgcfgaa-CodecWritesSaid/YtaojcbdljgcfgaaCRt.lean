/- codec.place, levels.right, Right. -/
import Derived.Test.YtaojcbdljgcfgaaCMap
import Derived.Test.YtaojcbdljgcfgaaCPlain
import Derived.Test.YtaojcbdljgcfgaaCSize
import Derived.Carry
namespace Go.Proofs.Ytaojcbdljgcfgaa
open Go.RowKit

set_option maxRecDepth 30000 in
theorem place_prog (g o n cap : Nat) (w : World) (h0 : 0 < n) : Calls Try.prog 39 #[.slice (some ⟨g, o, none⟩) n cap] w fun e w' => e = .returned (.agg #[.pointer (some ⟨g, o, none⟩), .int .i64 n]) ∧ Below w.heap.size w w' := by
  have h1 : (0 : Int) < (n : Int) := by omega
  go_enter Try.func39, Try.ntmps39
  go_wp2
  exact bodyPost_ret (v := .agg #[.pointer (some ⟨g, o, none⟩), .int .i64 n]) (by simp [results, Try.results39, go_sem]) rfl ⟨rfl, (Below.refl _ _).alloc (Nat.le_refl _) _⟩

theorem right_mono : ∀ (f : F) (d e : Nat), d ≤ e → f.right d = true → f.right e = true := fun f d e h hr => by
  rw [right_iff] at hr ⊢
  simp only [Bool.and_eq_true, decide_eq_true_eq] at hr ⊢
  exact ⟨by omega, hr.2⟩

theorem lies_det {w : World} {S : Nat → Prop} : ∀ (f h : F) (g o : Nat), Lies w S f g o → Lies w S h g o → f.len = h.len → f = h
  | .nil, h, _, _, _, _, e => (F.len_zero e.symm).symm
  | .cons _ _ _ _ _, .nil, _, _, _, _, e => by simp [F.len] at e
  | .cons k n s c r, .cons k' n' s' c' r', g, o, h1, h2, e => by
    obtain ⟨⟨a1, a2, a3, v, a4, a5⟩, a6⟩ := h1
    obtain ⟨⟨b1, b2, b3, u, b4, b5⟩, b6⟩ := h2
    rw [a1] at b1; rw [a2] at b2; rw [a3] at b3; rw [a4] at b4
    injection b1 with b1; injection b1 with _ b1
    injection b2 with b2; injection b2 with _ b2
    injection b3 with b3; injection b3 with b3
    injection b4 with b4
    subst b1 b2 b3 b4
    have hr := lies_det r r' g (o + 4) a6 b6 (by simpa [F.len] using e)
    subst hr
    have hc : c = c' := by
      rcases a5 with ⟨e1, e2⟩ | ⟨g1, o1, cap1, e1, _, _, l1⟩
      · rcases b5 with ⟨e3, e4⟩ | ⟨g2, o2, cap2, e3, _, _, _⟩
        · rw [F.len_zero e2, F.len_zero e4]
        · rw [e1] at e3; cases e3
      · rcases b5 with ⟨e3, e4⟩ | ⟨g2, o2, cap2, e3, _, _, l2⟩
        · rw [e1] at e3; cases e3
        · rw [e1] at e3
          injection e3 with e5 e6 e7
          injection e5 with e5
          injection e5 with e5 e8
          subst e5 e8
          exact lies_det c c' g1 o1 l1 l2 e6
    rw [hc]

theorem block4' {w : World} {g : Nat} {a b c d : Value} {t : TypeId} (h : w.heap[g]? = some (.cells #[a, b, c, d] t (0, 0))) :
    w.cell? ⟨g, 0, none⟩ = some a ∧ w.cell? ⟨g, 1, none⟩ = some b ∧ w.cell? ⟨g, 2, none⟩ = some c ∧ w.cell? ⟨g, 3, none⟩ = some d ∧
    w.frozen? ⟨g, 0, none⟩ = false ∧ w.frozen? ⟨g, 1, none⟩ = false ∧ w.frozen? ⟨g, 2, none⟩ = false ∧ w.frozen? ⟨g, 3, none⟩ = false := by
  simp [World.cell?, World.frozen?, h]
/-- The block g is as it was. -/
theorem blockB {X w2 : World} {g B : Nat} {o : Obj} (hX : X.heap[g]? = some o) (hlt : g < B) (hb : Below B X w2) : w2.heap[g]? = some o := by rw [hb.block g hlt]; exact hX


/-- A list that is known to be right at its level. -/
def GoodE (W0 : World) (B : Nat) (y : Addr × Nat × Int) : Prop := y.1.block < B ∧ 1 ≤ y.2.2 ∧ y.2.2 ≤ 20 ∧ ∀ f, Lies W0 (· < B) f y.1.block y.1.off → f.len = y.2.1 → f.right (20 - y.2.2).toNat = true
/-- .. or one that is too great to stand here. -/
def InvE (W0 : World) (B : Nat) (M : List (Addr × Nat × Int)) (N : Nat) : Prop := ∀ y ∈ M, GoodE W0 B y ∨ (y.1.block < B ∧ ∀ f, Lies W0 (· < B) f y.1.block y.1.off → f.len = y.2.1 → N < f.size)
def RtRes (W0 : World) (B b : Nat) (M : List (Addr × Nat × Int)) (r : Bool) (w : World) (e : Ending) (w' : World) : Prop :=
  e = .returned (.bool r) ∧ w.grownBy w' (some b) ∧ (r = true → ∃ M', LvMap w' b M' ∧ ∀ y ∈ M', y ∈ M ∨ GoodE W0 B y)
def RightOk (D : Nat) : Prop := ∀ (W0 : World) (B b d : Nat) (x : Nd) (xv : Value) (lv : Int) (M : List (Addr × Nat × Int)) (w : World), x.kids.size < D → (∀ g, g < B → w.heap[g]? = W0.heap[g]?) → B ≤ b → b < w.heap.size →
  lv = 21 - (d : Int) → d ≤ 20 → x.ok → KidsAt W0 (· < B) x.kids xv → LvMap w b M → InvE W0 B M x.kids.size →
  Calls Try.prog 25 #[.map (some b), nodeV x.k x.n x.s xv, .int .i64 lv] w (RtRes W0 B b M (x.right d) w)

theorem grown_refl (w : World) (r : Option Nat) : w.grownBy w r := ⟨rfl, rfl, rfl, Nat.le_refl _, fun _ _ _ => rfl⟩
theorem grown_trans {a b c : World} {r : Option Nat} (h : a.grownBy b r) (k : b.grownBy c r) : a.grownBy c r :=
  ⟨k.os.trans h.os, k.tape.trans h.tape, k.output.trans h.output, Nat.le_trans h.size k.size, fun i hi hne => (k.block i (Nat.lt_of_lt_of_le hi h.size) hne).trans (h.block i hi hne)⟩
theorem grown_below {a b : World} {r : Option Nat} (h : Below a.heap.size a b) : a.grownBy b r := ⟨h.os, h.tape, h.output, h.size, fun k hk _ => h.block k hk⟩
theorem lv_later {w w' : World} {b : Nat} {M : List (Addr × Nat × Int)} (h : LvMap w b M) (hb : Below w.heap.size w w') : LvMap w' b M := by
  obtain ⟨es, clock, e, he⟩ := h
  have hunf : ∀ (es' : List MapEntry) (M' : List (Addr × Nat × Int)), Ents w es' M' → ∀ x ∈ M', Unf w x.1.block := by
    intro es'
    induction es' with
    | nil => intro M' h x hx; rw [show M' = [] from h] at hx; cases hx
    | cons e es' ih =>
      intro M' h x hx
      obtain ⟨p', c', l', M2, rfl, a, b2, d, hr⟩ := h
      rcases List.mem_cons.1 hx with rfl | hx
      · exact d
      · exact ih M2 hr x hx
  refine ⟨es, clock, by rw [hb.block b (Array.getElem?_eq_some_iff.1 e).1]; exact e, Ents.later _ _ he (fun x hx => ?_)⟩
  obtain ⟨c, t, hc⟩ := hunf _ _ he x hx
  exact hb.block _ (Array.getElem?_eq_some_iff.1 hc).1

theorem drop_size : ∀ (f : F) (i : Nat), (f.drop i).size ≤ f.size
  | f, 0 => by simp [F.drop]
  | .nil, i + 1 => by simp [F.drop]
  | .cons _ _ _ _ r, i + 1 => by have := drop_size r i; simp [F.drop, F.size]; omega

def RtRel (W0 : World) (B b : Nat) (M : List (Addr × Nat × Int)) (p0 : Addr) (c : F) (lv : Int) (d : Nat) (rr : Bool) (w : World) (s37 : Value) (wr : World) : Prop :=
  ∃ (i : Nat) (Mi : List (Addr × Nat × Int)), s37 = .int .i64 i ∧ i ≤ c.len ∧ Hid ((c.drop i).right d = rr) ∧ Hid (LvMap wr b Mi) ∧ (∀ y ∈ Mi, y ∈ M ∨ y = (p0, c.len, lv) ∨ GoodE W0 B y) ∧ w.grownBy wr (some b)

set_option maxRecDepth 30000 in
set_option maxHeartbeats 2000000 in
theorem right_step (D : Nat) (IH : RightOk D) : RightOk (D + 1) := by
  rintro W0 B b d ⟨k, n, s, c⟩ xv lv M w hD hag hBb hbw hlv hd hok hx hM hI
  simp only at hD hok hx hI ⊢
  obtain ⟨rr, hrr⟩ : ∃ rr, Nd.right ⟨k, n, s, c⟩ d = rr := ⟨_, rfl⟩
  rw [hrr]
  have HIH := Lib.hid IH
  have HAG := Lib.hid hag
  have HLV := Lib.hid hlv
  have HOK := Lib.hid hok
  have HX := Lib.hid hx
  have HM := Lib.hid hM
  have HI := Lib.hid hI
  have HRR := Lib.hid hrr
  obtain ⟨xa, xc, rfl⟩ := hx.shape
  clear IH hag hok hx hM hI hrr
  rcases Nat.eq_zero_or_pos d with h0 | h0
  · subst h0
    obtain rfl : lv = 21 := by omega
    have hr : Hid (rr = false) := Lib.hid (by rw [← HRR.out]; simp [Nd.right])
    clear hlv
    unfold nodeV
    go_enter Try.func25, Try.ntmps25
    go_wp2_with fail
    go_ret
    exact ⟨ret_bool hr.out.symm, World.grownBy_alloc w _ _, fun h => by rw [hr.out] at h; cases h⟩
  · have hlv20 : lv ≤ 20 := by omega
    have hlv1 : 1 ≤ lv := by omega
    clear hlv
    have HPL := Lib.hid (fun w => plain_prog k n s xa c.len xc w)
    obtain ⟨pb, hpb⟩ : ∃ pb, plainB k n s c.len = pb := ⟨_, rfl⟩
    rw [hpb] at HPL
    cases pb with
    | false =>
      have hr : Hid (rr = false) := Lib.hid (by rw [← HRR.out]; simp [Nd.right, hpb])
      clear hpb
      unfold nodeV at HPL ⊢
      go_enter Try.func25, Try.ntmps25
      go_wp2_with fail
      refine (HPL.out _).mono ?_
      rintro e w1 ⟨rfl, hb1⟩
      go_wp2_with fail
      go_ret
      exact ⟨ret_bool hr.out.symm, grown_trans (World.grownBy_alloc w _ _) (grown_below hb1), fun h => by rw [hr.out] at h; cases h⟩
    | true =>
      have hcr : Hid (c.right (d - 1) = rr) := Lib.hid (by rw [← HRR.out]; simp [Nd.right, hpb, h0])
      clear hpb
      unfold nodeV at HPL ⊢
      rcases Nat.eq_zero_or_pos c.len with hc0 | hc0
      · have hr : Hid (rr = true) := Lib.hid (by rw [← hcr.out, F.len_zero hc0]; rfl)
        have hne : ((c.len : Int) == 0) = true := by rw [hc0]; rfl
        clear hc0
        go_enter Try.func25, Try.ntmps25
        go_wp2_with fail
        refine (HPL.out _).mono ?_
        rintro e w1 ⟨rfl, hb1⟩
        obtain ⟨a0, a1, a2, a3, _, _, _, _⟩ := block4' (blockB (heap_alloc_new w _) (by simp) hb1)
        have HM1 : Hid (LvMap w1 b M) := Lib.hid (lv_later HM.out (((Below.refl _ w).alloc (Nat.le_refl _) _).trans (hb1.mono (by simp))))
        have hg1 : Hid (w.grownBy w1 (some b)) := Lib.hid (grown_trans (World.grownBy_alloc w _ _) (grown_below hb1))
        clear hb1
        go_wp2_with fail
        go_ret
        exact ⟨ret_bool hr.out.symm, hg1.out, fun _ => ⟨M, HM1.out, fun y hy => .inl hy⟩⟩
      · obtain ⟨g, o, cap, hkv, hgB, hunf, hl⟩ := HX.out.unf hc0
        injection hkv with e1 _ e2
        subst e1 e2
        have hne : ((c.len : Int) == 0) = false := by simp; omega
        have hcI : (0 : Int) < (c.len : Int) := by omega
        have hclim := HOK.out.2.2.1
        simp only at hclim
        have hcI2 : (c.len : Int) ≤ 268435456 := by omega
        have HL := Lib.hid hl
        have HUN := Lib.hid hunf
        have hne2 : Hid (∀ (M' : List (Addr × Nat × Int)) (w' : World), LvMap w' b M' → b ≠ g) := Lib.hid (fun _ _ _ => by omega)
        clear hl hunf hclim
        go_enter Try.func25, Try.ntmps25
        go_wp2_with fail
        refine (HPL.out _).mono ?_
        rintro e w1 ⟨rfl, hb1⟩
        obtain ⟨a0, a1, a2, a3, _, _, _, _⟩ := block4' (blockB (heap_alloc_new w _) (by simp) hb1)
        have hb01 : Below w.heap.size w w1 := ((Below.refl _ w).alloc (Nat.le_refl _) _).trans (hb1.mono (by simp))
        have HM1 : Hid (LvMap w1 b M) := Lib.hid (lv_later HM.out hb01)
        have hlt1 : w.heap.size < w1.heap.size := by have := hb1.size; simp at this; omega
        have HB01 := Lib.hid hb01
        clear hb1 hb01
        go_wp2_with fail
        refine (place_prog g o c.len xc w1 hc0).mono ?_
        rintro e w2 ⟨rfl, hb2⟩
        have HM2 : Hid (LvMap w2 b M) := Lib.hid (lv_later HM1.out hb2)
        have HB02 : Hid (Below w.heap.size w w2) := Lib.hid (HB01.out.trans (hb2.mono HB01.out.size))
        have hunf2 : Unf w2 g := HUN.out.of (by rw [HB02.out.block g (by omega)]; exact HAG.out g hgB)
        have b3 : w2.cell? ⟨w.heap.size, 3, none⟩ = some (.slice (some ⟨g, o, none⟩) c.len xc) := by rw [hb2.cell (p := ⟨w.heap.size, 3, none⟩) hlt1]; exact a3
        have hs2 : w.heap.size < w2.heap.size := by have := hb2.size; omega
        have HS2 := Lib.hid hs2
        obtain ⟨l, hrun, hlm⟩ := lookup_lv w2 b M HM2.out ⟨g, o, none⟩ c.len hunf2
        unfold keyV at hrun
        have HU2 := Lib.hid hunf2
        clear hb2 a0 a1 a2 a3 hunf2
        by_cases hge : lv ≤ l
        · have hr : Hid (rr = true) := Lib.hid (by
            rw [← hcr.out]
            rcases hlm with h | h
            · omega
            · rcases HI.out _ h with hgd | ⟨_, hbig⟩
              · have := hgd.2.2.2 c HL.out rfl
                exact right_mono c _ _ (by have := HLV.out; have := hgd.2.2.1; simp only at this ⊢; omega) this
              · have := hbig c HL.out rfl
                omega)
          clear hlm
          go_wp2_with fail
          go_ret
          exact ⟨ret_bool hr.out.symm, grown_below HB02.out, fun _ => ⟨M, HM2.out, fun y hy => .inl hy⟩⟩
        · have hge2 : ¬ lv ≤ l := hge
          clear hlm
          go_wp2_with fail
          refine (place_prog g o c.len xc w2 hc0).mono ?_
          rintro e w3 ⟨rfl, hb3⟩
          have HM3 : Hid (LvMap w3 b M) := Lib.hid (lv_later HM2.out hb3)
          have HB03 : Hid (Below w.heap.size w w3) := Lib.hid (HB02.out.trans (hb3.mono HB02.out.size))
          have hunf3 : Unf w3 g := HUN.out.of (by rw [HB03.out.block g (by omega)]; exact HAG.out g hgB)
          have d3 : w3.cell? ⟨w.heap.size, 3, none⟩ = some (.slice (some ⟨g, o, none⟩) c.len xc) := by rw [hb3.cell (p := ⟨w.heap.size, 3, none⟩) HS2.out]; exact b3
          obtain ⟨w4, M4, hup, hM4, hsub, hg4⟩ := update_lv w3 b M HM3.out ⟨g, o, none⟩ c.len hunf3 lv
          unfold keyV at hup
          have e3 : w4.cell? ⟨w.heap.size, 3, none⟩ = some (.slice (some ⟨g, o, none⟩) c.len xc) := hg4.cell d3 (fun h => by have h' : w.heap.size = b := Option.some.inj h; omega)
          have HM4 := Lib.hid hM4
          have HG4 : Hid (w.grownBy w4 (some b)) := Lib.hid (grown_trans (grown_below HB03.out) hg4)
          have HSUB := Lib.hid hsub
          clear hb3 hM4 hg4 hunf3 hrun b3 hsub
          go_wp2_with fail
          go_loopw [37] (RtRel W0 B b M ⟨g, o, none⟩ c lv (d - 1) rr w) (fun i _ => c.len - (intOf i).toNat)
          case atStart => exact ⟨0, M4, rfl, by omega, by simpa [F.drop] using hcr, HM4, fun y hy => (HSUB.out y hy).imp id .inl, HG4.out⟩
          case round =>
            obtain ⟨i, Mi, rfl, hi, hri, hMi, hsb, hg⟩ := hrel
            by_cases hlt : i < c.len
            · have hi0 : (0 : Int) ≤ (i : Int) := by omega
              have hi1 : (i : Int) ≤ 268435456 := by omega
              obtain ⟨k1, n1, s1, c1, hd1⟩ := F.drop_at c i hlt
              have hwB : ∀ z, z < B → wr.heap[z]? = W0.heap[z]? := fun z hz => by rw [hg.block z (by omega) (by intro h; injection h with h; omega)]; exact HAG.out z hz
              have hld := Lies.drop i c g o HL.out
              rw [hd1] at hld
              obtain ⟨⟨v1, p0, p1, p2, p3, hk1⟩, _⟩ := lies_cons.1 hld
              obtain ⟨a1, b1, rfl⟩ := hk1.shape
              have cw : ∀ (z : Nat) (u : Value), W0.cell? ⟨g, z, none⟩ = some u → wr.cell? ⟨g, z, none⟩ = some u := fun z u h => by rw [← h]; exact World.cell?_of_block (a := ⟨g, z, none⟩) (hwB g hgB)
              have q0 := cw _ _ p0
              have q1 := cw _ _ p1
              have q2 := cw _ _ p2
              have q3 := cw _ _ p3
              have hokd := F.drop_ok c i HOK.out.2.2.2
              rw [hd1] at hokd
              have hsz : c1.size < c.size := by
                have e1 := drop_size c i
                rw [hd1] at e1
                simp only [F.size] at e1
                omega
              have hInv : InvE W0 B Mi c1.size := by
                intro y hy
                rcases hsb y hy with h | h | h
                · rcases HI.out y h with h2 | ⟨h2, h3⟩
                  · exact .inl h2
                  · exact .inr ⟨h2, fun f hf he => by have := h3 f hf he; omega⟩
                · subst h
                  exact .inr ⟨hgB, fun f hf he => by rw [← lies_det c f g o HL.out hf he.symm]; exact hsz⟩
                · exact .inl h
              have hcall := Lib.hid (fun (wx : World) (hbx : Below wr.heap.size wr wx) (hlx : b < wx.heap.size) => HIH.out W0 B b (d - 1) ⟨k1, n1, s1, c1⟩ (.slice a1 c1.len b1) (lv + 1) Mi wx (by simp only; omega)
                (fun z hz => by rw [hbx.block z (by have := hg.size; omega)]; exact hwB z hz) hBb hlx (by have := HLV.out; omega) (by omega) ⟨hokd.1, hokd.2.1, hokd.2.2.1, hokd.2.2.2.1⟩ hk1 (lv_later hMi.out hbx) hInv)
              have hstep : Hid ((Nd.right ⟨k1, n1, s1, c1⟩ (d - 1) && (c.drop (i + 1)).right (d - 1)) = rr) := Lib.hid (by
                rw [← hri.out, hd1, F.right, Nd.right]; simp [Bool.and_assoc])
              obtain ⟨rk, hrk⟩ : ∃ rk, Nd.right ⟨k1, n1, s1, c1⟩ (d - 1) = rk := ⟨_, rfl⟩
              rw [hrk] at hcall hstep
              unfold nodeV at hcall
              have HWB := Lib.hid hwB
              have HSB := Lib.hid hsb
              have hbr : b < wr.heap.size := by have := hg.size; omega
              clear hrk hld hk1 p0 p1 p2 p3 cw hokd hInv hd1 hwB hsb hup e3 d3
              go_wp2_with fail
              have hcl := hcall.out (wr.alloc (.cells #[.int .i64 k1, .int .u64 n1, .string s1, .slice a1 c1.len b1] 27)) ((Below.refl _ wr).alloc (Nat.le_refl _) _) (by simp; omega)
              have HCL := Lib.hid hcl
              clear hcl hcall
              refine HCL.out.mono ?_
              rintro e w6 ⟨rfl, hg6, h6⟩
              have HG6 : Hid (w.grownBy w6 (some b)) := Lib.hid (grown_trans hg (grown_trans (World.grownBy_alloc wr _ _) hg6))
              have H6 := Lib.hid h6
              clear HCL hg6 h6
              cases rk with
              | false =>
                have hr : Hid (rr = false) := Lib.hid (by rw [← hstep.out]; rfl)
                go_wp2_with fail
                go_ret
                exact ⟨ret_bool hr.out.symm, HG6.out, fun h => by rw [hr.out] at h; cases h⟩
              | true =>
                obtain ⟨M6, hM6, hs6⟩ := H6.out rfl
                have HM6 := Lib.hid hM6
                have HS6 := Lib.hid hs6
                clear hM6 hs6 H6
                go_wp2_with fail
                go_roundw
                case rel =>
                  refine ⟨i + 1, M6, by go_num, by omega, Lib.hid (by simpa using hstep.out), HM6, fun y hy => ?_, HG6.out⟩
                  rcases HS6.out y hy with h | h
                  · exact HSB.out y h
                  · exact .inr (.inr h)
                case measure => rw [intOf_int, intOf_int]; omega
            · obtain rfl : i = c.len := by omega
              have hr : Hid (rr = true) := Lib.hid (by rw [← hri.out, F.drop_end]; rfl)
              have HSB := Lib.hid hsb
              clear hsb
              go_wp2_with fail
              go_ret
              refine ⟨ret_bool hr.out.symm, hg, fun _ => ⟨Mi, hMi.out, fun y hy => ?_⟩⟩
              rcases HSB.out y hy with h | h | h
              · exact .inl h
              · subst h
                refine .inr ⟨hgB, hlv1, hlv20, fun f hf he => ?_⟩
                rw [← lies_det c f g o HL.out hf he.symm]
                have h1 := hcr.out
                rw [hr.out] at h1
                rw [show (20 - lv).toNat = d - 1 by have := HLV.out; omega]
                exact h1
              · exact .inr h

theorem right_ok (D : Nat) : RightOk D := by
  induction D with
  | zero => intro _ _ _ _ _ _ _ _ _ h; exact absurd h (Nat.not_lt_zero _)
  | succ D ih => exact right_step D ih

set_option maxRecDepth 30000 in
set_option maxHeartbeats 1000000 in
theorem right_prog (x : Nd) (xv : Value) (w : World) (hok : x.ok) (hx : KidsAt w (· < w.heap.size) x.kids xv) :
    Calls Try.prog 13 #[nodeV x.k x.n x.s xv] w fun e w' => e = .returned (.bool (x.right 20)) ∧ Below w.heap.size w w' := by
  obtain ⟨xa, xc, rfl⟩ := hx.shape
  have hmm := @run_makeMap Try.prog
  have hcall := Lib.hid (right_ok (x.kids.size + 1) ((w.alloc (.cells #[.int .i64 x.k, .int .u64 x.n, .string x.s, .slice xa x.kids.len xc] 27)).alloc (.map #[] 0)) w.heap.size (w.heap.size + 1) 20 x (.slice xa x.kids.len xc) 1 []
    ((w.alloc (.cells #[.int .i64 x.k, .int .u64 x.n, .string x.s, .slice xa x.kids.len xc] 27)).alloc (.map #[] 0)) (by omega) (fun _ _ => rfl) (by omega) (by simp) (by omega) (by omega) hok
    (hx.below (((Below.refl _ w).alloc (Nat.le_refl _) _).alloc (by simp) _)) ⟨#[], 0, (by have := heap_alloc_new (w.alloc (.cells #[.int .i64 x.k, .int .u64 x.n, .string x.s, .slice xa x.kids.len xc] 27)) (.map #[] 0); simpa using this), rfl⟩ (fun _ h => by cases h))
  obtain ⟨r, hr⟩ : ∃ r, x.right 20 = r := ⟨_, rfl⟩
  rw [hr] at hcall ⊢
  unfold nodeV at hcall ⊢
  clear hx hok hr
  go_enter Try.func13, Try.ntmps13
  go_wp2_with fail
  refine hcall.out.mono ?_
  rintro e w1 ⟨rfl, hg, _⟩
  have hb : Below w.heap.size w w1 := (((Below.refl _ w).alloc (Nat.le_refl _) _).alloc (by simp) _).trans ⟨hg.os, hg.tape, hg.output, hg.size, fun k hk => hg.block k (by simp; omega) (fun h => by have h' : k = w.heap.size + 1 := Option.some.inj h; omega)⟩
  clear hcall hg
  go_wp2
  go_ret
  exact ⟨rfl, hb⟩
end Go.Proofs.Ytaojcbdljgcfgaa
