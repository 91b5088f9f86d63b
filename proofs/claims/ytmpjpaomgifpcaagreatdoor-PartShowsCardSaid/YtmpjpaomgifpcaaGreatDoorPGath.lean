/- part's gathered. -/
import Derived.Test.YtmpjpaomgifpcaaGreatDoorPRep2
namespace Go.Proofs.YtmpjpaomgifpcaaGreatDoor
open Go.RowKit

theorem leads_at (k : ByteArray) (n : Nat) (b : Nat) (fk : ByteArray) (p : Nat) (s : Bool) (si : Int) (hsi : si = bitN s) (w : World) (hk : k.size = 32) (hf : fk.size = 32) (hp : p < 256)
    (c2 : w.cell? ⟨b, 2, none⟩ = some (.string fk)) (c4 : w.cell? ⟨b, 4, none⟩ = some (.int .i64 p)) :
    Calls Tryz.prog 83 #[askV k n, pp b, .int .u8 si] w fun e w' => e = .returned (.bool (leadB (ks k) n (ks fk) p s)) ∧ Below w.heap.size w w' := by
  subst hsi; exact leads_prog k n b fk p s w hk hf hp c2 c4

theorem undP_len (l : List UInt8) (n : Nat) : ∀ (t : PT) (a : List Pr), undP l n t = some a → a.length ≤ t.leaves
  | .stub _, _, h => by cases h
  | .leaf k v, a, h => by
    rw [undP] at h
    split at h
    · obtain rfl : [] = a := by simpa using h
      exact Nat.zero_le _
    · obtain rfl : [(k, v)] = a := by simpa using h
      exact Nat.le_refl _
  | .fork p k z o, a, h => by
    rw [undP] at h
    obtain ⟨x, y, h1, h2, rfl⟩ := catO_some h
    have e1 : x.length ≤ z.leaves := by
      split at h1
      · exact undP_len l n z x h1
      · obtain rfl : [] = x := by simpa using h1
        exact Nat.zero_le _
    have e2 : y.length ≤ o.leaves := by
      split at h2
      · exact undP_len l n o y h2
      · obtain rfl : [] = y := by simpa using h2
        exact Nat.zero_le _
    rw [List.length_append, PT.leaves]; omega

/-- What is gathered behind l: in a slice that owns it; or it is not all known. -/
def GP (w' : World) (B : Nat) (l : List Pr) (o : Option (List Pr)) (v : Value) : Prop := match o with
  | some r => POwn w' B v (l ++ r)
  | none => v = .slice none 0 0
def GResP (w : World) (B : Nat) (v0 : Value) (l : List Pr) (o : Option (List Pr)) (e : Ending) (w' : World) : Prop :=
  ∃ v, e = .returned (.tuple #[v, .bool o.isSome]) ∧ GP w' B l o v ∧ Grew w v0 w' v
theorem Grew.toNil (w : World) (v : Value) : Grew w v w (.slice none 0 0) := ⟨⟨rfl, rfl, rfl, Nat.le_refl _, fun _ _ _ => rfl⟩, (fun _ h => by cases h)⟩
theorem GP.later {w w' : World} {B : Nat} {l : List Pr} {o : Option (List Pr)} {v : Value} (h : GP w B l o v) (hb : Below w.heap.size w w') : GP w' B l o v := by
  cases o with
  | none => exact h
  | some r => exact POwn.later h hb
/-- The sides' answers, one behind the other. -/
def accG (S : Nat → Option (List Pr)) : Nat → Option (List Pr)
  | 0 => some []
  | j + 1 => catO (accG S j) (S j)
def GaRel (S : Nat → Option (List Pr)) (B : Nat) (l : List Pr) (w : World) (v : Value) (s0 s8 s54 : Value) (wr : World) : Prop :=
  ∃ j : Nat, s54 = .int .i64 j ∧ j ≤ 2 ∧ s8 = .bool (accG S j).isSome ∧ Hid (GP wr B l (accG S j) s0) ∧ Hid (Grew w v wr s0)
theorem accG_le (S : Nat → Option (List Pr)) (L : Nat → Nat) (h : ∀ j a, S j = some a → a.length ≤ L j) : ∀ (j : Nat) (r : List Pr), accG S j = some r → r.length ≤ ((List.range j).map L).sum
  | 0, r, h0 => by obtain rfl : [] = r := by simpa [accG] using h0
                   exact Nat.zero_le _
  | j + 1, r, h0 => by
    rw [accG] at h0
    obtain ⟨x, y, h1, h2, rfl⟩ := catO_some h0
    have := accG_le S L h j x h1
    have := h j y h2
    rw [List.range_succ, List.map_append, List.sum_append, List.length_append]; simp; omega

theorem ask_cells {w : World} {b : Nat} {k : ByteArray} {n : Int} (h : w.heap[b]? = some (.cells #[.string k, .int .i64 n] 46 (0, 0))) : w.cell? ⟨b, 0, none⟩ = some (.string k) ∧ w.cell? ⟨b, 1, none⟩ = some (.int .i64 n) := two_cells h

theorem catO_nil (a : Option (List Pr)) : catO (some []) a = a := by cases a <;> rfl

set_option maxRecDepth 30000 in
set_option maxHeartbeats 2000000 in
theorem gathered_part (k : ByteArray) (n : Nat) (hk : k.size = 32) (w0 : World) (t : PT) : ∀ (b : Nat) (w : World) (v : Value) (l : List Pr), t.ok → PRep w0 t b → Below w0.heap.size w0 w → POwn w w0.heap.size v l → l.length + t.leaves ≤ 100000 →
    Calls Tryz.prog 45 #[v, pp b, askV k n] w (GResP w w0.heap.size v l (undP (ks k) n t)) := by
  induction t with
  | stub h =>
    intro b w v l _ hr hb hown hl
    obtain ⟨_, d1, _⟩ := StubAt.cells hr
    have c1 := cellA (.cells #[.string k, .int .i64 n] 46) (cellB hb d1)
    clear hb hown hr hl d1
    unfold pp askV undP
    go_enter Tryz.func45, Tryz.ntmps45
    go_wp2
    go_ret2
    exact ⟨_, rfl, rfl, (Grew.alloc _ _ _).trans (Grew.toNil _ _)⟩
  | leaf k' v' =>
    intro b w v l hok hr hb hown hl
    obtain ⟨d0, d1, d2, d3, _⟩ := NodeAt.cells8 (show NodeAt w0 b true k' v' 0 _ _ _ from hr)
    have c0 := cellA (.cells #[.string k, .int .i64 n] 46) (cellB hb d0)
    have c1 := cellA (.cells #[.string k, .int .i64 n] 46) (cellB hb d1)
    have c2 := cellA (.cells #[.string k, .int .i64 n] 46) (cellB hb d2)
    have c3 := cellA (.cells #[.string k, .int .i64 n] 46) (cellB hb d3)
    have hcom := Lib.hid (fun W => com_prog k k' W hk hok.1)
    obtain ⟨C, hC⟩ : ∃ C, C = comL (ks k) (ks k') := ⟨_, rfl⟩
    unfold undP
    rw [← hC] at hcom ⊢
    have HB := Lib.hid hb
    have HO := Lib.hid hown
    have hsz := hb.size
    have hl1 : l.length + 1 ≤ 100000 := hl
    clear hb hown hr hl d0 d1 d2 d3 hC hok
    unfold pp askV
    by_cases hc : C < n
    · rw [if_pos hc]
      have hcI : decide ((C : Int) < (n : Int)) = true := by simpa using hc
      have hcI2 : (C : Int) < (n : Int) := by omega
      clear hc
      go_enter Tryz.func45, Tryz.ntmps45
      go_wp2_with fail
      go_quiet ((go_at_call 82; exact quietS (hcom.out _)))
      go_wp2
      go_ret2
      refine ⟨_, rfl, ?_, (Grew.alloc _ _ _).trans (Grew.drewN _ _ _)⟩
      show POwn _ _ _ (l ++ [])
      rw [List.append_nil]
      exact POwn.drewN (POwn.alloc HO.out _) _
    · rw [if_neg hc]
      have hcI : decide ((C : Int) < (n : Int)) = false := by simpa using hc
      have hcI2 : ¬ (C : Int) < (n : Int) := by omega
      clear hc
      go_enter Tryz.func45, Tryz.ntmps45
      go_wp2_with fail
      go_quiet ((go_at_call 82; exact quietS (hcom.out _)))
      go_wp2_with fail
      obtain ⟨W, hW⟩ : ∃ W, W = (w.alloc (.cells #[.string k, .int .i64 n] 46)).drewN nq := ⟨_, rfl⟩
      have HW := Lib.hid hW
      have hWs : w0.heap.size ≤ W.heap.size := by rw [hW]; simp; omega
      have e2 : W.cell? ⟨b, 2, none⟩ = some (.string k') := by rw [hW]; exact c2
      have e3 : W.cell? ⟨b, 3, none⟩ = some (.string v') := by rw [hW]; exact c3
      have HOW : Hid (POwn W w0.heap.size v l) := Lib.hid (by rw [hW]; exact POwn.drewN (POwn.alloc HO.out _) _)
      have HGW : Hid (Grew w v W v) := Lib.hid (by rw [hW]; exact (Grew.alloc _ _ _).trans (Grew.drewN _ _ _))
      rw [← hW]
      clear hW c0 c1 c2 c3
      have hszA : w0.heap.size ≤ (W.alloc (.cells #[.string k', .string v'] 93)).drew.heap.size := by show w0.heap.size ≤ (W.alloc (.cells #[.string k', .string v'] 93)).heap.size; simp; omega
      go_region_law (refine step_app1 rfl _ _ (by rfl) w0.heap.size v l (by rfl) (show POwn (W.alloc (.cells #[.string k', .string v'] 93)).drew w0.heap.size v l from POwn.alloc HOW.out _) W.heap.size 1 (k', v') (by rfl) (heap_at_alloc W _) hl1 (hszA) ?_; intro v2 w2 hown2 hgr2)
      all_goals (
        go_wp2
        go_ret2
        exact ⟨_, rfl, hown2, (HGW.out.trans ((Grew.alloc W (.cells #[.string k', .string v'] 93) v).trans (Grew.drew _ _))).trans hgr2⟩)
  | fork p k' z o iz io =>
    intro b w v l hok hr hb hown hl
    obtain ⟨hp, hk', hzo, hoo⟩ := hok
    obtain ⟨bz, bo, hnode, hrz, hro⟩ := hr
    obtain ⟨d0, d1, d2, _, d4, d5, d6, _⟩ := NodeAt.cells8 hnode
    obtain ⟨S, hS⟩ : ∃ S : Nat → Option (List Pr), S = fun j => if j = 0 then (if leadB (ks k) n (ks k') p false then undP (ks k) n z else some []) else (if leadB (ks k) n (ks k') p true then undP (ks k) n o else some []) := ⟨_, rfl⟩
    have hgoal : undP (ks k) n (.fork p k' z o) = accG S 2 := by
      rw [undP, accG, accG, accG, hS, catO_nil]; rfl
    rw [hgoal]
    have hl1 : l.length + z.leaves ≤ 100000 := by simp only [PT.leaves] at hl; omega
    have hround : ∀ j, j < 2 → ∃ (A : Option (List Pr)) (bj : Nat) (sj : Bool), (j = 0 ∧ bj = bz ∨ j = 1 ∧ bj = bo) ∧ S j = (if leadB (ks k) n (ks k') p sj then A else some []) ∧ (j : Int) = bitN sj ∧
        (∀ (r : List Pr) (W : World) (u : Value), accG S j = some r → Below w0.heap.size w0 W → POwn W w0.heap.size u (l ++ r) → Calls Tryz.prog 45 #[u, pp bj, askV k n] W (GResP W w0.heap.size u (l ++ r) A)) := by
      intro j hj
      rcases Nat.eq_zero_or_pos j with h0 | h0
      · subst h0
        refine ⟨undP (ks k) n z, bz, false, .inl ⟨rfl, rfl⟩, by rw [hS]; rfl, rfl, fun r W u hr h1 h2 => iz bz W u (l ++ r) hzo hrz h1 h2 ?_⟩
        obtain rfl : [] = r := by simpa [accG] using hr
        rw [List.append_nil]; exact hl1
      · obtain rfl : j = 1 := by omega
        refine ⟨undP (ks k) n o, bo, true, .inr ⟨rfl, rfl⟩, by rw [hS]; rfl, rfl, fun r W u hr h1 h2 => io bo W u (l ++ r) hoo hro h1 h2 ?_⟩
        rw [accG, accG, catO_nil, hS] at hr
        have : r.length ≤ z.leaves := by
          simp only [if_true] at hr
          split at hr
          · exact undP_len _ _ z r hr
          · obtain rfl : [] = r := by simpa using hr
            exact Nat.zero_le _
        rw [List.length_append]; simp only [PT.leaves] at hl; omega
    have HR := Lib.hid hround
    have c0 := cellA (.cells #[.string k, .int .i64 n] 46) (cellB hb d0)
    have c1 := cellA (.cells #[.string k, .int .i64 n] 46) (cellB hb d1)
    have c5 := cellA (.cells #[.string k, .int .i64 n] 46) (cellB hb d5)
    have c6 := cellA (.cells #[.string k, .int .i64 n] 46) (cellB hb d6)
    have HB := Lib.hid hb
    have HO := Lib.hid hown
    have hsz := hb.size
    have D2 := Lib.hid d2
    have D4 := Lib.hid d4
    clear hgoal hS hround hb hown hnode hrz hro d0 d1 d2 d4 d5 d6 hl hl1 iz io hzo hoo
    unfold pp askV
    go_enter Tryz.func45, Tryz.ntmps45
    go_wp2_with fail
    go_quiet (fail)
    obtain ⟨W1, hW1⟩ : ∃ W, W = (w.alloc (.cells #[.string k, .int .i64 n] 46)).drewN nq := ⟨_, rfl⟩
    have hblk1 : W1.heap[w.heap.size]? = some (.cells #[.string k, .int .i64 n] 46 (0, 0)) := by rw [hW1]; exact heap_alloc_new _ _
    have HBL1 := Lib.hid hblk1
    have hlt1 : w.heap.size < W1.heap.size := by rw [hW1]; simp
    have HB1 : Hid (Below w0.heap.size w0 W1) := Lib.hid (by rw [hW1]; exact (HB.out.trans ((Below.refl _ w).alloc hsz _)).trans ((drewN_below _ _).mono (by simp; omega)))
    have HO1 : Hid (POwn W1 w0.heap.size v l) := Lib.hid (by rw [hW1]; exact POwn.drewN (POwn.alloc HO.out _) _)
    have HG1 : Hid (Grew w v W1 v) := Lib.hid (by rw [hW1]; exact (Grew.alloc _ _ _).trans (Grew.drewN _ _ _))
    have HNE : Hid (v.ownBlock ≠ some w.heap.size) := Lib.hid (ownN_ne HO.out (Nat.le_refl _))
    have e0 : W1.cell? ⟨b, 0, none⟩ = some (.bool false) := by rw [hW1]; exact c0
    have e5 : W1.cell? ⟨b, 5, none⟩ = some (pp bz) := by rw [hW1]; exact c5
    have e6 : W1.cell? ⟨b, 6, none⟩ = some (pp bo) := by rw [hW1]; exact c6
    rw [← hW1]
    clear hblk1 hW1 c0 c1 c5 c6
    go_wp2_with fail
    refine (sides_prog b (some ⟨bz, 0, none⟩) (some ⟨bo, 0, none⟩) W1 e5 e6).mono ?_
    rintro e W3 ⟨g, rfl, hg, hblk3, hb3⟩
    have HB3 : Hid (Below w0.heap.size w0 W3) := Lib.hid (HB1.out.trans (hb3.mono HB1.out.size))
    have HO3 : Hid (POwn W3 w0.heap.size v l) := Lib.hid (POwn.later HO1.out hb3)
    have HG3 : Hid (Grew w v W3 v) := Lib.hid (HG1.out.trans (Grew.ofBelow _ hb3))
    have HBL3 : Hid (W3.heap[w.heap.size]? = some (.cells #[.string k, .int .i64 n] 46 (0, 0))) := Lib.hid (by rw [hb3.block _ hlt1]; exact HBL1.out)
    have HSB3 := Lib.hid hblk3
    have hgs := block_lt hblk3
    have hNg : Hid (v.ownBlock ≠ some g) := Lib.hid (ownN_ne HO1.out hg)
    have hxs : w.heap.size < W3.heap.size := Nat.lt_of_lt_of_le hlt1 hb3.size
    have hsz3 := HB3.out.size
    clear hb3 hblk3 e0 e5 e6
    go_wp2_with fail
    go_loopw [0, 8, 54] (GaRel S w0.heap.size l W3 v) (fun _ _ i _ => 2 - (intOf i).toNat)
    case atStart => exact ⟨0, rfl, by omega, rfl, Lib.hid (by show POwn _ _ _ (l ++ []); rw [List.append_nil]; exact HO3.out), Lib.hid (Grew.refl _ _)⟩
    case round =>
      obtain ⟨j, rfl, hj, h8, hgp, hgr⟩ := hrel
      have hj0 : (0 : Int) ≤ (j : Int) := by omega
      have hj1 : (j : Int) ≤ 2 := by omega
      have HBR : Hid (Below w0.heap.size w0 wr) := Lib.hid (HB3.out.trans (hgr.out.below hsz3 (POwn.low HO3.out)))
      by_cases hlt : j < 2
      · have hltI : (j : Int) < 2 := by omega
        obtain ⟨A, bj, sj, hjj, hSj, hsj, hcall⟩ := HR.out j hlt
        obtain ⟨y0, y1⟩ := ask_cells (show wr.heap[w.heap.size]? = _ by rw [hgr.out.block hxs HNE.out]; exact HBL3.out)
        have hsb : wr.heap[g]? = some (.cells #[pp bz, pp bo] 73 (0, 0)) := by rw [hgr.out.block hgs hNg.out]; exact HSB3.out
        have hcj : wr.cell? ⟨g, j, none⟩ = some (pp bj) := by
          rcases hjj with ⟨rfl, rfl⟩ | ⟨rfl, rfl⟩
          · exact (two_cells hsb).1
          · exact (two_cells hsb).2
        have e2 := cellB HBR.out D2.out
        have e4 := cellB HBR.out D4.out
        have hlead := Lib.hid (leads_at k n b k' p sj j hsj wr hk hk' hp e2 e4)
        have HCALL := Lib.hid hcall
        have hsr := HBR.out.size
        obtain ⟨ld, hld⟩ : ∃ ld, ld = leadB (ks k) n (ks k') p sj := ⟨_, rfl⟩
        rw [← hld] at hlead hSj
        have HSJ := Lib.hid hSj
        have HSI := Lib.hid hsj
        unfold pp at hlead HCALL hcj
        unfold askV at hlead HCALL
        clear hjj hSj hsj hcall hsb e2 e4 hld
        cases hacc : accG S j with
        | none =>
          have h8' : u8 = .bool false := by rw [h8, hacc]; rfl
          have hgp' : u0 = .slice none 0 0 := by have := hgp.out; rw [hacc] at this; exact this
          subst h8' hgp'
          have HA2 : Hid (accG S (j + 1) = none) := Lib.hid (by rw [accG, hacc]; rfl)
          clear h8 hgp hacc
          go_wp2_with fail
          go_roundw
          case rel => exact ⟨j + 1, by go_num, by omega, by rw [HA2.out]; rfl, Lib.hid (by rw [HA2.out]; exact rfl), hgr⟩
          case measure => simp [intOf]; omega
        | some r =>
          have h8' : u8 = .bool true := by rw [h8, hacc]; rfl
          have hown : Hid (POwn wr w0.heap.size u0 (l ++ r)) := Lib.hid (by have := hgp.out; rw [hacc] at this; exact this)
          have HACC := Lib.hid hacc
          subst h8'
          have hneq : Hid (u0.ownBlock ≠ some w.heap.size) := Lib.hid (fun e => by
            rcases hgr.out.loc _ e with h | h
            · exact HNE.out h
            · omega)
          clear h8 hgp hacc
          cases ld with
          | false =>
            have HA2 : Hid (accG S (j + 1) = some (r ++ [])) := Lib.hid (by rw [accG, HACC.out, HSJ.out]; rfl)
            go_wp2_with fail
            refine hlead.out.mono ?_
            rintro e w5 ⟨rfl, hb5⟩
            have HG5 := Lib.hid (hgr.out.trans (Grew.ofBelow _ hb5))
            have HO5 := Lib.hid (POwn.later hown.out hb5)
            clear hb5
            go_wp2_with fail
            go_roundw
            case rel => exact ⟨j + 1, by go_num, by omega, by rw [HA2.out]; rfl, Lib.hid (by rw [HA2.out, List.append_nil]; exact HO5.out), HG5⟩
            case measure => simp [intOf]; omega
          | true =>
            go_wp2_with fail
            refine hlead.out.mono ?_
            rintro e w5 ⟨rfl, hb5⟩
            have HG5 := Lib.hid (hgr.out.trans (Grew.ofBelow _ hb5))
            have HO5 := Lib.hid (POwn.later hown.out hb5)
            have HB5 := Lib.hid (HBR.out.trans (hb5.mono HBR.out.size))
            have z0 := cellB hb5 y0
            have z1 := cellB hb5 y1
            clear hb5 y0 y1
            go_wp2_with fail
            refine (HCALL.out r w5 u0 HACC.out HB5.out HO5.out).mono ?_
            rintro e w6 ⟨v6, rfl, hgp6, hgr6⟩
            have HGP6 := Lib.hid hgp6
            have HG6 := Lib.hid (HG5.out.trans hgr6)
            have HA2 : Hid (accG S (j + 1) = catO (some r) A) := Lib.hid (by rw [accG, HACC.out, HSJ.out]; rfl)
            clear hgp6 hgr6
            go_wp2_with fail
            go_roundw
            case rel =>
              refine ⟨j + 1, by go_num, by omega, by rw [HA2.out]; cases A <;> rfl, Lib.hid ?_, HG6⟩
              rw [HA2.out]
              have := HGP6.out
              cases A with
              | none => exact this
              | some a => show POwn _ _ _ (l ++ (r ++ a)); rw [← List.append_assoc]; exact this
            case measure => simp [intOf]; omega
      · have hltI : ¬ (j : Int) < 2 := by omega
        obtain rfl : j = 2 := by omega
        clear hlt
        subst h8
        go_wp2_with fail
        go_ret2
        exact ⟨_, rfl, hgp.out, HG3.out.trans hgr.out⟩
end Go.Proofs.YtmpjpaomgifpcaaGreatDoor
