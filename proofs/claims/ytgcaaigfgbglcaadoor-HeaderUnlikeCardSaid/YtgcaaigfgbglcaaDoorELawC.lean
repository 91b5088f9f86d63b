/- HeaderChains' walk. -/
import Derived.Test.YtgcaaigfgbglcaaDoorEMade
namespace Go.Proofs.YtgcaaigfgbglcaaDoor
open Go.RowKit
theorem madeO_length (key : ByteArray) : ∀ (l : List Stp) (f : Sg) (m : List Sg), madeO key f l = some m → m.length = l.length
  | [], f, m, h => by injection h with h; rw [← h]; rfl
  | x :: l, f, m, h => by
    unfold madeO at h
    split at h
    · split at h
      · obtain ⟨m', h1, rfl⟩ := Option.map_eq_some_iff.1 h
        simp [madeO_length key l _ m' h1]
      · cases h
    · cases h
theorem madeO_good (key : ByteArray) : ∀ (l : List Stp) (f : Sg) (m : List Sg), Good f → (∀ x ∈ l, x.Fit) → madeO key f l = some m → ∀ s ∈ m, Good s
  | [], f, m, _, _, h => by injection h with h; rw [← h]; intro s hs; cases hs
  | x :: l, f, m, hf, hx, h => by
    unfold madeO at h
    split at h
    · split at h
      · rename_i hn
        obtain ⟨m', h1, rfl⟩ := Option.map_eq_some_iff.1 h
        have hg := turnS_good x.bad (next_good (key := key) hf hn (hx x (by simp)).2.1 (hx x (by simp)).2.2.1)
        intro s hs
        rcases List.mem_cons.1 hs with rfl | hs
        · exact hg
        · exact madeO_good key l _ m' hg (fun y hy => hx y (by simp [hy])) h1 s hs
      · cases h
    · cases h
theorem madeO_small (key : ByteArray) : ∀ (l : List Stp) (f : Sg) (m : List Sg), madeO key f l = some m → ∀ x ∈ l, x.root.size ≤ 100
  | [], _, _, _ => fun x hx => by cases hx
  | y :: l, f, m, h => by
    unfold madeO at h
    split at h
    · rename_i hy
      split at h
      · obtain ⟨m', h1, rfl⟩ := Option.map_eq_some_iff.1 h
        intro x hx
        rcases List.mem_cons.1 hx with rfl | hx
        · exact hy
        · exact madeO_small key l _ m' h1 x hx
      · cases h
    · cases h
theorem madeR_some {key : ByteArray} {n : Int} {l : List Stp} {m : List Sg} (h : madeR key n l = some m) : l.length ≤ 20 ∧ key.size ≤ 100 ∧ madeO key (firstS key n) l = some m := by
  unfold madeR at h
  split at h
  · rename_i k; exact ⟨k.1, k.2, h⟩
  · cases h
def ch1Rel (WB : World) (gl : Nat) (m : List Sg) (i : Value) (wr : World) : Prop :=
  ∃ (k : Nat) (f : Sg), i = .int .i64 (k : Int) ∧ k ≤ m.length ∧ Hid (Good f) ∧ Hid (Below WB.heap.size WB wr) ∧ Hid (wr.heap[gl]? = some (.cells #[.int .u64 f.h.shard, .int .u64 f.h.seq, .string f.h.prev, .string f.h.root, .int .u64 f.h.who, .int .u64 f.h.stamp, .string f.mac] 26 (0, 0)))
def ch2Rel (WB : World) (i : Value) (wr : World) : Prop := ∃ (k : Nat), i = .int .i64 (k : Int) ∧ k ≤ 2 ∧ Hid (Below WB.heap.size WB wr)
set_option maxHeartbeats 8000000 in
set_option maxRecDepth 100000 in
theorem chains_law (key other : ByteArray) (hkey : key.size ≤ maxLen) (hoth : other.size ≤ maxLen) (n : Int) (hn : U64 n) (l : List Stp) (hl : l.length ≤ maxLen) (hx : ∀ x ∈ l, x.Fit) (v : Value) (w : World) (hv : StpSl w v l) (hst : Start w) :
    Calls Tryd.prog 4 #[.agg #[.string key, .string other], .int .u64 n, v] w fun e w' => e = .returned (.bool true) ∧ Below w.heap.size w w' := by
  have HST := Lib.hid hst
  have KW := Lib.hid (fun W (hS : Start W) => awake_prog W hS)
  have KM := Lib.hid (fun W (hW : StpSl W v l) => made_prog key hkey n hn l hl hx v W hW)
  have bo : (other.size : Int) ≤ 9223372036854775807 := by unfold maxLen at hoth; omega
  have bl : (l.length : Int) ≤ 9223372036854775807 := by unfold maxLen at hl; omega
  have HV := Lib.hid hv
  have HX := Lib.hid hx
  have HNU := Lib.hid hn
  obtain ⟨va, vc, rfl⟩ := hv.shape
  obtain ⟨W0, hW0⟩ : ∃ W0, W0 = w.alloc (.cells #[.string key, .string other] 35) := ⟨_, rfl⟩
  have HB0 := Lib.hid (show Below w.heap.size w W0 by rw [hW0]; exact (Below.refl _ _).alloc (Nat.le_refl _) _)
  have HK0 : Hid (W0.heap[w.heap.size]? = some (.cells #[.string key, .string other] 35 (0, 0))) := Lib.hid (by rw [hW0]; exact heap_alloc_new _ _)
  have ck : W0.cell? ⟨w.heap.size, 0, none⟩ = some (.string key) ∧ W0.cell? ⟨w.heap.size, 1, none⟩ = some (.string other) := by simp [World.cell?, HK0.out]
  have ck2 : W0.drew.cell? ⟨w.heap.size, 0, none⟩ = some (.string key) ∧ W0.drew.cell? ⟨w.heap.size, 1, none⟩ = some (.string other) := ck
  obtain ⟨k0, k1⟩ := ck
  obtain ⟨k2, k3⟩ := ck2
  clear hst hkey hoth hl hx hv hn
  go_enter Tryd.func4, Tryd.ntmps4
  go_upto_region 1 with fail
  simp only [← hW0]
  clear hW0
  go_quiet (fail)
  have HB1 : Hid (Below w.heap.size w (W0.drewN nq)) := Lib.hid (HB0.out.trans ((Same.of _ _).below _))
  go_wp2_with fail
  refine (KW.out _ (HST.out.later HB1.out)).mono ?_
  rintro e w1 ⟨rfl, hb1⟩
  have HB2 := Lib.hid (HB1.out.trans (hb1.mono HB1.out.size))
  clear hb1 KW k0 k1 k2 k3
  go_wp2_with fail
  refine (KM.out _ (HV.out.later HB2.out)).mono ?_
  rintro e w2 ⟨u, rfl, hu, hb2⟩
  have HB3 := Lib.hid (HB2.out.trans (hb2.mono HB2.out.size))
  have HU := Lib.hid hu.out.sl
  clear hu hb2 KM
  obtain ⟨R, hR⟩ : ∃ R, madeR key n l = R := ⟨_, rfl⟩
  rw [hR] at HU ⊢
  cases R with
  | none =>
    dsimp only [Option.isSome]
    clear hR
    go_wp2_with fail
    go_ret
    exact ⟨rfl, HB3.out⟩
  | some m =>
    obtain ⟨hl20, hk100, hmo⟩ := madeR_some hR
    have HKK : Hid (key.size ≤ 10000) := Lib.hid (by omega)
    have HGF := Lib.hid (first_good key n HNU.out)
    have HGM := Lib.hid (madeO_good key l _ m HGF.out HX.out hmo)
    have HML := Lib.hid (madeO_length key l _ m hmo)
    have HRT := Lib.hid (madeO_small key l _ m hmo)
    obtain ⟨f0, hf0⟩ : ∃ f, firstS key n = f := ⟨_, rfl⟩
    have KF1 := Lib.hid (fun W (hS : Start W) => pfirst_prog sum_ok key HKK.out n HNU.out W hS)
    have KF2 := Lib.hid (fun W => rfirst_prog key HKK.out n HNU.out W)
    rw [hf0] at HGF KF1 KF2
    unfold sgV at KF1 KF2
    have HU2 : Hid (SSl w2 u m) := Lib.hid HU.out
    obtain ⟨ua, uc, rfl⟩ := HU2.out.shape
    obtain ⟨N, hN⟩ : ∃ N, l.length = N := ⟨_, rfl⟩
    have hmN : m.length = N := by rw [← hN]; exact HML.out
    rw [hN] at bl HML ⊢
    rw [hmN] at HU2 ⊢
    have HN := Lib.hid hN
    have HMN := Lib.hid hmN
    have hN20 : (N : Int) ≤ 20 := by omega
    have HL20 : Hid (N ≤ 20) := Lib.hid (by omega)
    dsimp only [Option.isSome]
    clear hR hl20 hk100 hmo hf0 hN hmN HU
    by_cases ho : other.size ≤ 100
    · have g1 : ¬ (100 : Int) < (other.size : Int) := by omega
      have HOO : Hid (other.size ≤ 10000) := Lib.hid (by omega)
      clear ho
      go_wp2_with fail
      refine (KF1.out _ (HST.out.later HB3.out)).mono ?_
      rintro e w3 ⟨rfl, hb3⟩
      have HU3 := Lib.hid (HU2.out.later hb3)
      have HB4 := Lib.hid (HB3.out.trans (hb3.mono HB3.out.size))
      clear hb3
      obtain ⟨gf, hgf⟩ : ∃ g, g = w3.heap.size := ⟨_, rfl⟩
      obtain ⟨W4, hW4⟩ : ∃ W, W = w3.alloc (.cells #[.int .u64 f0.h.shard, .int .u64 f0.h.seq, .string f0.h.prev, .string f0.h.root, .int .u64 f0.h.who, .int .u64 f0.h.stamp, .string f0.mac] 26) := ⟨_, rfl⟩
      have HB5 : Hid (Below w.heap.size w W4) := Lib.hid (by rw [hW4]; exact HB4.out.alloc HB4.out.size _)
      have HF4 : Hid (W4.heap[gf]? = some (.cells #[.int .u64 f0.h.shard, .int .u64 f0.h.seq, .string f0.h.prev, .string f0.h.root, .int .u64 f0.h.who, .int .u64 f0.h.stamp, .string f0.mac] 26 (0, 0))) := Lib.hid (by rw [hW4, hgf]; exact heap_alloc_new _ _)
      have HU4 : Hid (SSl W4 (.slice ua N uc) m) := Lib.hid (by rw [hW4]; exact HU3.out.later ((Below.refl _ _).alloc (Nat.le_refl _) _))
      have HGFL : Hid (w.heap.size ≤ gf) := Lib.hid (by rw [hgf]; exact HB4.out.size)
      go_upto_region 8 with fail
      simp only [← hW4, ← hgf]
      clear hW4 hgf
      obtain ⟨c0, c1, c2, c3, c4, c5, c6⟩ := cells7 HF4.out
      go_cut [52] (fun sb wx => sb = .bool false ∧ Hid (Below w.heap.size w wx) ∧ Hid (wx.heap[gf]? = some (.cells #[.int .u64 f0.h.shard, .int .u64 f0.h.seq, .string f0.h.prev, .string f0.h.root, .int .u64 f0.h.who, .int .u64 f0.h.stamp, .string f0.mac] 26 (0, 0))) ∧ Hid (SSl wx (.slice ua N uc) m))
      case first =>
        go_region_with (first
          | (go_at_call 21; refine (KF2.out _).mono ?_; rintro e w5 ⟨rfl, hb5⟩; have HB6 := Lib.hid (HB5.out.drew.trans (hb5.mono HB5.out.size)); have HF6 := Lib.hid ((hb5.block _ (block_lt HF4.out)).trans HF4.out); have HU6 := Lib.hid (HU4.out.later ((Below.refl _ _).drew.trans hb5)); obtain ⟨c0, c1, c2, c3, c4, c5, c6⟩ := cells7 HF6.out)
          | fail)
        all_goals
          go_wp2_with fail
          go_meet
          exact ⟨rfl, HB6, HF6, HU6⟩
      case rest =>
        obtain ⟨rfl, HB7, HF7, HU7⟩ := hcut
        obtain ⟨c0, c1, c2, c3, c4, c5, c6⟩ := cells7 HF7.out
        obtain ⟨gl, hgl⟩ : ∃ g, g = wc.heap.size := ⟨_, rfl⟩
        obtain ⟨W8, hW8⟩ : ∃ W, W = wc.alloc (.cells #[.int .u64 f0.h.shard, .int .u64 f0.h.seq, .string f0.h.prev, .string f0.h.root, .int .u64 f0.h.who, .int .u64 f0.h.stamp, .string f0.mac] 26) := ⟨_, rfl⟩
        obtain ⟨WB, hWB⟩ : ∃ W, W = wc := ⟨_, rfl⟩
        rw [← hWB] at HB7 HF7 HU7 hgl hW8
        have HB8 : Hid (Below WB.heap.size WB W8) := Lib.hid (by rw [hW8]; exact (Below.refl _ _).alloc (Nat.le_refl _) _)
        have HL8 : Hid (W8.heap[gl]? = some (.cells #[.int .u64 f0.h.shard, .int .u64 f0.h.seq, .string f0.h.prev, .string f0.h.root, .int .u64 f0.h.who, .int .u64 f0.h.stamp, .string f0.mac] 26 (0, 0))) := Lib.hid (by rw [hW8, hgl]; exact heap_alloc_new _ _)
        have HGL : Hid (WB.heap.size ≤ gl) := Lib.hid (by omega)
        go_upto_region 11 with fail
        simp only [← hWB]
        simp only [← hW8, ← hgl]
        clear hW8 hgl hWB c0 c1 c2 c3 c4 c5 c6
        go_wp2_with fail
        go_loopw [56] (ch1Rel WB gl m) (fun i _ => N - (intOf i).toNat)
        case atStart => exact ⟨0, f0, rfl, by omega, HGF, HB8, HL8⟩
        case round =>
          obtain ⟨k, f, rfl, hk, HG, HB, HL⟩ := hrel
          rw [HMN.out] at hk
          by_cases hlt : k < N
          · have i0 : (0 : Int) ≤ (k : Int) := by omega
            have i1 : (k : Int) < (N : Int) := by omega
            obtain ⟨s, hs⟩ : ∃ s, m[k]? = some s := ⟨m[k]'(by rw [HMN.out]; exact hlt), List.getElem?_eq_getElem _⟩
            obtain ⟨x, hxs⟩ : ∃ x, l[k]? = some x := ⟨l[k]'(by rw [HN.out]; exact hlt), List.getElem?_eq_getElem _⟩
            have HSG := Lib.hid (HGM.out s (List.mem_of_getElem? hs))
            have HXF := Lib.hid (HX.out x (List.mem_of_getElem? hxs))
            have HXR := Lib.hid (HRT.out x (List.mem_of_getElem? hxs))
            obtain ⟨gm, om, cm, ev, hcl⟩ := (HU7.out.later HB.out).get hs
            rw [HMN.out] at ev
            injection ev with e1 e2 e3
            subst e1 e3
            clear e2
            obtain ⟨q0, q1, q2, q3, q4, q5, q6⟩ := hcl
            obtain ⟨gq, o, c, ev, hgw, hcx⟩ := HV.out.get hxs
            rw [HN.out] at ev
            injection ev with e1 e2 e3
            subst e1 e3
            clear e2 hs hxs hgw
            have HBW : Hid (Below w.heap.size w wr) := Lib.hid (HB7.out.trans (HB.out.mono HB7.out.size))
            have HTX : Hid (TCl wr gq (o + k * 4) x) := Lib.hid (hcx.later HBW.out)
            have HLT := Lib.hid hlt
            have hk20 : (k : Int) ≤ 20 := by omega
            clear hcx hlt hk
            obtain ⟨gs, hgs⟩ : ∃ g, g = wr.heap.size := ⟨_, rfl⟩
            obtain ⟨W2, hW2⟩ : ∃ W, W = wr.alloc (.cells #[.int .u64 s.h.shard, .int .u64 s.h.seq, .string s.h.prev, .string s.h.root, .int .u64 s.h.who, .int .u64 s.h.stamp, .string s.mac] 26) := ⟨_, rfl⟩
            have HB2 : Hid (Below WB.heap.size WB W2) := Lib.hid (by rw [hW2]; exact HB.out.alloc HB.out.size _)
            have HL2 : Hid (W2.heap[gl]? = some (.cells #[.int .u64 f.h.shard, .int .u64 f.h.seq, .string f.h.prev, .string f.h.root, .int .u64 f.h.who, .int .u64 f.h.stamp, .string f.mac] 26 (0, 0))) := Lib.hid (by rw [hW2]; exact (Below.heap_alloc _ _ _ (block_lt HL.out)).trans HL.out)
            have HS2 : Hid (W2.heap[gs]? = some (.cells #[.int .u64 s.h.shard, .int .u64 s.h.seq, .string s.h.prev, .string s.h.root, .int .u64 s.h.who, .int .u64 s.h.stamp, .string s.mac] 26 (0, 0))) := Lib.hid (by rw [hW2, hgs]; exact heap_alloc_new _ _)
            have HT2 : Hid (TCl W2 gq (o + k * 4) x) := Lib.hid (by rw [hW2]; exact HTX.out.later ((Below.refl _ _).alloc (Nat.le_refl _) _))
            have HGS : Hid (gl < gs) := Lib.hid (by rw [hgs]; exact block_lt HL.out)
            have KP := Lib.hid (fun W => rsumAt x.root W (Nat.le_trans HXR.out (by decide)) (sumS x.root) rfl)
            have KN1 := Lib.hid (fun W (hS : Start W) => pnext_prog sum_ok key HKK.out f 32 HG.out.1 (by decide) (Nat.le_refl _) (sumS x.root) (Nat.le_of_eq (sumS_size _)) x.who x.stamp HXF.out.2.1 HXF.out.2.2.1 W hS)
            have KN2 := Lib.hid (fun W => rnext_prog key HKK.out f 32 HG.out.1 (by decide) (Nat.le_refl _) (sumS x.root) (Nat.le_of_eq (sumS_size _)) x.who x.stamp HXF.out.2.1 HXF.out.2.2.1 W)
            have KO1 := Lib.hid (fun W (hS : Start W) => pfoll_prog sum_ok f.h s.h 32 HG.out.1 HSG.out.1 (by decide) W hS)
            have KO2 := Lib.hid (fun W => rfoll_prog f.h s.h 32 HG.out.1 HSG.out.1 (by decide) W)
            obtain ⟨P, hP⟩ : ∃ P, sumS x.root = P := ⟨_, rfl⟩
            obtain ⟨y, hy⟩ : ∃ y, nextS key f P x.who x.stamp = y := ⟨_, rfl⟩
            obtain ⟨b, hb⟩ : ∃ b, nextOk f.h P = b := ⟨_, rfl⟩
            obtain ⟨q, hq⟩ : ∃ q, follB f.h s.h = q := ⟨_, rfl⟩
            rw [hP] at KP KN1 KN2
            rw [hy, hb] at KN1 KN2
            rw [hq] at KO1 KO2
            unfold sgV at KN1 KN2
            unfold hdV at KO1 KO2
            clear hP hy hb hq
            go_upto_region 14 with fail
            simp only [← hW2, ← hgs]
            clear hW2 hgs q0 q1 q2 q3 q4 q5 q6
            go_cut [15, 16] (fun sa sb wx => ∃ g : Nat, sa = .pointer (some ⟨g, 0, none⟩) ∧ sb = .bool b ∧ Hid (W2.heap.size ≤ g ∧ gl < g ∧ gq < g) ∧ Hid (Below W2.heap.size W2 wx) ∧ Hid (wx.heap[gl]? = some (.cells #[.int .u64 f.h.shard, .int .u64 f.h.seq, .string f.h.prev, .string f.h.root, .int .u64 f.h.who, .int .u64 f.h.stamp, .string f.mac] 26 (0, 0))) ∧ Hid (TCl wx gq (o + k * 4) x) ∧ Hid (wx.heap[g]? = some (.cells #[.int .u64 y.h.shard, .int .u64 y.h.seq, .string y.h.prev, .string y.h.root, .int .u64 y.h.who, .int .u64 y.h.stamp, .string y.mac] 26 (0, 0))))
            case first =>
              refine wp_region_noPanic ?_
              refine wp_region_held_drew (S := fun w' => Below W2.heap.size W2 w' ∧ (w'.heap[gl]? = some (.cells #[.int .u64 f.h.shard, .int .u64 f.h.seq, .string f.h.prev, .string f.h.root, .int .u64 f.h.who, .int .u64 f.h.stamp, .string f.mac] 26 (0, 0))) ∧ (TCl w' gq (o + k * 4) x)) (by kernel_rfl) ⟨(Below.refl W2.heap.size W2).drew, HL2.out, (HT2.out.later (Below.refl _ _).drew)⟩ (fun hHeld => ?_)
              generalize W2.drew = WD at hHeld ⊢
              have HBD := hHeld.1
              have FLD := hHeld.2.1
              have FTD := hHeld.2.2
              refine wpAnyH_take (i := 0) (v := ?_) rfl (by kernel_rfl) (by kernel_rfl) (by kernel_rfl) (fun _ _ _ h => h) (Or.inl ⟨by rfl, ?_⟩) ⟨HBD, FLD, FTD⟩ ?_
              rotate_left
              · intro w' hSw; obtain ⟨ac0, ac1, ac2, ac3, ac4, ac5, ac6⟩ := cells7 hSw.2.1; obtain ⟨tc0, tc1, tc2, tc3⟩ := hSw.2.2; go_simp; first | done | with_reducible rfl | rfl
              try simp only [Act.put, List.getElem_toArray, List.getElem_cons_zero, List.setIfInBounds_toArray, List.set_cons_zero, List.set_cons_succ]
              refine wpAnyH_take (i := 1) (v := ?_) rfl (by kernel_rfl) (by kernel_rfl) (by kernel_rfl) (fun _ _ _ h => h) (Or.inl ⟨by rfl, ?_⟩) ⟨HBD, FLD, FTD⟩ ?_
              rotate_left
              · intro w' hSw; obtain ⟨ac0, ac1, ac2, ac3, ac4, ac5, ac6⟩ := cells7 hSw.2.1; obtain ⟨tc0, tc1, tc2, tc3⟩ := hSw.2.2; go_simp; first | done | with_reducible rfl | rfl
              try simp only [Act.put, List.getElem_toArray, List.getElem_cons_zero, List.getElem_cons_succ, List.setIfInBounds_toArray, List.set_cons_zero, List.set_cons_succ]
              refine wpAnyH_take (i := 2) (v := ?_) rfl (by kernel_rfl) (by kernel_rfl) (by kernel_rfl) (fun _ _ _ h => h) (Or.inl ⟨by rfl, ?_⟩) ⟨HBD, FLD, FTD⟩ ?_
              rotate_left
              · intro w' hSw; obtain ⟨ac0, ac1, ac2, ac3, ac4, ac5, ac6⟩ := cells7 hSw.2.1; obtain ⟨tc0, tc1, tc2, tc3⟩ := hSw.2.2; go_simp; first | done | with_reducible rfl | rfl
              try simp only [Act.put, List.getElem_toArray, List.getElem_cons_zero, List.getElem_cons_succ, List.setIfInBounds_toArray, List.set_cons_zero, List.set_cons_succ]
              refine wpAnyH_take (i := 3) (v := ?_) rfl (by kernel_rfl) (by kernel_rfl) (by kernel_rfl) (fun _ _ _ h => h) (Or.inl ⟨by rfl, ?_⟩) ⟨HBD, FLD, FTD⟩ ?_
              rotate_left
              · intro w' hSw; obtain ⟨ac0, ac1, ac2, ac3, ac4, ac5, ac6⟩ := cells7 hSw.2.1; obtain ⟨tc0, tc1, tc2, tc3⟩ := hSw.2.2; go_simp; first | done | with_reducible rfl | rfl
              try simp only [Act.put, List.getElem_toArray, List.getElem_cons_zero, List.getElem_cons_succ, List.setIfInBounds_toArray, List.set_cons_zero, List.set_cons_succ]
              refine wpAnyH_take (i := 4) (v := ?_) rfl (by kernel_rfl) (by kernel_rfl) (by kernel_rfl) (fun _ _ _ h => h) (Or.inl ⟨by rfl, ?_⟩) ⟨HBD, FLD, FTD⟩ ?_
              rotate_left
              · intro w' hSw; obtain ⟨ac0, ac1, ac2, ac3, ac4, ac5, ac6⟩ := cells7 hSw.2.1; obtain ⟨tc0, tc1, tc2, tc3⟩ := hSw.2.2; go_simp; first | done | with_reducible rfl | rfl
              try simp only [Act.put, List.getElem_toArray, List.getElem_cons_zero, List.getElem_cons_succ, List.setIfInBounds_toArray, List.set_cons_zero, List.set_cons_succ]
              refine wpAnyH_take (i := 5) (v := ?_) rfl (by kernel_rfl) (by kernel_rfl) (by kernel_rfl) (fun _ _ _ h => h) (Or.inl ⟨by rfl, ?_⟩) ⟨HBD, FLD, FTD⟩ ?_
              rotate_left
              · intro w' hSw; obtain ⟨ac0, ac1, ac2, ac3, ac4, ac5, ac6⟩ := cells7 hSw.2.1; obtain ⟨tc0, tc1, tc2, tc3⟩ := hSw.2.2; go_simp; first | done | with_reducible rfl | rfl
              try simp only [Act.put, List.getElem_toArray, List.getElem_cons_zero, List.getElem_cons_succ, List.setIfInBounds_toArray, List.set_cons_zero, List.set_cons_succ]
              refine wpAnyH_take (i := 6) (v := ?_) rfl (by kernel_rfl) (by kernel_rfl) (by kernel_rfl) (fun _ _ _ h => h) (Or.inl ⟨by rfl, ?_⟩) ⟨HBD, FLD, FTD⟩ ?_
              rotate_left
              · intro w' hSw; obtain ⟨ac0, ac1, ac2, ac3, ac4, ac5, ac6⟩ := cells7 hSw.2.1; obtain ⟨tc0, tc1, tc2, tc3⟩ := hSw.2.2; go_simp; first | done | with_reducible rfl | rfl
              try simp only [Act.put, List.getElem_toArray, List.getElem_cons_zero, List.getElem_cons_succ, List.setIfInBounds_toArray, List.set_cons_zero, List.set_cons_succ]
              refine wpAnyH_take (i := 8) (v := ?_) rfl (by kernel_rfl) (by kernel_rfl) (by kernel_rfl) (fun _ _ _ h => h) (Or.inl ⟨by rfl, ?_⟩) ⟨HBD, FLD, FTD⟩ ?_
              rotate_left
              · intro w' hSw; obtain ⟨ac0, ac1, ac2, ac3, ac4, ac5, ac6⟩ := cells7 hSw.2.1; obtain ⟨tc0, tc1, tc2, tc3⟩ := hSw.2.2; go_simp; first | done | with_reducible rfl | rfl
              try simp only [Act.put, List.getElem_toArray, List.getElem_cons_zero, List.getElem_cons_succ, List.setIfInBounds_toArray, List.set_cons_zero, List.set_cons_succ]
              refine wpAnyH_take (i := 9) (v := ?_) rfl (by kernel_rfl) (by kernel_rfl) (by kernel_rfl) (fun _ _ _ h => h) (Or.inl ⟨by rfl, ?_⟩) ⟨HBD, FLD, FTD⟩ ?_
              rotate_left
              · intro w' hSw; obtain ⟨ac0, ac1, ac2, ac3, ac4, ac5, ac6⟩ := cells7 hSw.2.1; obtain ⟨tc0, tc1, tc2, tc3⟩ := hSw.2.2; go_simp; first | done | with_reducible rfl | rfl
              try simp only [Act.put, List.getElem_toArray, List.getElem_cons_zero, List.getElem_cons_succ, List.setIfInBounds_toArray, List.set_cons_zero, List.set_cons_succ]
              refine wpAnyH_take (i := 10) (v := ?_) rfl (by kernel_rfl) (by kernel_rfl) (by kernel_rfl) (fun _ _ _ h => h) (Or.inl ⟨by rfl, ?_⟩) ⟨HBD, FLD, FTD⟩ ?_
              rotate_left
              · intro w' hSw; obtain ⟨ac0, ac1, ac2, ac3, ac4, ac5, ac6⟩ := cells7 hSw.2.1; obtain ⟨tc0, tc1, tc2, tc3⟩ := hSw.2.2; go_simp; first | done | with_reducible rfl | rfl
              try simp only [Act.put, List.getElem_toArray, List.getElem_cons_zero, List.getElem_cons_succ, List.setIfInBounds_toArray, List.set_cons_zero, List.set_cons_succ]
              refine wpAnyH_take (i := 11) (v := ?_) rfl (by kernel_rfl) (by kernel_rfl) (by kernel_rfl) (fun _ _ _ h => h) (Or.inl ⟨by rfl, ?_⟩) ⟨HBD, FLD, FTD⟩ ?_
              rotate_left
              · intro w' hSw; obtain ⟨ac0, ac1, ac2, ac3, ac4, ac5, ac6⟩ := cells7 hSw.2.1; obtain ⟨tc0, tc1, tc2, tc3⟩ := hSw.2.2; go_simp; first | done | with_reducible rfl | rfl
              try simp only [Act.put, List.getElem_toArray, List.getElem_cons_zero, List.getElem_cons_succ, List.setIfInBounds_toArray, List.set_cons_zero, List.set_cons_succ]
              refine wpAnyH_take (i := 12) (v := ?_) rfl (by kernel_rfl) (by kernel_rfl) (by kernel_rfl) (fun _ _ _ h => h) (Or.inl ⟨by rfl, ?_⟩) ⟨HBD, FLD, FTD⟩ ?_
              rotate_left
              · intro w' hSw; obtain ⟨ac0, ac1, ac2, ac3, ac4, ac5, ac6⟩ := cells7 hSw.2.1; obtain ⟨tc0, tc1, tc2, tc3⟩ := hSw.2.2; go_simp; first | done | with_reducible rfl | rfl
              try simp only [Act.put, List.getElem_toArray, List.getElem_cons_zero, List.getElem_cons_succ, List.setIfInBounds_toArray, List.set_cons_zero, List.set_cons_succ]
              refine wpAnyH_take (i := 13) (v := ?_) rfl (by kernel_rfl) (by kernel_rfl) (by kernel_rfl) (fun _ _ _ h => h) (Or.inl ⟨by rfl, ?_⟩) ⟨HBD, FLD, FTD⟩ ?_
              rotate_left
              · intro w' hSw; obtain ⟨ac0, ac1, ac2, ac3, ac4, ac5, ac6⟩ := cells7 hSw.2.1; obtain ⟨tc0, tc1, tc2, tc3⟩ := hSw.2.2; go_simp; first | done | with_reducible rfl | rfl
              try simp only [Act.put, List.getElem_toArray, List.getElem_cons_zero, List.getElem_cons_succ, List.setIfInBounds_toArray, List.set_cons_zero, List.set_cons_succ]
              refine wpAnyH_take (i := 14) (v := ?_) rfl (by kernel_rfl) (by kernel_rfl) (by kernel_rfl) (fun _ _ _ h => h) (Or.inl ⟨by rfl, ?_⟩) ⟨HBD, FLD, FTD⟩ ?_
              rotate_left
              · intro w' hSw; obtain ⟨ac0, ac1, ac2, ac3, ac4, ac5, ac6⟩ := cells7 hSw.2.1; obtain ⟨tc0, tc1, tc2, tc3⟩ := hSw.2.2; go_simp; first | done | with_reducible rfl | rfl
              try simp only [Act.put, List.getElem_toArray, List.getElem_cons_zero, List.getElem_cons_succ, List.setIfInBounds_toArray, List.set_cons_zero, List.set_cons_succ]
              refine wpAnyH_take (i := 15) (v := ?_) rfl (by kernel_rfl) (by kernel_rfl) (by kernel_rfl) (fun _ _ _ h => h) (Or.inl ⟨by rfl, ?_⟩) ⟨HBD, FLD, FTD⟩ ?_
              rotate_left
              · intro w' hSw; obtain ⟨ac0, ac1, ac2, ac3, ac4, ac5, ac6⟩ := cells7 hSw.2.1; obtain ⟨tc0, tc1, tc2, tc3⟩ := hSw.2.2; go_simp; first | done | with_reducible rfl | rfl
              try simp only [Act.put, List.getElem_toArray, List.getElem_cons_zero, List.getElem_cons_succ, List.setIfInBounds_toArray, List.set_cons_zero, List.set_cons_succ]
              refine wpAnyH_take (i := 16) (v := ?_) rfl (by kernel_rfl) (by kernel_rfl) (by kernel_rfl) (fun _ _ _ h => h) (Or.inl ⟨by rfl, ?_⟩) ⟨HBD, FLD, FTD⟩ ?_
              rotate_left
              · intro w' hSw; obtain ⟨ac0, ac1, ac2, ac3, ac4, ac5, ac6⟩ := cells7 hSw.2.1; obtain ⟨tc0, tc1, tc2, tc3⟩ := hSw.2.2; go_simp; first | done | with_reducible rfl | rfl
              try simp only [Act.put, List.getElem_toArray, List.getElem_cons_zero, List.getElem_cons_succ, List.setIfInBounds_toArray, List.set_cons_zero, List.set_cons_succ]
              refine wpAnyH_take (i := 17) (v := ?_) rfl (by kernel_rfl) (by kernel_rfl) (by kernel_rfl) (fun _ _ _ h => h) (Or.inl ⟨by rfl, ?_⟩) ⟨HBD, FLD, FTD⟩ ?_
              rotate_left
              · intro w' hSw; obtain ⟨ac0, ac1, ac2, ac3, ac4, ac5, ac6⟩ := cells7 hSw.2.1; obtain ⟨tc0, tc1, tc2, tc3⟩ := hSw.2.2; go_simp; first | done | with_reducible rfl | rfl
              try simp only [Act.put, List.getElem_toArray, List.getElem_cons_zero, List.getElem_cons_succ, List.setIfInBounds_toArray, List.set_cons_zero, List.set_cons_succ]
              refine wpAnyH_ready (rs := [7, 22]) (by kernel_rfl) (by simp) ?_
              refine AllReadyH.cons rfl (fun K hK => ?_) ?_
              · try simp only [Act.put, List.getElem_toArray, List.getElem_cons_zero, List.getElem_cons_succ, List.setIfInBounds_toArray, List.set_cons_zero, List.set_cons_succ]
                go_simp
                go_at_call 23
                refine (KP.out _).mono ?_
                rintro e wq1 ⟨rfl, hb1⟩
                have HBq1 := HBD.trans (hb1.mono HBD.size)
                have FLq1 := ((hb1.block _ (block_lt FLD)).trans FLD)
                have FTq1 := (FTD.later hb1)
                go_wp2_with fail
                refine hK.out _ _ ⟨HBq1, FLq1, FTq1⟩ (fun _ => ?_)
                clear hK K
                try simp only [Act.put, List.getElem_toArray, List.getElem_cons_zero, List.getElem_cons_succ, List.setIfInBounds_toArray, List.set_cons_zero, List.set_cons_succ]
                refine wpAnyH_ready (rs := [18, 22]) (by kernel_rfl) (by simp) ?_
                refine AllReadyH.cons rfl (fun K hK => ?_) ?_
                · try simp only [Act.put, List.getElem_toArray, List.getElem_cons_zero, List.getElem_cons_succ, List.setIfInBounds_toArray, List.set_cons_zero, List.set_cons_succ]
                  go_simp
                  go_at_call 22
                  refine (KN1.out _ (HST.out.later ((HB7.out.trans (HB2.out.mono HB7.out.size)).trans (HBq1.mono (HB7.out.trans (HB2.out.mono HB7.out.size)).size)))).mono ?_
                  rintro e wq2 ⟨rfl, hb2⟩
                  have HBq2 := HBq1.trans (hb2.mono HBq1.size)
                  have FLq2 := ((hb2.block _ (block_lt FLq1)).trans FLq1)
                  have FTq2 := (FTq1.later hb2)
                  go_wp2_with fail
                  refine hK.out _ _ ⟨HBq2, FLq2, FTq2⟩ (fun _ => ?_)
                  clear hK K
                  try simp only [Act.put, List.getElem_toArray, List.getElem_cons_zero, List.getElem_cons_succ, List.setIfInBounds_toArray, List.set_cons_zero, List.set_cons_succ]
                  refine wpAnyH_take (i := 19) (v := ?_) rfl (by kernel_rfl) (by kernel_rfl) (by kernel_rfl) (fun _ _ _ h => h) (Or.inl ⟨by rfl, ?_⟩) ⟨HBq2, FLq2, FTq2⟩ ?_
                  rotate_left
                  · intro w' hSw; obtain ⟨ac0, ac1, ac2, ac3, ac4, ac5, ac6⟩ := cells7 hSw.2.1; obtain ⟨tc0, tc1, tc2, tc3⟩ := hSw.2.2; go_simp; first | done | with_reducible rfl | rfl
                  try simp only [Act.put, List.getElem_toArray, List.getElem_cons_zero, List.getElem_cons_succ, List.setIfInBounds_toArray, List.set_cons_zero, List.set_cons_succ]
                  refine wpAnyH_take (i := 20) (v := ?_) rfl (by kernel_rfl) (by kernel_rfl) (by kernel_rfl) (fun _ _ _ h => h) (Or.inl ⟨by rfl, ?_⟩) ⟨HBq2, FLq2, FTq2⟩ ?_
                  rotate_left
                  · intro w' hSw; obtain ⟨ac0, ac1, ac2, ac3, ac4, ac5, ac6⟩ := cells7 hSw.2.1; obtain ⟨tc0, tc1, tc2, tc3⟩ := hSw.2.2; go_simp; first | done | with_reducible rfl | rfl
                  try simp only [Act.put, List.getElem_toArray, List.getElem_cons_zero, List.getElem_cons_succ, List.setIfInBounds_toArray, List.set_cons_zero, List.set_cons_succ]
                  refine wpAnyH_take (i := 21) (v := ?_) rfl (by kernel_rfl) (by kernel_rfl) (by kernel_rfl) (fun _ _ _ h => h) (Or.inl ⟨by rfl, ?_⟩) ⟨HBq2, FLq2, FTq2⟩ ?_
                  rotate_left
                  · intro w' hSw; obtain ⟨ac0, ac1, ac2, ac3, ac4, ac5, ac6⟩ := cells7 hSw.2.1; obtain ⟨tc0, tc1, tc2, tc3⟩ := hSw.2.2; go_simp; first | done | with_reducible rfl | rfl
                  try simp only [Act.put, List.getElem_toArray, List.getElem_cons_zero, List.getElem_cons_succ, List.setIfInBounds_toArray, List.set_cons_zero, List.set_cons_succ]
                  refine wpAnyH_ready (rs := [22]) (by kernel_rfl) (by simp) ?_
                  refine AllReadyH.cons rfl (fun K hK => ?_) AllReadyH.nil
                  try simp only [Act.put, List.getElem_toArray, List.getElem_cons_zero, List.getElem_cons_succ, List.setIfInBounds_toArray, List.set_cons_zero, List.set_cons_succ]
                  go_simp
                  refine hK.out _ _ ⟨HBq2.alloc HBq2.size _, ((((Below.refl _ _).alloc (Nat.le_refl _) _).block _ (block_lt FLq2)).trans FLq2), (FTq2.later ((Below.refl _ _).alloc (Nat.le_refl _) _))⟩ (fun _ => ?_)
                  clear hK K
                  try simp only [Act.put, List.getElem_toArray, List.getElem_cons_zero, List.getElem_cons_succ, List.setIfInBounds_toArray, List.set_cons_zero, List.set_cons_succ]
                  refine named (M := wpAnyH _ _ _ _ _ _ _ _) ?_
                  intro wq3 hk3 hb3 sz3
                  have HBq3 := HBq2.trans (hb3.mono HBq2.size)
                  have FLq3 := ((hb3.block _ (block_lt FLq2)).trans FLq2)
                  have FTq3 := (FTq2.later hb3)
                  have lt3 : W2.heap.size ≤ wq2.heap.size ∧ gl < wq2.heap.size ∧ gq < wq2.heap.size := ⟨HBq2.size, block_lt FLq2, World.block_lt_of_cell? _ _ FTq2.c0⟩
                  refine wpAnyH_ready (rs := [23]) (by kernel_rfl) (by simp) ?_
                  refine AllReadyH.cons rfl (fun K hK => ?_) AllReadyH.nil
                  obtain ⟨z0, z1, z2, z3, z4, z5, z6⟩ := cells7 hk3
                  obtain ⟨y0, y1, y2, y3, y4, y5, y6⟩ := free7 hk3
                  try simp only [Act.put, List.getElem_toArray, List.getElem_cons_zero, List.getElem_cons_succ]
                  go_simp
                  have HBq4 := HBq3.trans (set7_below (w := wq3) (G := wq2.heap.size) (by have := lt3; omega) (.int .u64 y.h.shard) (.int .u64 y.h.seq) (.string y.h.prev) (.string y.h.root) (.int .u64 y.h.who) (.int .u64 y.h.stamp) (.string y.mac))
                  have FLq4 := ((set7_other _ (wq2.heap.size) (.int .u64 y.h.shard) (.int .u64 y.h.seq) (.string y.h.prev) (.string y.h.root) (.int .u64 y.h.who) (.int .u64 y.h.stamp) (.string y.mac) (gl) (by have := lt3; omega)).trans FLq3)
                  have FTq4 := (FTq3.mv (set7_other _ (wq2.heap.size) (.int .u64 y.h.shard) (.int .u64 y.h.seq) (.string y.h.prev) (.string y.h.root) (.int .u64 y.h.who) (.int .u64 y.h.stamp) (.string y.mac) (gq) (by have := lt3; omega)))
                  have HGq4 := set7_heap hk3 (.int .u64 y.h.shard) (.int .u64 y.h.seq) (.string y.h.prev) (.string y.h.root) (.int .u64 y.h.who) (.int .u64 y.h.stamp) (.string y.mac)
                  refine hK.out _ (set7 wq3 (wq2.heap.size) (.int .u64 y.h.shard) (.int .u64 y.h.seq) (.string y.h.prev) (.string y.h.root) (.int .u64 y.h.who) (.int .u64 y.h.stamp) (.string y.mac)) ⟨HBq4, FLq4, FTq4⟩ (fun _ => ?_)
                  clear hK K z0 z1 z2 z3 z4 z5 z6 y0 y1 y2 y3 y4 y5 y6
                  try simp only [Act.put, List.getElem_toArray, List.getElem_cons_zero, List.getElem_cons_succ]
                  refine wpAnyH_take (i := 24) (v := ?_) rfl (by kernel_rfl) (by kernel_rfl) (by kernel_rfl) (fun _ _ _ h => h) (Or.inl ⟨by rfl, ?_⟩) ⟨HBq4, FLq4, FTq4⟩ ?_
                  rotate_left
                  · intro w' hSw; obtain ⟨ac0, ac1, ac2, ac3, ac4, ac5, ac6⟩ := cells7 hSw.2.1; obtain ⟨tc0, tc1, tc2, tc3⟩ := hSw.2.2; go_simp; first | done | with_reducible rfl | rfl
                  try simp only [Act.put, List.getElem_toArray, List.getElem_cons_zero, List.getElem_cons_succ, List.setIfInBounds_toArray, List.set_cons_zero, List.set_cons_succ]
                  refine wpAnyH_done (by kernel_rfl) ?_ _
                  refine NoPanic.normal ?_
                  go_wp2_with fail
                  go_meet
                  exact ⟨wq2.heap.size, rfl, rfl, Lib.hid (by have := lt3; omega), Lib.hid HBq4, Lib.hid FLq4, Lib.hid FTq4, Lib.hid HGq4⟩
                refine AllReadyH.cons rfl (fun K hK => ?_) AllReadyH.nil
                · try simp only [Act.put, List.getElem_toArray, List.getElem_cons_zero, List.getElem_cons_succ, List.setIfInBounds_toArray, List.set_cons_zero, List.set_cons_succ]
                  go_simp
                  refine hK.out _ _ ⟨HBq1.alloc HBq1.size _, ((((Below.refl _ _).alloc (Nat.le_refl _) _).block _ (block_lt FLq1)).trans FLq1), (FTq1.later ((Below.refl _ _).alloc (Nat.le_refl _) _))⟩ (fun _ => ?_)
                  clear hK K
                  try simp only [Act.put, List.getElem_toArray, List.getElem_cons_zero, List.getElem_cons_succ, List.setIfInBounds_toArray, List.set_cons_zero, List.set_cons_succ]
                  refine named (M := wpAnyH _ _ _ _ _ _ _ _) ?_
                  intro wq5 hk5 hb5 sz5
                  have HBq5 := HBq1.trans (hb5.mono HBq1.size)
                  have FLq5 := ((hb5.block _ (block_lt FLq1)).trans FLq1)
                  have FTq5 := (FTq1.later hb5)
                  have lt5 : W2.heap.size ≤ wq1.heap.size ∧ gl < wq1.heap.size ∧ gq < wq1.heap.size := ⟨HBq1.size, block_lt FLq1, World.block_lt_of_cell? _ _ FTq1.c0⟩
                  refine wpAnyH_ready (rs := [18]) (by kernel_rfl) (by simp) ?_
                  refine AllReadyH.cons rfl (fun K hK => ?_) AllReadyH.nil
                  try simp only [Act.put, List.getElem_toArray, List.getElem_cons_zero, List.getElem_cons_succ, List.setIfInBounds_toArray, List.set_cons_zero, List.set_cons_succ]
                  go_simp
                  go_at_call 22
                  refine (KN1.out _ (HST.out.later ((HB7.out.trans (HB2.out.mono HB7.out.size)).trans (HBq5.mono (HB7.out.trans (HB2.out.mono HB7.out.size)).size)))).mono ?_
                  rintro e wq6 ⟨rfl, hb6⟩
                  have HBq6 := HBq5.trans (hb6.mono HBq5.size)
                  have FLq6 := ((hb6.block _ (block_lt FLq5)).trans FLq5)
                  have FTq6 := (FTq5.later hb6)
                  have HGq6 := (hb6.block _ (block_lt hk5)).trans hk5
                  go_wp2_with fail
                  refine hK.out _ _ ⟨HBq6, FLq6, FTq6⟩ (fun _ => ?_)
                  clear hK K
                  try simp only [Act.put, List.getElem_toArray, List.getElem_cons_zero, List.getElem_cons_succ, List.setIfInBounds_toArray, List.set_cons_zero, List.set_cons_succ]
                  refine wpAnyH_take (i := 19) (v := ?_) rfl (by kernel_rfl) (by kernel_rfl) (by kernel_rfl) (fun _ _ _ h => h) (Or.inl ⟨by rfl, ?_⟩) ⟨HBq6, FLq6, FTq6⟩ ?_
                  rotate_left
                  · intro w' hSw; obtain ⟨ac0, ac1, ac2, ac3, ac4, ac5, ac6⟩ := cells7 hSw.2.1; obtain ⟨tc0, tc1, tc2, tc3⟩ := hSw.2.2; go_simp; first | done | with_reducible rfl | rfl
                  try simp only [Act.put, List.getElem_toArray, List.getElem_cons_zero, List.getElem_cons_succ, List.setIfInBounds_toArray, List.set_cons_zero, List.set_cons_succ]
                  refine wpAnyH_take (i := 20) (v := ?_) rfl (by kernel_rfl) (by kernel_rfl) (by kernel_rfl) (fun _ _ _ h => h) (Or.inl ⟨by rfl, ?_⟩) ⟨HBq6, FLq6, FTq6⟩ ?_
                  rotate_left
                  · intro w' hSw; obtain ⟨ac0, ac1, ac2, ac3, ac4, ac5, ac6⟩ := cells7 hSw.2.1; obtain ⟨tc0, tc1, tc2, tc3⟩ := hSw.2.2; go_simp; first | done | with_reducible rfl | rfl
                  try simp only [Act.put, List.getElem_toArray, List.getElem_cons_zero, List.getElem_cons_succ, List.setIfInBounds_toArray, List.set_cons_zero, List.set_cons_succ]
                  refine wpAnyH_take (i := 21) (v := ?_) rfl (by kernel_rfl) (by kernel_rfl) (by kernel_rfl) (fun _ _ _ h => h) (Or.inl ⟨by rfl, ?_⟩) ⟨HBq6, FLq6, FTq6⟩ ?_
                  rotate_left
                  · intro w' hSw; obtain ⟨ac0, ac1, ac2, ac3, ac4, ac5, ac6⟩ := cells7 hSw.2.1; obtain ⟨tc0, tc1, tc2, tc3⟩ := hSw.2.2; go_simp; first | done | with_reducible rfl | rfl
                  try simp only [Act.put, List.getElem_toArray, List.getElem_cons_zero, List.getElem_cons_succ, List.setIfInBounds_toArray, List.set_cons_zero, List.set_cons_succ]
                  refine wpAnyH_ready (rs := [23]) (by kernel_rfl) (by simp) ?_
                  refine AllReadyH.cons rfl (fun K hK => ?_) AllReadyH.nil
                  obtain ⟨z0, z1, z2, z3, z4, z5, z6⟩ := cells7 HGq6
                  obtain ⟨y0, y1, y2, y3, y4, y5, y6⟩ := free7 HGq6
                  try simp only [Act.put, List.getElem_toArray, List.getElem_cons_zero, List.getElem_cons_succ]
                  go_simp
                  have HBq7 := HBq6.trans (set7_below (w := wq6) (G := wq1.heap.size) (by have := lt5; omega) (.int .u64 y.h.shard) (.int .u64 y.h.seq) (.string y.h.prev) (.string y.h.root) (.int .u64 y.h.who) (.int .u64 y.h.stamp) (.string y.mac))
                  have FLq7 := ((set7_other _ (wq1.heap.size) (.int .u64 y.h.shard) (.int .u64 y.h.seq) (.string y.h.prev) (.string y.h.root) (.int .u64 y.h.who) (.int .u64 y.h.stamp) (.string y.mac) (gl) (by have := lt5; omega)).trans FLq6)
                  have FTq7 := (FTq6.mv (set7_other _ (wq1.heap.size) (.int .u64 y.h.shard) (.int .u64 y.h.seq) (.string y.h.prev) (.string y.h.root) (.int .u64 y.h.who) (.int .u64 y.h.stamp) (.string y.mac) (gq) (by have := lt5; omega)))
                  have HGq7 := set7_heap HGq6 (.int .u64 y.h.shard) (.int .u64 y.h.seq) (.string y.h.prev) (.string y.h.root) (.int .u64 y.h.who) (.int .u64 y.h.stamp) (.string y.mac)
                  refine hK.out _ (set7 wq6 (wq1.heap.size) (.int .u64 y.h.shard) (.int .u64 y.h.seq) (.string y.h.prev) (.string y.h.root) (.int .u64 y.h.who) (.int .u64 y.h.stamp) (.string y.mac)) ⟨HBq7, FLq7, FTq7⟩ (fun _ => ?_)
                  clear hK K z0 z1 z2 z3 z4 z5 z6 y0 y1 y2 y3 y4 y5 y6
                  try simp only [Act.put, List.getElem_toArray, List.getElem_cons_zero, List.getElem_cons_succ]
                  refine wpAnyH_take (i := 24) (v := ?_) rfl (by kernel_rfl) (by kernel_rfl) (by kernel_rfl) (fun _ _ _ h => h) (Or.inl ⟨by rfl, ?_⟩) ⟨HBq7, FLq7, FTq7⟩ ?_
                  rotate_left
                  · intro w' hSw; obtain ⟨ac0, ac1, ac2, ac3, ac4, ac5, ac6⟩ := cells7 hSw.2.1; obtain ⟨tc0, tc1, tc2, tc3⟩ := hSw.2.2; go_simp; first | done | with_reducible rfl | rfl
                  try simp only [Act.put, List.getElem_toArray, List.getElem_cons_zero, List.getElem_cons_succ, List.setIfInBounds_toArray, List.set_cons_zero, List.set_cons_succ]
                  refine wpAnyH_done (by kernel_rfl) ?_ _
                  refine NoPanic.normal ?_
                  go_wp2_with fail
                  go_meet
                  exact ⟨wq1.heap.size, rfl, rfl, Lib.hid (by have := lt5; omega), Lib.hid HBq7, Lib.hid FLq7, Lib.hid FTq7, Lib.hid HGq7⟩
              refine AllReadyH.cons rfl (fun K hK => ?_) AllReadyH.nil
              · try simp only [Act.put, List.getElem_toArray, List.getElem_cons_zero, List.getElem_cons_succ, List.setIfInBounds_toArray, List.set_cons_zero, List.set_cons_succ]
                go_simp
                refine hK.out _ _ ⟨HBD.alloc HBD.size _, ((((Below.refl _ _).alloc (Nat.le_refl _) _).block _ (block_lt FLD)).trans FLD), (FTD.later ((Below.refl _ _).alloc (Nat.le_refl _) _))⟩ (fun _ => ?_)
                clear hK K
                try simp only [Act.put, List.getElem_toArray, List.getElem_cons_zero, List.getElem_cons_succ, List.setIfInBounds_toArray, List.set_cons_zero, List.set_cons_succ]
                refine named (M := wpAnyH _ _ _ _ _ _ _ _) ?_
                intro wq8 hk8 hb8 sz8
                have HBq8 := HBD.trans (hb8.mono HBD.size)
                have FLq8 := ((hb8.block _ (block_lt FLD)).trans FLD)
                have FTq8 := (FTD.later hb8)
                have lt8 : W2.heap.size ≤ WD.heap.size ∧ gl < WD.heap.size ∧ gq < WD.heap.size := ⟨HBD.size, block_lt FLD, World.block_lt_of_cell? _ _ FTD.c0⟩
                refine wpAnyH_ready (rs := [7]) (by kernel_rfl) (by simp) ?_
                refine AllReadyH.cons rfl (fun K hK => ?_) AllReadyH.nil
                try simp only [Act.put, List.getElem_toArray, List.getElem_cons_zero, List.getElem_cons_succ, List.setIfInBounds_toArray, List.set_cons_zero, List.set_cons_succ]
                go_simp
                go_at_call 23
                refine (KP.out _).mono ?_
                rintro e wq9 ⟨rfl, hb9⟩
                have HBq9 := HBq8.trans (hb9.mono HBq8.size)
                have FLq9 := ((hb9.block _ (block_lt FLq8)).trans FLq8)
                have FTq9 := (FTq8.later hb9)
                have HGq9 := (hb9.block _ (block_lt hk8)).trans hk8
                go_wp2_with fail
                refine hK.out _ _ ⟨HBq9, FLq9, FTq9⟩ (fun _ => ?_)
                clear hK K
                try simp only [Act.put, List.getElem_toArray, List.getElem_cons_zero, List.getElem_cons_succ, List.setIfInBounds_toArray, List.set_cons_zero, List.set_cons_succ]
                refine wpAnyH_ready (rs := [18]) (by kernel_rfl) (by simp) ?_
                refine AllReadyH.cons rfl (fun K hK => ?_) AllReadyH.nil
                try simp only [Act.put, List.getElem_toArray, List.getElem_cons_zero, List.getElem_cons_succ, List.setIfInBounds_toArray, List.set_cons_zero, List.set_cons_succ]
                go_simp
                go_at_call 22
                refine (KN1.out _ (HST.out.later ((HB7.out.trans (HB2.out.mono HB7.out.size)).trans (HBq9.mono (HB7.out.trans (HB2.out.mono HB7.out.size)).size)))).mono ?_
                rintro e wq10 ⟨rfl, hb10⟩
                have HBq10 := HBq9.trans (hb10.mono HBq9.size)
                have FLq10 := ((hb10.block _ (block_lt FLq9)).trans FLq9)
                have FTq10 := (FTq9.later hb10)
                have HGq10 := (hb10.block _ (block_lt HGq9)).trans HGq9
                go_wp2_with fail
                refine hK.out _ _ ⟨HBq10, FLq10, FTq10⟩ (fun _ => ?_)
                clear hK K
                try simp only [Act.put, List.getElem_toArray, List.getElem_cons_zero, List.getElem_cons_succ, List.setIfInBounds_toArray, List.set_cons_zero, List.set_cons_succ]
                refine wpAnyH_take (i := 19) (v := ?_) rfl (by kernel_rfl) (by kernel_rfl) (by kernel_rfl) (fun _ _ _ h => h) (Or.inl ⟨by rfl, ?_⟩) ⟨HBq10, FLq10, FTq10⟩ ?_
                rotate_left
                · intro w' hSw; obtain ⟨ac0, ac1, ac2, ac3, ac4, ac5, ac6⟩ := cells7 hSw.2.1; obtain ⟨tc0, tc1, tc2, tc3⟩ := hSw.2.2; go_simp; first | done | with_reducible rfl | rfl
                try simp only [Act.put, List.getElem_toArray, List.getElem_cons_zero, List.getElem_cons_succ, List.setIfInBounds_toArray, List.set_cons_zero, List.set_cons_succ]
                refine wpAnyH_take (i := 20) (v := ?_) rfl (by kernel_rfl) (by kernel_rfl) (by kernel_rfl) (fun _ _ _ h => h) (Or.inl ⟨by rfl, ?_⟩) ⟨HBq10, FLq10, FTq10⟩ ?_
                rotate_left
                · intro w' hSw; obtain ⟨ac0, ac1, ac2, ac3, ac4, ac5, ac6⟩ := cells7 hSw.2.1; obtain ⟨tc0, tc1, tc2, tc3⟩ := hSw.2.2; go_simp; first | done | with_reducible rfl | rfl
                try simp only [Act.put, List.getElem_toArray, List.getElem_cons_zero, List.getElem_cons_succ, List.setIfInBounds_toArray, List.set_cons_zero, List.set_cons_succ]
                refine wpAnyH_take (i := 21) (v := ?_) rfl (by kernel_rfl) (by kernel_rfl) (by kernel_rfl) (fun _ _ _ h => h) (Or.inl ⟨by rfl, ?_⟩) ⟨HBq10, FLq10, FTq10⟩ ?_
                rotate_left
                · intro w' hSw; obtain ⟨ac0, ac1, ac2, ac3, ac4, ac5, ac6⟩ := cells7 hSw.2.1; obtain ⟨tc0, tc1, tc2, tc3⟩ := hSw.2.2; go_simp; first | done | with_reducible rfl | rfl
                try simp only [Act.put, List.getElem_toArray, List.getElem_cons_zero, List.getElem_cons_succ, List.setIfInBounds_toArray, List.set_cons_zero, List.set_cons_succ]
                refine wpAnyH_ready (rs := [23]) (by kernel_rfl) (by simp) ?_
                refine AllReadyH.cons rfl (fun K hK => ?_) AllReadyH.nil
                obtain ⟨z0, z1, z2, z3, z4, z5, z6⟩ := cells7 HGq10
                obtain ⟨y0, y1, y2, y3, y4, y5, y6⟩ := free7 HGq10
                try simp only [Act.put, List.getElem_toArray, List.getElem_cons_zero, List.getElem_cons_succ]
                go_simp
                have HBq11 := HBq10.trans (set7_below (w := wq10) (G := WD.heap.size) (by have := lt8; omega) (.int .u64 y.h.shard) (.int .u64 y.h.seq) (.string y.h.prev) (.string y.h.root) (.int .u64 y.h.who) (.int .u64 y.h.stamp) (.string y.mac))
                have FLq11 := ((set7_other _ (WD.heap.size) (.int .u64 y.h.shard) (.int .u64 y.h.seq) (.string y.h.prev) (.string y.h.root) (.int .u64 y.h.who) (.int .u64 y.h.stamp) (.string y.mac) (gl) (by have := lt8; omega)).trans FLq10)
                have FTq11 := (FTq10.mv (set7_other _ (WD.heap.size) (.int .u64 y.h.shard) (.int .u64 y.h.seq) (.string y.h.prev) (.string y.h.root) (.int .u64 y.h.who) (.int .u64 y.h.stamp) (.string y.mac) (gq) (by have := lt8; omega)))
                have HGq11 := set7_heap HGq10 (.int .u64 y.h.shard) (.int .u64 y.h.seq) (.string y.h.prev) (.string y.h.root) (.int .u64 y.h.who) (.int .u64 y.h.stamp) (.string y.mac)
                refine hK.out _ (set7 wq10 (WD.heap.size) (.int .u64 y.h.shard) (.int .u64 y.h.seq) (.string y.h.prev) (.string y.h.root) (.int .u64 y.h.who) (.int .u64 y.h.stamp) (.string y.mac)) ⟨HBq11, FLq11, FTq11⟩ (fun _ => ?_)
                clear hK K z0 z1 z2 z3 z4 z5 z6 y0 y1 y2 y3 y4 y5 y6
                try simp only [Act.put, List.getElem_toArray, List.getElem_cons_zero, List.getElem_cons_succ]
                refine wpAnyH_take (i := 24) (v := ?_) rfl (by kernel_rfl) (by kernel_rfl) (by kernel_rfl) (fun _ _ _ h => h) (Or.inl ⟨by rfl, ?_⟩) ⟨HBq11, FLq11, FTq11⟩ ?_
                rotate_left
                · intro w' hSw; obtain ⟨ac0, ac1, ac2, ac3, ac4, ac5, ac6⟩ := cells7 hSw.2.1; obtain ⟨tc0, tc1, tc2, tc3⟩ := hSw.2.2; go_simp; first | done | with_reducible rfl | rfl
                try simp only [Act.put, List.getElem_toArray, List.getElem_cons_zero, List.getElem_cons_succ, List.setIfInBounds_toArray, List.set_cons_zero, List.set_cons_succ]
                refine wpAnyH_done (by kernel_rfl) ?_ _
                refine NoPanic.normal ?_
                go_wp2_with fail
                go_meet
                exact ⟨WD.heap.size, rfl, rfl, Lib.hid (by have := lt8; omega), Lib.hid HBq11, Lib.hid FLq11, Lib.hid FTq11, Lib.hid HGq11⟩
            case rest =>
              obtain ⟨ga, rfl, rfl, HLA, HB3, HL3, HT3, HA3⟩ := hcut
              obtain ⟨W3, hW3⟩ : ∃ W, W = wc := ⟨_, rfl⟩
              rw [← hW3] at HB3 HL3 HT3 HA3
              simp only [← hW3]
              clear hW3
              go_upto_region 15 with fail
              go_cut [17, 18] (fun sa sb wx => ∃ g : Nat, sa = .pointer (some ⟨g, 0, none⟩) ∧ sb = .bool b ∧ Hid (W3.heap.size ≤ g ∧ gl < g ∧ gq < g) ∧ Hid (Below W3.heap.size W3 wx) ∧ Hid (wx.heap[gl]? = some (.cells #[.int .u64 f.h.shard, .int .u64 f.h.seq, .string f.h.prev, .string f.h.root, .int .u64 f.h.who, .int .u64 f.h.stamp, .string f.mac] 26 (0, 0))) ∧ Hid (TCl wx gq (o + k * 4) x) ∧ Hid (wx.heap[g]? = some (.cells #[.int .u64 y.h.shard, .int .u64 y.h.seq, .string y.h.prev, .string y.h.root, .int .u64 y.h.who, .int .u64 y.h.stamp, .string y.mac] 26 (0, 0))))
              case first =>
                refine wp_region_noPanic ?_
                refine wp_region_held_drew (S := fun w' => Below W3.heap.size W3 w' ∧ (w'.heap[gl]? = some (.cells #[.int .u64 f.h.shard, .int .u64 f.h.seq, .string f.h.prev, .string f.h.root, .int .u64 f.h.who, .int .u64 f.h.stamp, .string f.mac] 26 (0, 0))) ∧ (TCl w' gq (o + k * 4) x)) (by kernel_rfl) ⟨(Below.refl W3.heap.size W3).drew, HL3.out, (HT3.out.later (Below.refl _ _).drew)⟩ (fun hHeld => ?_)
                generalize W3.drew = WD at hHeld ⊢
                have HBD := hHeld.1
                have FLD := hHeld.2.1
                have FTD := hHeld.2.2
                refine wpAnyH_take (i := 0) (v := ?_) rfl (by kernel_rfl) (by kernel_rfl) (by kernel_rfl) (fun _ _ _ h => h) (Or.inl ⟨by rfl, ?_⟩) ⟨HBD, FLD, FTD⟩ ?_
                rotate_left
                · intro w' hSw; obtain ⟨ac0, ac1, ac2, ac3, ac4, ac5, ac6⟩ := cells7 hSw.2.1; obtain ⟨tc0, tc1, tc2, tc3⟩ := hSw.2.2; go_simp; first | done | with_reducible rfl | rfl
                try simp only [Act.put, List.getElem_toArray, List.getElem_cons_zero, List.setIfInBounds_toArray, List.set_cons_zero, List.set_cons_succ]
                refine wpAnyH_take (i := 1) (v := ?_) rfl (by kernel_rfl) (by kernel_rfl) (by kernel_rfl) (fun _ _ _ h => h) (Or.inl ⟨by rfl, ?_⟩) ⟨HBD, FLD, FTD⟩ ?_
                rotate_left
                · intro w' hSw; obtain ⟨ac0, ac1, ac2, ac3, ac4, ac5, ac6⟩ := cells7 hSw.2.1; obtain ⟨tc0, tc1, tc2, tc3⟩ := hSw.2.2; go_simp; first | done | with_reducible rfl | rfl
                try simp only [Act.put, List.getElem_toArray, List.getElem_cons_zero, List.getElem_cons_succ, List.setIfInBounds_toArray, List.set_cons_zero, List.set_cons_succ]
                refine wpAnyH_take (i := 2) (v := ?_) rfl (by kernel_rfl) (by kernel_rfl) (by kernel_rfl) (fun _ _ _ h => h) (Or.inl ⟨by rfl, ?_⟩) ⟨HBD, FLD, FTD⟩ ?_
                rotate_left
                · intro w' hSw; obtain ⟨ac0, ac1, ac2, ac3, ac4, ac5, ac6⟩ := cells7 hSw.2.1; obtain ⟨tc0, tc1, tc2, tc3⟩ := hSw.2.2; go_simp; first | done | with_reducible rfl | rfl
                try simp only [Act.put, List.getElem_toArray, List.getElem_cons_zero, List.getElem_cons_succ, List.setIfInBounds_toArray, List.set_cons_zero, List.set_cons_succ]
                refine wpAnyH_take (i := 3) (v := ?_) rfl (by kernel_rfl) (by kernel_rfl) (by kernel_rfl) (fun _ _ _ h => h) (Or.inl ⟨by rfl, ?_⟩) ⟨HBD, FLD, FTD⟩ ?_
                rotate_left
                · intro w' hSw; obtain ⟨ac0, ac1, ac2, ac3, ac4, ac5, ac6⟩ := cells7 hSw.2.1; obtain ⟨tc0, tc1, tc2, tc3⟩ := hSw.2.2; go_simp; first | done | with_reducible rfl | rfl
                try simp only [Act.put, List.getElem_toArray, List.getElem_cons_zero, List.getElem_cons_succ, List.setIfInBounds_toArray, List.set_cons_zero, List.set_cons_succ]
                refine wpAnyH_take (i := 4) (v := ?_) rfl (by kernel_rfl) (by kernel_rfl) (by kernel_rfl) (fun _ _ _ h => h) (Or.inl ⟨by rfl, ?_⟩) ⟨HBD, FLD, FTD⟩ ?_
                rotate_left
                · intro w' hSw; obtain ⟨ac0, ac1, ac2, ac3, ac4, ac5, ac6⟩ := cells7 hSw.2.1; obtain ⟨tc0, tc1, tc2, tc3⟩ := hSw.2.2; go_simp; first | done | with_reducible rfl | rfl
                try simp only [Act.put, List.getElem_toArray, List.getElem_cons_zero, List.getElem_cons_succ, List.setIfInBounds_toArray, List.set_cons_zero, List.set_cons_succ]
                refine wpAnyH_take (i := 5) (v := ?_) rfl (by kernel_rfl) (by kernel_rfl) (by kernel_rfl) (fun _ _ _ h => h) (Or.inl ⟨by rfl, ?_⟩) ⟨HBD, FLD, FTD⟩ ?_
                rotate_left
                · intro w' hSw; obtain ⟨ac0, ac1, ac2, ac3, ac4, ac5, ac6⟩ := cells7 hSw.2.1; obtain ⟨tc0, tc1, tc2, tc3⟩ := hSw.2.2; go_simp; first | done | with_reducible rfl | rfl
                try simp only [Act.put, List.getElem_toArray, List.getElem_cons_zero, List.getElem_cons_succ, List.setIfInBounds_toArray, List.set_cons_zero, List.set_cons_succ]
                refine wpAnyH_take (i := 6) (v := ?_) rfl (by kernel_rfl) (by kernel_rfl) (by kernel_rfl) (fun _ _ _ h => h) (Or.inl ⟨by rfl, ?_⟩) ⟨HBD, FLD, FTD⟩ ?_
                rotate_left
                · intro w' hSw; obtain ⟨ac0, ac1, ac2, ac3, ac4, ac5, ac6⟩ := cells7 hSw.2.1; obtain ⟨tc0, tc1, tc2, tc3⟩ := hSw.2.2; go_simp; first | done | with_reducible rfl | rfl
                try simp only [Act.put, List.getElem_toArray, List.getElem_cons_zero, List.getElem_cons_succ, List.setIfInBounds_toArray, List.set_cons_zero, List.set_cons_succ]
                refine wpAnyH_take (i := 8) (v := ?_) rfl (by kernel_rfl) (by kernel_rfl) (by kernel_rfl) (fun _ _ _ h => h) (Or.inl ⟨by rfl, ?_⟩) ⟨HBD, FLD, FTD⟩ ?_
                rotate_left
                · intro w' hSw; obtain ⟨ac0, ac1, ac2, ac3, ac4, ac5, ac6⟩ := cells7 hSw.2.1; obtain ⟨tc0, tc1, tc2, tc3⟩ := hSw.2.2; go_simp; first | done | with_reducible rfl | rfl
                try simp only [Act.put, List.getElem_toArray, List.getElem_cons_zero, List.getElem_cons_succ, List.setIfInBounds_toArray, List.set_cons_zero, List.set_cons_succ]
                refine wpAnyH_take (i := 9) (v := ?_) rfl (by kernel_rfl) (by kernel_rfl) (by kernel_rfl) (fun _ _ _ h => h) (Or.inl ⟨by rfl, ?_⟩) ⟨HBD, FLD, FTD⟩ ?_
                rotate_left
                · intro w' hSw; obtain ⟨ac0, ac1, ac2, ac3, ac4, ac5, ac6⟩ := cells7 hSw.2.1; obtain ⟨tc0, tc1, tc2, tc3⟩ := hSw.2.2; go_simp; first | done | with_reducible rfl | rfl
                try simp only [Act.put, List.getElem_toArray, List.getElem_cons_zero, List.getElem_cons_succ, List.setIfInBounds_toArray, List.set_cons_zero, List.set_cons_succ]
                refine wpAnyH_take (i := 10) (v := ?_) rfl (by kernel_rfl) (by kernel_rfl) (by kernel_rfl) (fun _ _ _ h => h) (Or.inl ⟨by rfl, ?_⟩) ⟨HBD, FLD, FTD⟩ ?_
                rotate_left
                · intro w' hSw; obtain ⟨ac0, ac1, ac2, ac3, ac4, ac5, ac6⟩ := cells7 hSw.2.1; obtain ⟨tc0, tc1, tc2, tc3⟩ := hSw.2.2; go_simp; first | done | with_reducible rfl | rfl
                try simp only [Act.put, List.getElem_toArray, List.getElem_cons_zero, List.getElem_cons_succ, List.setIfInBounds_toArray, List.set_cons_zero, List.set_cons_succ]
                refine wpAnyH_take (i := 11) (v := ?_) rfl (by kernel_rfl) (by kernel_rfl) (by kernel_rfl) (fun _ _ _ h => h) (Or.inl ⟨by rfl, ?_⟩) ⟨HBD, FLD, FTD⟩ ?_
                rotate_left
                · intro w' hSw; obtain ⟨ac0, ac1, ac2, ac3, ac4, ac5, ac6⟩ := cells7 hSw.2.1; obtain ⟨tc0, tc1, tc2, tc3⟩ := hSw.2.2; go_simp; first | done | with_reducible rfl | rfl
                try simp only [Act.put, List.getElem_toArray, List.getElem_cons_zero, List.getElem_cons_succ, List.setIfInBounds_toArray, List.set_cons_zero, List.set_cons_succ]
                refine wpAnyH_take (i := 12) (v := ?_) rfl (by kernel_rfl) (by kernel_rfl) (by kernel_rfl) (fun _ _ _ h => h) (Or.inl ⟨by rfl, ?_⟩) ⟨HBD, FLD, FTD⟩ ?_
                rotate_left
                · intro w' hSw; obtain ⟨ac0, ac1, ac2, ac3, ac4, ac5, ac6⟩ := cells7 hSw.2.1; obtain ⟨tc0, tc1, tc2, tc3⟩ := hSw.2.2; go_simp; first | done | with_reducible rfl | rfl
                try simp only [Act.put, List.getElem_toArray, List.getElem_cons_zero, List.getElem_cons_succ, List.setIfInBounds_toArray, List.set_cons_zero, List.set_cons_succ]
                refine wpAnyH_take (i := 13) (v := ?_) rfl (by kernel_rfl) (by kernel_rfl) (by kernel_rfl) (fun _ _ _ h => h) (Or.inl ⟨by rfl, ?_⟩) ⟨HBD, FLD, FTD⟩ ?_
                rotate_left
                · intro w' hSw; obtain ⟨ac0, ac1, ac2, ac3, ac4, ac5, ac6⟩ := cells7 hSw.2.1; obtain ⟨tc0, tc1, tc2, tc3⟩ := hSw.2.2; go_simp; first | done | with_reducible rfl | rfl
                try simp only [Act.put, List.getElem_toArray, List.getElem_cons_zero, List.getElem_cons_succ, List.setIfInBounds_toArray, List.set_cons_zero, List.set_cons_succ]
                refine wpAnyH_take (i := 14) (v := ?_) rfl (by kernel_rfl) (by kernel_rfl) (by kernel_rfl) (fun _ _ _ h => h) (Or.inl ⟨by rfl, ?_⟩) ⟨HBD, FLD, FTD⟩ ?_
                rotate_left
                · intro w' hSw; obtain ⟨ac0, ac1, ac2, ac3, ac4, ac5, ac6⟩ := cells7 hSw.2.1; obtain ⟨tc0, tc1, tc2, tc3⟩ := hSw.2.2; go_simp; first | done | with_reducible rfl | rfl
                try simp only [Act.put, List.getElem_toArray, List.getElem_cons_zero, List.getElem_cons_succ, List.setIfInBounds_toArray, List.set_cons_zero, List.set_cons_succ]
                refine wpAnyH_take (i := 15) (v := ?_) rfl (by kernel_rfl) (by kernel_rfl) (by kernel_rfl) (fun _ _ _ h => h) (Or.inl ⟨by rfl, ?_⟩) ⟨HBD, FLD, FTD⟩ ?_
                rotate_left
                · intro w' hSw; obtain ⟨ac0, ac1, ac2, ac3, ac4, ac5, ac6⟩ := cells7 hSw.2.1; obtain ⟨tc0, tc1, tc2, tc3⟩ := hSw.2.2; go_simp; first | done | with_reducible rfl | rfl
                try simp only [Act.put, List.getElem_toArray, List.getElem_cons_zero, List.getElem_cons_succ, List.setIfInBounds_toArray, List.set_cons_zero, List.set_cons_succ]
                refine wpAnyH_take (i := 16) (v := ?_) rfl (by kernel_rfl) (by kernel_rfl) (by kernel_rfl) (fun _ _ _ h => h) (Or.inl ⟨by rfl, ?_⟩) ⟨HBD, FLD, FTD⟩ ?_
                rotate_left
                · intro w' hSw; obtain ⟨ac0, ac1, ac2, ac3, ac4, ac5, ac6⟩ := cells7 hSw.2.1; obtain ⟨tc0, tc1, tc2, tc3⟩ := hSw.2.2; go_simp; first | done | with_reducible rfl | rfl
                try simp only [Act.put, List.getElem_toArray, List.getElem_cons_zero, List.getElem_cons_succ, List.setIfInBounds_toArray, List.set_cons_zero, List.set_cons_succ]
                refine wpAnyH_take (i := 17) (v := ?_) rfl (by kernel_rfl) (by kernel_rfl) (by kernel_rfl) (fun _ _ _ h => h) (Or.inl ⟨by rfl, ?_⟩) ⟨HBD, FLD, FTD⟩ ?_
                rotate_left
                · intro w' hSw; obtain ⟨ac0, ac1, ac2, ac3, ac4, ac5, ac6⟩ := cells7 hSw.2.1; obtain ⟨tc0, tc1, tc2, tc3⟩ := hSw.2.2; go_simp; first | done | with_reducible rfl | rfl
                try simp only [Act.put, List.getElem_toArray, List.getElem_cons_zero, List.getElem_cons_succ, List.setIfInBounds_toArray, List.set_cons_zero, List.set_cons_succ]
                refine wpAnyH_ready (rs := [7, 22]) (by kernel_rfl) (by simp) ?_
                refine AllReadyH.cons rfl (fun K hK => ?_) ?_
                · try simp only [Act.put, List.getElem_toArray, List.getElem_cons_zero, List.getElem_cons_succ, List.setIfInBounds_toArray, List.set_cons_zero, List.set_cons_succ]
                  go_simp
                  go_at_call 23
                  refine (KP.out _).mono ?_
                  rintro e wq1 ⟨rfl, hb1⟩
                  have HBq1 := HBD.trans (hb1.mono HBD.size)
                  have FLq1 := ((hb1.block _ (block_lt FLD)).trans FLD)
                  have FTq1 := (FTD.later hb1)
                  go_wp2_with fail
                  refine hK.out _ _ ⟨HBq1, FLq1, FTq1⟩ (fun _ => ?_)
                  clear hK K
                  try simp only [Act.put, List.getElem_toArray, List.getElem_cons_zero, List.getElem_cons_succ, List.setIfInBounds_toArray, List.set_cons_zero, List.set_cons_succ]
                  refine wpAnyH_ready (rs := [18, 22]) (by kernel_rfl) (by simp) ?_
                  refine AllReadyH.cons rfl (fun K hK => ?_) ?_
                  · try simp only [Act.put, List.getElem_toArray, List.getElem_cons_zero, List.getElem_cons_succ, List.setIfInBounds_toArray, List.set_cons_zero, List.set_cons_succ]
                    go_simp
                    go_at_call 24
                    refine (KN2.out _).mono ?_
                    rintro e wq2 ⟨rfl, hb2⟩
                    have HBq2 := HBq1.trans (hb2.mono HBq1.size)
                    have FLq2 := ((hb2.block _ (block_lt FLq1)).trans FLq1)
                    have FTq2 := (FTq1.later hb2)
                    go_wp2_with fail
                    refine hK.out _ _ ⟨HBq2, FLq2, FTq2⟩ (fun _ => ?_)
                    clear hK K
                    try simp only [Act.put, List.getElem_toArray, List.getElem_cons_zero, List.getElem_cons_succ, List.setIfInBounds_toArray, List.set_cons_zero, List.set_cons_succ]
                    refine wpAnyH_take (i := 19) (v := ?_) rfl (by kernel_rfl) (by kernel_rfl) (by kernel_rfl) (fun _ _ _ h => h) (Or.inl ⟨by rfl, ?_⟩) ⟨HBq2, FLq2, FTq2⟩ ?_
                    rotate_left
                    · intro w' hSw; obtain ⟨ac0, ac1, ac2, ac3, ac4, ac5, ac6⟩ := cells7 hSw.2.1; obtain ⟨tc0, tc1, tc2, tc3⟩ := hSw.2.2; go_simp; first | done | with_reducible rfl | rfl
                    try simp only [Act.put, List.getElem_toArray, List.getElem_cons_zero, List.getElem_cons_succ, List.setIfInBounds_toArray, List.set_cons_zero, List.set_cons_succ]
                    refine wpAnyH_take (i := 20) (v := ?_) rfl (by kernel_rfl) (by kernel_rfl) (by kernel_rfl) (fun _ _ _ h => h) (Or.inl ⟨by rfl, ?_⟩) ⟨HBq2, FLq2, FTq2⟩ ?_
                    rotate_left
                    · intro w' hSw; obtain ⟨ac0, ac1, ac2, ac3, ac4, ac5, ac6⟩ := cells7 hSw.2.1; obtain ⟨tc0, tc1, tc2, tc3⟩ := hSw.2.2; go_simp; first | done | with_reducible rfl | rfl
                    try simp only [Act.put, List.getElem_toArray, List.getElem_cons_zero, List.getElem_cons_succ, List.setIfInBounds_toArray, List.set_cons_zero, List.set_cons_succ]
                    refine wpAnyH_take (i := 21) (v := ?_) rfl (by kernel_rfl) (by kernel_rfl) (by kernel_rfl) (fun _ _ _ h => h) (Or.inl ⟨by rfl, ?_⟩) ⟨HBq2, FLq2, FTq2⟩ ?_
                    rotate_left
                    · intro w' hSw; obtain ⟨ac0, ac1, ac2, ac3, ac4, ac5, ac6⟩ := cells7 hSw.2.1; obtain ⟨tc0, tc1, tc2, tc3⟩ := hSw.2.2; go_simp; first | done | with_reducible rfl | rfl
                    try simp only [Act.put, List.getElem_toArray, List.getElem_cons_zero, List.getElem_cons_succ, List.setIfInBounds_toArray, List.set_cons_zero, List.set_cons_succ]
                    refine wpAnyH_ready (rs := [22]) (by kernel_rfl) (by simp) ?_
                    refine AllReadyH.cons rfl (fun K hK => ?_) AllReadyH.nil
                    try simp only [Act.put, List.getElem_toArray, List.getElem_cons_zero, List.getElem_cons_succ, List.setIfInBounds_toArray, List.set_cons_zero, List.set_cons_succ]
                    go_simp
                    refine hK.out _ _ ⟨HBq2.alloc HBq2.size _, ((((Below.refl _ _).alloc (Nat.le_refl _) _).block _ (block_lt FLq2)).trans FLq2), (FTq2.later ((Below.refl _ _).alloc (Nat.le_refl _) _))⟩ (fun _ => ?_)
                    clear hK K
                    try simp only [Act.put, List.getElem_toArray, List.getElem_cons_zero, List.getElem_cons_succ, List.setIfInBounds_toArray, List.set_cons_zero, List.set_cons_succ]
                    refine named (M := wpAnyH _ _ _ _ _ _ _ _) ?_
                    intro wq3 hk3 hb3 sz3
                    have HBq3 := HBq2.trans (hb3.mono HBq2.size)
                    have FLq3 := ((hb3.block _ (block_lt FLq2)).trans FLq2)
                    have FTq3 := (FTq2.later hb3)
                    have lt3 : W3.heap.size ≤ wq2.heap.size ∧ gl < wq2.heap.size ∧ gq < wq2.heap.size := ⟨HBq2.size, block_lt FLq2, World.block_lt_of_cell? _ _ FTq2.c0⟩
                    refine wpAnyH_ready (rs := [23]) (by kernel_rfl) (by simp) ?_
                    refine AllReadyH.cons rfl (fun K hK => ?_) AllReadyH.nil
                    obtain ⟨z0, z1, z2, z3, z4, z5, z6⟩ := cells7 hk3
                    obtain ⟨y0, y1, y2, y3, y4, y5, y6⟩ := free7 hk3
                    try simp only [Act.put, List.getElem_toArray, List.getElem_cons_zero, List.getElem_cons_succ]
                    go_simp
                    have HBq4 := HBq3.trans (set7_below (w := wq3) (G := wq2.heap.size) (by have := lt3; omega) (.int .u64 y.h.shard) (.int .u64 y.h.seq) (.string y.h.prev) (.string y.h.root) (.int .u64 y.h.who) (.int .u64 y.h.stamp) (.string y.mac))
                    have FLq4 := ((set7_other _ (wq2.heap.size) (.int .u64 y.h.shard) (.int .u64 y.h.seq) (.string y.h.prev) (.string y.h.root) (.int .u64 y.h.who) (.int .u64 y.h.stamp) (.string y.mac) (gl) (by have := lt3; omega)).trans FLq3)
                    have FTq4 := (FTq3.mv (set7_other _ (wq2.heap.size) (.int .u64 y.h.shard) (.int .u64 y.h.seq) (.string y.h.prev) (.string y.h.root) (.int .u64 y.h.who) (.int .u64 y.h.stamp) (.string y.mac) (gq) (by have := lt3; omega)))
                    have HGq4 := set7_heap hk3 (.int .u64 y.h.shard) (.int .u64 y.h.seq) (.string y.h.prev) (.string y.h.root) (.int .u64 y.h.who) (.int .u64 y.h.stamp) (.string y.mac)
                    refine hK.out _ (set7 wq3 (wq2.heap.size) (.int .u64 y.h.shard) (.int .u64 y.h.seq) (.string y.h.prev) (.string y.h.root) (.int .u64 y.h.who) (.int .u64 y.h.stamp) (.string y.mac)) ⟨HBq4, FLq4, FTq4⟩ (fun _ => ?_)
                    clear hK K z0 z1 z2 z3 z4 z5 z6 y0 y1 y2 y3 y4 y5 y6
                    try simp only [Act.put, List.getElem_toArray, List.getElem_cons_zero, List.getElem_cons_succ]
                    refine wpAnyH_take (i := 24) (v := ?_) rfl (by kernel_rfl) (by kernel_rfl) (by kernel_rfl) (fun _ _ _ h => h) (Or.inl ⟨by rfl, ?_⟩) ⟨HBq4, FLq4, FTq4⟩ ?_
                    rotate_left
                    · intro w' hSw; obtain ⟨ac0, ac1, ac2, ac3, ac4, ac5, ac6⟩ := cells7 hSw.2.1; obtain ⟨tc0, tc1, tc2, tc3⟩ := hSw.2.2; go_simp; first | done | with_reducible rfl | rfl
                    try simp only [Act.put, List.getElem_toArray, List.getElem_cons_zero, List.getElem_cons_succ, List.setIfInBounds_toArray, List.set_cons_zero, List.set_cons_succ]
                    refine wpAnyH_done (by kernel_rfl) ?_ _
                    refine NoPanic.normal ?_
                    go_wp2_with fail
                    go_meet
                    exact ⟨wq2.heap.size, rfl, rfl, Lib.hid (by have := lt3; omega), Lib.hid HBq4, Lib.hid FLq4, Lib.hid FTq4, Lib.hid HGq4⟩
                  refine AllReadyH.cons rfl (fun K hK => ?_) AllReadyH.nil
                  · try simp only [Act.put, List.getElem_toArray, List.getElem_cons_zero, List.getElem_cons_succ, List.setIfInBounds_toArray, List.set_cons_zero, List.set_cons_succ]
                    go_simp
                    refine hK.out _ _ ⟨HBq1.alloc HBq1.size _, ((((Below.refl _ _).alloc (Nat.le_refl _) _).block _ (block_lt FLq1)).trans FLq1), (FTq1.later ((Below.refl _ _).alloc (Nat.le_refl _) _))⟩ (fun _ => ?_)
                    clear hK K
                    try simp only [Act.put, List.getElem_toArray, List.getElem_cons_zero, List.getElem_cons_succ, List.setIfInBounds_toArray, List.set_cons_zero, List.set_cons_succ]
                    refine named (M := wpAnyH _ _ _ _ _ _ _ _) ?_
                    intro wq5 hk5 hb5 sz5
                    have HBq5 := HBq1.trans (hb5.mono HBq1.size)
                    have FLq5 := ((hb5.block _ (block_lt FLq1)).trans FLq1)
                    have FTq5 := (FTq1.later hb5)
                    have lt5 : W3.heap.size ≤ wq1.heap.size ∧ gl < wq1.heap.size ∧ gq < wq1.heap.size := ⟨HBq1.size, block_lt FLq1, World.block_lt_of_cell? _ _ FTq1.c0⟩
                    refine wpAnyH_ready (rs := [18]) (by kernel_rfl) (by simp) ?_
                    refine AllReadyH.cons rfl (fun K hK => ?_) AllReadyH.nil
                    try simp only [Act.put, List.getElem_toArray, List.getElem_cons_zero, List.getElem_cons_succ, List.setIfInBounds_toArray, List.set_cons_zero, List.set_cons_succ]
                    go_simp
                    go_at_call 24
                    refine (KN2.out _).mono ?_
                    rintro e wq6 ⟨rfl, hb6⟩
                    have HBq6 := HBq5.trans (hb6.mono HBq5.size)
                    have FLq6 := ((hb6.block _ (block_lt FLq5)).trans FLq5)
                    have FTq6 := (FTq5.later hb6)
                    have HGq6 := (hb6.block _ (block_lt hk5)).trans hk5
                    go_wp2_with fail
                    refine hK.out _ _ ⟨HBq6, FLq6, FTq6⟩ (fun _ => ?_)
                    clear hK K
                    try simp only [Act.put, List.getElem_toArray, List.getElem_cons_zero, List.getElem_cons_succ, List.setIfInBounds_toArray, List.set_cons_zero, List.set_cons_succ]
                    refine wpAnyH_take (i := 19) (v := ?_) rfl (by kernel_rfl) (by kernel_rfl) (by kernel_rfl) (fun _ _ _ h => h) (Or.inl ⟨by rfl, ?_⟩) ⟨HBq6, FLq6, FTq6⟩ ?_
                    rotate_left
                    · intro w' hSw; obtain ⟨ac0, ac1, ac2, ac3, ac4, ac5, ac6⟩ := cells7 hSw.2.1; obtain ⟨tc0, tc1, tc2, tc3⟩ := hSw.2.2; go_simp; first | done | with_reducible rfl | rfl
                    try simp only [Act.put, List.getElem_toArray, List.getElem_cons_zero, List.getElem_cons_succ, List.setIfInBounds_toArray, List.set_cons_zero, List.set_cons_succ]
                    refine wpAnyH_take (i := 20) (v := ?_) rfl (by kernel_rfl) (by kernel_rfl) (by kernel_rfl) (fun _ _ _ h => h) (Or.inl ⟨by rfl, ?_⟩) ⟨HBq6, FLq6, FTq6⟩ ?_
                    rotate_left
                    · intro w' hSw; obtain ⟨ac0, ac1, ac2, ac3, ac4, ac5, ac6⟩ := cells7 hSw.2.1; obtain ⟨tc0, tc1, tc2, tc3⟩ := hSw.2.2; go_simp; first | done | with_reducible rfl | rfl
                    try simp only [Act.put, List.getElem_toArray, List.getElem_cons_zero, List.getElem_cons_succ, List.setIfInBounds_toArray, List.set_cons_zero, List.set_cons_succ]
                    refine wpAnyH_take (i := 21) (v := ?_) rfl (by kernel_rfl) (by kernel_rfl) (by kernel_rfl) (fun _ _ _ h => h) (Or.inl ⟨by rfl, ?_⟩) ⟨HBq6, FLq6, FTq6⟩ ?_
                    rotate_left
                    · intro w' hSw; obtain ⟨ac0, ac1, ac2, ac3, ac4, ac5, ac6⟩ := cells7 hSw.2.1; obtain ⟨tc0, tc1, tc2, tc3⟩ := hSw.2.2; go_simp; first | done | with_reducible rfl | rfl
                    try simp only [Act.put, List.getElem_toArray, List.getElem_cons_zero, List.getElem_cons_succ, List.setIfInBounds_toArray, List.set_cons_zero, List.set_cons_succ]
                    refine wpAnyH_ready (rs := [23]) (by kernel_rfl) (by simp) ?_
                    refine AllReadyH.cons rfl (fun K hK => ?_) AllReadyH.nil
                    obtain ⟨z0, z1, z2, z3, z4, z5, z6⟩ := cells7 HGq6
                    obtain ⟨y0, y1, y2, y3, y4, y5, y6⟩ := free7 HGq6
                    try simp only [Act.put, List.getElem_toArray, List.getElem_cons_zero, List.getElem_cons_succ]
                    go_simp
                    have HBq7 := HBq6.trans (set7_below (w := wq6) (G := wq1.heap.size) (by have := lt5; omega) (.int .u64 y.h.shard) (.int .u64 y.h.seq) (.string y.h.prev) (.string y.h.root) (.int .u64 y.h.who) (.int .u64 y.h.stamp) (.string y.mac))
                    have FLq7 := ((set7_other _ (wq1.heap.size) (.int .u64 y.h.shard) (.int .u64 y.h.seq) (.string y.h.prev) (.string y.h.root) (.int .u64 y.h.who) (.int .u64 y.h.stamp) (.string y.mac) (gl) (by have := lt5; omega)).trans FLq6)
                    have FTq7 := (FTq6.mv (set7_other _ (wq1.heap.size) (.int .u64 y.h.shard) (.int .u64 y.h.seq) (.string y.h.prev) (.string y.h.root) (.int .u64 y.h.who) (.int .u64 y.h.stamp) (.string y.mac) (gq) (by have := lt5; omega)))
                    have HGq7 := set7_heap HGq6 (.int .u64 y.h.shard) (.int .u64 y.h.seq) (.string y.h.prev) (.string y.h.root) (.int .u64 y.h.who) (.int .u64 y.h.stamp) (.string y.mac)
                    refine hK.out _ (set7 wq6 (wq1.heap.size) (.int .u64 y.h.shard) (.int .u64 y.h.seq) (.string y.h.prev) (.string y.h.root) (.int .u64 y.h.who) (.int .u64 y.h.stamp) (.string y.mac)) ⟨HBq7, FLq7, FTq7⟩ (fun _ => ?_)
                    clear hK K z0 z1 z2 z3 z4 z5 z6 y0 y1 y2 y3 y4 y5 y6
                    try simp only [Act.put, List.getElem_toArray, List.getElem_cons_zero, List.getElem_cons_succ]
                    refine wpAnyH_take (i := 24) (v := ?_) rfl (by kernel_rfl) (by kernel_rfl) (by kernel_rfl) (fun _ _ _ h => h) (Or.inl ⟨by rfl, ?_⟩) ⟨HBq7, FLq7, FTq7⟩ ?_
                    rotate_left
                    · intro w' hSw; obtain ⟨ac0, ac1, ac2, ac3, ac4, ac5, ac6⟩ := cells7 hSw.2.1; obtain ⟨tc0, tc1, tc2, tc3⟩ := hSw.2.2; go_simp; first | done | with_reducible rfl | rfl
                    try simp only [Act.put, List.getElem_toArray, List.getElem_cons_zero, List.getElem_cons_succ, List.setIfInBounds_toArray, List.set_cons_zero, List.set_cons_succ]
                    refine wpAnyH_done (by kernel_rfl) ?_ _
                    refine NoPanic.normal ?_
                    go_wp2_with fail
                    go_meet
                    exact ⟨wq1.heap.size, rfl, rfl, Lib.hid (by have := lt5; omega), Lib.hid HBq7, Lib.hid FLq7, Lib.hid FTq7, Lib.hid HGq7⟩
                refine AllReadyH.cons rfl (fun K hK => ?_) AllReadyH.nil
                · try simp only [Act.put, List.getElem_toArray, List.getElem_cons_zero, List.getElem_cons_succ, List.setIfInBounds_toArray, List.set_cons_zero, List.set_cons_succ]
                  go_simp
                  refine hK.out _ _ ⟨HBD.alloc HBD.size _, ((((Below.refl _ _).alloc (Nat.le_refl _) _).block _ (block_lt FLD)).trans FLD), (FTD.later ((Below.refl _ _).alloc (Nat.le_refl _) _))⟩ (fun _ => ?_)
                  clear hK K
                  try simp only [Act.put, List.getElem_toArray, List.getElem_cons_zero, List.getElem_cons_succ, List.setIfInBounds_toArray, List.set_cons_zero, List.set_cons_succ]
                  refine named (M := wpAnyH _ _ _ _ _ _ _ _) ?_
                  intro wq8 hk8 hb8 sz8
                  have HBq8 := HBD.trans (hb8.mono HBD.size)
                  have FLq8 := ((hb8.block _ (block_lt FLD)).trans FLD)
                  have FTq8 := (FTD.later hb8)
                  have lt8 : W3.heap.size ≤ WD.heap.size ∧ gl < WD.heap.size ∧ gq < WD.heap.size := ⟨HBD.size, block_lt FLD, World.block_lt_of_cell? _ _ FTD.c0⟩
                  refine wpAnyH_ready (rs := [7]) (by kernel_rfl) (by simp) ?_
                  refine AllReadyH.cons rfl (fun K hK => ?_) AllReadyH.nil
                  try simp only [Act.put, List.getElem_toArray, List.getElem_cons_zero, List.getElem_cons_succ, List.setIfInBounds_toArray, List.set_cons_zero, List.set_cons_succ]
                  go_simp
                  go_at_call 23
                  refine (KP.out _).mono ?_
                  rintro e wq9 ⟨rfl, hb9⟩
                  have HBq9 := HBq8.trans (hb9.mono HBq8.size)
                  have FLq9 := ((hb9.block _ (block_lt FLq8)).trans FLq8)
                  have FTq9 := (FTq8.later hb9)
                  have HGq9 := (hb9.block _ (block_lt hk8)).trans hk8
                  go_wp2_with fail
                  refine hK.out _ _ ⟨HBq9, FLq9, FTq9⟩ (fun _ => ?_)
                  clear hK K
                  try simp only [Act.put, List.getElem_toArray, List.getElem_cons_zero, List.getElem_cons_succ, List.setIfInBounds_toArray, List.set_cons_zero, List.set_cons_succ]
                  refine wpAnyH_ready (rs := [18]) (by kernel_rfl) (by simp) ?_
                  refine AllReadyH.cons rfl (fun K hK => ?_) AllReadyH.nil
                  try simp only [Act.put, List.getElem_toArray, List.getElem_cons_zero, List.getElem_cons_succ, List.setIfInBounds_toArray, List.set_cons_zero, List.set_cons_succ]
                  go_simp
                  go_at_call 24
                  refine (KN2.out _).mono ?_
                  rintro e wq10 ⟨rfl, hb10⟩
                  have HBq10 := HBq9.trans (hb10.mono HBq9.size)
                  have FLq10 := ((hb10.block _ (block_lt FLq9)).trans FLq9)
                  have FTq10 := (FTq9.later hb10)
                  have HGq10 := (hb10.block _ (block_lt HGq9)).trans HGq9
                  go_wp2_with fail
                  refine hK.out _ _ ⟨HBq10, FLq10, FTq10⟩ (fun _ => ?_)
                  clear hK K
                  try simp only [Act.put, List.getElem_toArray, List.getElem_cons_zero, List.getElem_cons_succ, List.setIfInBounds_toArray, List.set_cons_zero, List.set_cons_succ]
                  refine wpAnyH_take (i := 19) (v := ?_) rfl (by kernel_rfl) (by kernel_rfl) (by kernel_rfl) (fun _ _ _ h => h) (Or.inl ⟨by rfl, ?_⟩) ⟨HBq10, FLq10, FTq10⟩ ?_
                  rotate_left
                  · intro w' hSw; obtain ⟨ac0, ac1, ac2, ac3, ac4, ac5, ac6⟩ := cells7 hSw.2.1; obtain ⟨tc0, tc1, tc2, tc3⟩ := hSw.2.2; go_simp; first | done | with_reducible rfl | rfl
                  try simp only [Act.put, List.getElem_toArray, List.getElem_cons_zero, List.getElem_cons_succ, List.setIfInBounds_toArray, List.set_cons_zero, List.set_cons_succ]
                  refine wpAnyH_take (i := 20) (v := ?_) rfl (by kernel_rfl) (by kernel_rfl) (by kernel_rfl) (fun _ _ _ h => h) (Or.inl ⟨by rfl, ?_⟩) ⟨HBq10, FLq10, FTq10⟩ ?_
                  rotate_left
                  · intro w' hSw; obtain ⟨ac0, ac1, ac2, ac3, ac4, ac5, ac6⟩ := cells7 hSw.2.1; obtain ⟨tc0, tc1, tc2, tc3⟩ := hSw.2.2; go_simp; first | done | with_reducible rfl | rfl
                  try simp only [Act.put, List.getElem_toArray, List.getElem_cons_zero, List.getElem_cons_succ, List.setIfInBounds_toArray, List.set_cons_zero, List.set_cons_succ]
                  refine wpAnyH_take (i := 21) (v := ?_) rfl (by kernel_rfl) (by kernel_rfl) (by kernel_rfl) (fun _ _ _ h => h) (Or.inl ⟨by rfl, ?_⟩) ⟨HBq10, FLq10, FTq10⟩ ?_
                  rotate_left
                  · intro w' hSw; obtain ⟨ac0, ac1, ac2, ac3, ac4, ac5, ac6⟩ := cells7 hSw.2.1; obtain ⟨tc0, tc1, tc2, tc3⟩ := hSw.2.2; go_simp; first | done | with_reducible rfl | rfl
                  try simp only [Act.put, List.getElem_toArray, List.getElem_cons_zero, List.getElem_cons_succ, List.setIfInBounds_toArray, List.set_cons_zero, List.set_cons_succ]
                  refine wpAnyH_ready (rs := [23]) (by kernel_rfl) (by simp) ?_
                  refine AllReadyH.cons rfl (fun K hK => ?_) AllReadyH.nil
                  obtain ⟨z0, z1, z2, z3, z4, z5, z6⟩ := cells7 HGq10
                  obtain ⟨y0, y1, y2, y3, y4, y5, y6⟩ := free7 HGq10
                  try simp only [Act.put, List.getElem_toArray, List.getElem_cons_zero, List.getElem_cons_succ]
                  go_simp
                  have HBq11 := HBq10.trans (set7_below (w := wq10) (G := WD.heap.size) (by have := lt8; omega) (.int .u64 y.h.shard) (.int .u64 y.h.seq) (.string y.h.prev) (.string y.h.root) (.int .u64 y.h.who) (.int .u64 y.h.stamp) (.string y.mac))
                  have FLq11 := ((set7_other _ (WD.heap.size) (.int .u64 y.h.shard) (.int .u64 y.h.seq) (.string y.h.prev) (.string y.h.root) (.int .u64 y.h.who) (.int .u64 y.h.stamp) (.string y.mac) (gl) (by have := lt8; omega)).trans FLq10)
                  have FTq11 := (FTq10.mv (set7_other _ (WD.heap.size) (.int .u64 y.h.shard) (.int .u64 y.h.seq) (.string y.h.prev) (.string y.h.root) (.int .u64 y.h.who) (.int .u64 y.h.stamp) (.string y.mac) (gq) (by have := lt8; omega)))
                  have HGq11 := set7_heap HGq10 (.int .u64 y.h.shard) (.int .u64 y.h.seq) (.string y.h.prev) (.string y.h.root) (.int .u64 y.h.who) (.int .u64 y.h.stamp) (.string y.mac)
                  refine hK.out _ (set7 wq10 (WD.heap.size) (.int .u64 y.h.shard) (.int .u64 y.h.seq) (.string y.h.prev) (.string y.h.root) (.int .u64 y.h.who) (.int .u64 y.h.stamp) (.string y.mac)) ⟨HBq11, FLq11, FTq11⟩ (fun _ => ?_)
                  clear hK K z0 z1 z2 z3 z4 z5 z6 y0 y1 y2 y3 y4 y5 y6
                  try simp only [Act.put, List.getElem_toArray, List.getElem_cons_zero, List.getElem_cons_succ]
                  refine wpAnyH_take (i := 24) (v := ?_) rfl (by kernel_rfl) (by kernel_rfl) (by kernel_rfl) (fun _ _ _ h => h) (Or.inl ⟨by rfl, ?_⟩) ⟨HBq11, FLq11, FTq11⟩ ?_
                  rotate_left
                  · intro w' hSw; obtain ⟨ac0, ac1, ac2, ac3, ac4, ac5, ac6⟩ := cells7 hSw.2.1; obtain ⟨tc0, tc1, tc2, tc3⟩ := hSw.2.2; go_simp; first | done | with_reducible rfl | rfl
                  try simp only [Act.put, List.getElem_toArray, List.getElem_cons_zero, List.getElem_cons_succ, List.setIfInBounds_toArray, List.set_cons_zero, List.set_cons_succ]
                  refine wpAnyH_done (by kernel_rfl) ?_ _
                  refine NoPanic.normal ?_
                  go_wp2_with fail
                  go_meet
                  exact ⟨WD.heap.size, rfl, rfl, Lib.hid (by have := lt8; omega), Lib.hid HBq11, Lib.hid FLq11, Lib.hid FTq11, Lib.hid HGq11⟩
              case rest =>
                obtain ⟨gb, rfl, rfl, HLB, HB4, HL4, HT4, HD4⟩ := hcut
                have HA4 := Lib.hid ((HB4.out.block _ (block_lt HA3.out)).trans HA3.out)
                have HS4 := Lib.hid (((HB3.out.trans (HB4.out.mono HB3.out.size)).block _ (block_lt HS2.out)).trans HS2.out)
                have HB5 : Hid (Below WB.heap.size WB wc) := Lib.hid (HB2.out.trans ((HB3.out.trans (HB4.out.mono HB3.out.size)).mono HB2.out.size))
                go_upto_region 16 with fail
                refine wp_region_held_drew (S := fun w' => Below WB.heap.size WB w' ∧ (w'.heap[gl]? = some (.cells #[.int .u64 f.h.shard, .int .u64 f.h.seq, .string f.h.prev, .string f.h.root, .int .u64 f.h.who, .int .u64 f.h.stamp, .string f.mac] 26 (0, 0))) ∧ (w'.heap[gs]? = some (.cells #[.int .u64 s.h.shard, .int .u64 s.h.seq, .string s.h.prev, .string s.h.root, .int .u64 s.h.who, .int .u64 s.h.stamp, .string s.mac] 26 (0, 0))) ∧ (w'.heap[ga]? = some (.cells #[.int .u64 y.h.shard, .int .u64 y.h.seq, .string y.h.prev, .string y.h.root, .int .u64 y.h.who, .int .u64 y.h.stamp, .string y.mac] 26 (0, 0))) ∧ (w'.heap[gb]? = some (.cells #[.int .u64 y.h.shard, .int .u64 y.h.seq, .string y.h.prev, .string y.h.root, .int .u64 y.h.who, .int .u64 y.h.stamp, .string y.mac] 26 (0, 0)))) (by kernel_rfl) (⟨HB5.out.drew, HL4.out, HS4.out, HA4.out, HD4.out⟩) (fun hHeld => ?_)
                refine wpAnyH_take (i := 0) (v := ?_) rfl (by kernel_rfl) (by kernel_rfl) (by kernel_rfl) (fun _ _ _ h => h) (Or.inl ⟨by rfl, ?_⟩) hHeld ?_
                rotate_left
                · intro w' hSw; obtain ⟨c0, c1, c2, c3, c4, c5, c6⟩ := cells7 hSw.2.1; obtain ⟨d0, d1, d2, d3, d4, d5, d6⟩ := cells7 hSw.2.2.1; obtain ⟨e0, e1, e2, e3, e4, e5, e6⟩ := cells7 hSw.2.2.2.1; obtain ⟨x0, x1, x2, x3, x4, x5, x6⟩ := cells7 hSw.2.2.2.2; go_simp; first | done | with_reducible rfl | rfl
                try simp only [Act.put, List.getElem_toArray, List.getElem_cons_zero, List.setIfInBounds_toArray, List.set_cons_zero, List.set_cons_succ]
                refine wpAnyH_take (i := 1) (v := ?_) rfl (by kernel_rfl) (by kernel_rfl) (by kernel_rfl) (fun _ _ _ h => h) (Or.inl ⟨by rfl, ?_⟩) hHeld ?_
                rotate_left
                · intro w' hSw; obtain ⟨c0, c1, c2, c3, c4, c5, c6⟩ := cells7 hSw.2.1; obtain ⟨d0, d1, d2, d3, d4, d5, d6⟩ := cells7 hSw.2.2.1; obtain ⟨e0, e1, e2, e3, e4, e5, e6⟩ := cells7 hSw.2.2.2.1; obtain ⟨x0, x1, x2, x3, x4, x5, x6⟩ := cells7 hSw.2.2.2.2; go_simp; first | done | with_reducible rfl | rfl
                try simp only [Act.put, List.getElem_toArray, List.getElem_cons_zero, List.getElem_cons_succ, List.setIfInBounds_toArray, List.set_cons_zero, List.set_cons_succ]
                refine wpAnyH_take (i := 2) (v := ?_) rfl (by kernel_rfl) (by kernel_rfl) (by kernel_rfl) (fun _ _ _ h => h) (Or.inl ⟨by rfl, ?_⟩) hHeld ?_
                rotate_left
                · intro w' hSw; obtain ⟨c0, c1, c2, c3, c4, c5, c6⟩ := cells7 hSw.2.1; obtain ⟨d0, d1, d2, d3, d4, d5, d6⟩ := cells7 hSw.2.2.1; obtain ⟨e0, e1, e2, e3, e4, e5, e6⟩ := cells7 hSw.2.2.2.1; obtain ⟨x0, x1, x2, x3, x4, x5, x6⟩ := cells7 hSw.2.2.2.2; go_simp; first | done | with_reducible rfl | rfl
                try simp only [Act.put, List.getElem_toArray, List.getElem_cons_zero, List.getElem_cons_succ, List.setIfInBounds_toArray, List.set_cons_zero, List.set_cons_succ]
                refine wpAnyH_take (i := 3) (v := ?_) rfl (by kernel_rfl) (by kernel_rfl) (by kernel_rfl) (fun _ _ _ h => h) (Or.inl ⟨by rfl, ?_⟩) hHeld ?_
                rotate_left
                · intro w' hSw; obtain ⟨c0, c1, c2, c3, c4, c5, c6⟩ := cells7 hSw.2.1; obtain ⟨d0, d1, d2, d3, d4, d5, d6⟩ := cells7 hSw.2.2.1; obtain ⟨e0, e1, e2, e3, e4, e5, e6⟩ := cells7 hSw.2.2.2.1; obtain ⟨x0, x1, x2, x3, x4, x5, x6⟩ := cells7 hSw.2.2.2.2; go_simp; first | done | with_reducible rfl | rfl
                try simp only [Act.put, List.getElem_toArray, List.getElem_cons_zero, List.getElem_cons_succ, List.setIfInBounds_toArray, List.set_cons_zero, List.set_cons_succ]
                refine wpAnyH_take (i := 4) (v := ?_) rfl (by kernel_rfl) (by kernel_rfl) (by kernel_rfl) (fun _ _ _ h => h) (Or.inl ⟨by rfl, ?_⟩) hHeld ?_
                rotate_left
                · intro w' hSw; obtain ⟨c0, c1, c2, c3, c4, c5, c6⟩ := cells7 hSw.2.1; obtain ⟨d0, d1, d2, d3, d4, d5, d6⟩ := cells7 hSw.2.2.1; obtain ⟨e0, e1, e2, e3, e4, e5, e6⟩ := cells7 hSw.2.2.2.1; obtain ⟨x0, x1, x2, x3, x4, x5, x6⟩ := cells7 hSw.2.2.2.2; go_simp; first | done | with_reducible rfl | rfl
                try simp only [Act.put, List.getElem_toArray, List.getElem_cons_zero, List.getElem_cons_succ, List.setIfInBounds_toArray, List.set_cons_zero, List.set_cons_succ]
                refine wpAnyH_take (i := 5) (v := ?_) rfl (by kernel_rfl) (by kernel_rfl) (by kernel_rfl) (fun _ _ _ h => h) (Or.inl ⟨by rfl, ?_⟩) hHeld ?_
                rotate_left
                · intro w' hSw; obtain ⟨c0, c1, c2, c3, c4, c5, c6⟩ := cells7 hSw.2.1; obtain ⟨d0, d1, d2, d3, d4, d5, d6⟩ := cells7 hSw.2.2.1; obtain ⟨e0, e1, e2, e3, e4, e5, e6⟩ := cells7 hSw.2.2.2.1; obtain ⟨x0, x1, x2, x3, x4, x5, x6⟩ := cells7 hSw.2.2.2.2; go_simp; first | done | with_reducible rfl | rfl
                try simp only [Act.put, List.getElem_toArray, List.getElem_cons_zero, List.getElem_cons_succ, List.setIfInBounds_toArray, List.set_cons_zero, List.set_cons_succ]
                refine wpAnyH_take (i := 6) (v := ?_) rfl (by kernel_rfl) (by kernel_rfl) (by kernel_rfl) (fun _ _ _ h => h) (Or.inl ⟨by rfl, ?_⟩) hHeld ?_
                rotate_left
                · intro w' hSw; obtain ⟨c0, c1, c2, c3, c4, c5, c6⟩ := cells7 hSw.2.1; obtain ⟨d0, d1, d2, d3, d4, d5, d6⟩ := cells7 hSw.2.2.1; obtain ⟨e0, e1, e2, e3, e4, e5, e6⟩ := cells7 hSw.2.2.2.1; obtain ⟨x0, x1, x2, x3, x4, x5, x6⟩ := cells7 hSw.2.2.2.2; go_simp; first | done | with_reducible rfl | rfl
                try simp only [Act.put, List.getElem_toArray, List.getElem_cons_zero, List.getElem_cons_succ, List.setIfInBounds_toArray, List.set_cons_zero, List.set_cons_succ]
                refine wpAnyH_take (i := 7) (v := ?_) rfl (by kernel_rfl) (by kernel_rfl) (by kernel_rfl) (fun _ _ _ h => h) (Or.inl ⟨by rfl, ?_⟩) hHeld ?_
                rotate_left
                · intro w' hSw; obtain ⟨c0, c1, c2, c3, c4, c5, c6⟩ := cells7 hSw.2.1; obtain ⟨d0, d1, d2, d3, d4, d5, d6⟩ := cells7 hSw.2.2.1; obtain ⟨e0, e1, e2, e3, e4, e5, e6⟩ := cells7 hSw.2.2.2.1; obtain ⟨x0, x1, x2, x3, x4, x5, x6⟩ := cells7 hSw.2.2.2.2; go_simp; first | done | with_reducible rfl | rfl
                try simp only [Act.put, List.getElem_toArray, List.getElem_cons_zero, List.getElem_cons_succ, List.setIfInBounds_toArray, List.set_cons_zero, List.set_cons_succ]
                refine wpAnyH_take (i := 8) (v := ?_) rfl (by kernel_rfl) (by kernel_rfl) (by kernel_rfl) (fun _ _ _ h => h) (Or.inl ⟨by rfl, ?_⟩) hHeld ?_
                rotate_left
                · intro w' hSw; obtain ⟨c0, c1, c2, c3, c4, c5, c6⟩ := cells7 hSw.2.1; obtain ⟨d0, d1, d2, d3, d4, d5, d6⟩ := cells7 hSw.2.2.1; obtain ⟨e0, e1, e2, e3, e4, e5, e6⟩ := cells7 hSw.2.2.2.1; obtain ⟨x0, x1, x2, x3, x4, x5, x6⟩ := cells7 hSw.2.2.2.2; go_simp; first | done | with_reducible rfl | rfl
                try simp only [Act.put, List.getElem_toArray, List.getElem_cons_zero, List.getElem_cons_succ, List.setIfInBounds_toArray, List.set_cons_zero, List.set_cons_succ]
                refine wpAnyH_take (i := 9) (v := ?_) rfl (by kernel_rfl) (by kernel_rfl) (by kernel_rfl) (fun _ _ _ h => h) (Or.inl ⟨by rfl, ?_⟩) hHeld ?_
                rotate_left
                · intro w' hSw; obtain ⟨c0, c1, c2, c3, c4, c5, c6⟩ := cells7 hSw.2.1; obtain ⟨d0, d1, d2, d3, d4, d5, d6⟩ := cells7 hSw.2.2.1; obtain ⟨e0, e1, e2, e3, e4, e5, e6⟩ := cells7 hSw.2.2.2.1; obtain ⟨x0, x1, x2, x3, x4, x5, x6⟩ := cells7 hSw.2.2.2.2; go_simp; first | done | with_reducible rfl | rfl
                try simp only [Act.put, List.getElem_toArray, List.getElem_cons_zero, List.getElem_cons_succ, List.setIfInBounds_toArray, List.set_cons_zero, List.set_cons_succ]
                refine wpAnyH_take (i := 10) (v := ?_) rfl (by kernel_rfl) (by kernel_rfl) (by kernel_rfl) (fun _ _ _ h => h) (Or.inl ⟨by rfl, ?_⟩) hHeld ?_
                rotate_left
                · intro w' hSw; obtain ⟨c0, c1, c2, c3, c4, c5, c6⟩ := cells7 hSw.2.1; obtain ⟨d0, d1, d2, d3, d4, d5, d6⟩ := cells7 hSw.2.2.1; obtain ⟨e0, e1, e2, e3, e4, e5, e6⟩ := cells7 hSw.2.2.2.1; obtain ⟨x0, x1, x2, x3, x4, x5, x6⟩ := cells7 hSw.2.2.2.2; go_simp; first | done | with_reducible rfl | rfl
                try simp only [Act.put, List.getElem_toArray, List.getElem_cons_zero, List.getElem_cons_succ, List.setIfInBounds_toArray, List.set_cons_zero, List.set_cons_succ]
                refine wpAnyH_take (i := 11) (v := ?_) rfl (by kernel_rfl) (by kernel_rfl) (by kernel_rfl) (fun _ _ _ h => h) (Or.inl ⟨by rfl, ?_⟩) hHeld ?_
                rotate_left
                · intro w' hSw; obtain ⟨c0, c1, c2, c3, c4, c5, c6⟩ := cells7 hSw.2.1; obtain ⟨d0, d1, d2, d3, d4, d5, d6⟩ := cells7 hSw.2.2.1; obtain ⟨e0, e1, e2, e3, e4, e5, e6⟩ := cells7 hSw.2.2.2.1; obtain ⟨x0, x1, x2, x3, x4, x5, x6⟩ := cells7 hSw.2.2.2.2; go_simp; first | done | with_reducible rfl | rfl
                try simp only [Act.put, List.getElem_toArray, List.getElem_cons_zero, List.getElem_cons_succ, List.setIfInBounds_toArray, List.set_cons_zero, List.set_cons_succ]
                refine wpAnyH_take (i := 12) (v := ?_) rfl (by kernel_rfl) (by kernel_rfl) (by kernel_rfl) (fun _ _ _ h => h) (Or.inl ⟨by rfl, ?_⟩) hHeld ?_
                rotate_left
                · intro w' hSw; obtain ⟨c0, c1, c2, c3, c4, c5, c6⟩ := cells7 hSw.2.1; obtain ⟨d0, d1, d2, d3, d4, d5, d6⟩ := cells7 hSw.2.2.1; obtain ⟨e0, e1, e2, e3, e4, e5, e6⟩ := cells7 hSw.2.2.2.1; obtain ⟨x0, x1, x2, x3, x4, x5, x6⟩ := cells7 hSw.2.2.2.2; go_simp; first | done | with_reducible rfl | rfl
                try simp only [Act.put, List.getElem_toArray, List.getElem_cons_zero, List.getElem_cons_succ, List.setIfInBounds_toArray, List.set_cons_zero, List.set_cons_succ]
                refine wpAnyH_take (i := 14) (v := ?_) rfl (by kernel_rfl) (by kernel_rfl) (by kernel_rfl) (fun _ _ _ h => h) (Or.inl ⟨by rfl, ?_⟩) hHeld ?_
                rotate_left
                · intro w' hSw; obtain ⟨c0, c1, c2, c3, c4, c5, c6⟩ := cells7 hSw.2.1; obtain ⟨d0, d1, d2, d3, d4, d5, d6⟩ := cells7 hSw.2.2.1; obtain ⟨e0, e1, e2, e3, e4, e5, e6⟩ := cells7 hSw.2.2.2.1; obtain ⟨x0, x1, x2, x3, x4, x5, x6⟩ := cells7 hSw.2.2.2.2; go_simp; first | done | with_reducible rfl | rfl
                try simp only [Act.put, List.getElem_toArray, List.getElem_cons_zero, List.getElem_cons_succ, List.setIfInBounds_toArray, List.set_cons_zero, List.set_cons_succ]
                refine wpAnyH_take (i := 15) (v := ?_) rfl (by kernel_rfl) (by kernel_rfl) (by kernel_rfl) (fun _ _ _ h => h) (Or.inl ⟨by rfl, ?_⟩) hHeld ?_
                rotate_left
                · intro w' hSw; obtain ⟨c0, c1, c2, c3, c4, c5, c6⟩ := cells7 hSw.2.1; obtain ⟨d0, d1, d2, d3, d4, d5, d6⟩ := cells7 hSw.2.2.1; obtain ⟨e0, e1, e2, e3, e4, e5, e6⟩ := cells7 hSw.2.2.2.1; obtain ⟨x0, x1, x2, x3, x4, x5, x6⟩ := cells7 hSw.2.2.2.2; go_simp; first | done | with_reducible rfl | rfl
                try simp only [Act.put, List.getElem_toArray, List.getElem_cons_zero, List.getElem_cons_succ, List.setIfInBounds_toArray, List.set_cons_zero, List.set_cons_succ]
                refine wpAnyH_take (i := 16) (v := ?_) rfl (by kernel_rfl) (by kernel_rfl) (by kernel_rfl) (fun _ _ _ h => h) (Or.inl ⟨by rfl, ?_⟩) hHeld ?_
                rotate_left
                · intro w' hSw; obtain ⟨c0, c1, c2, c3, c4, c5, c6⟩ := cells7 hSw.2.1; obtain ⟨d0, d1, d2, d3, d4, d5, d6⟩ := cells7 hSw.2.2.1; obtain ⟨e0, e1, e2, e3, e4, e5, e6⟩ := cells7 hSw.2.2.2.1; obtain ⟨x0, x1, x2, x3, x4, x5, x6⟩ := cells7 hSw.2.2.2.2; go_simp; first | done | with_reducible rfl | rfl
                try simp only [Act.put, List.getElem_toArray, List.getElem_cons_zero, List.getElem_cons_succ, List.setIfInBounds_toArray, List.set_cons_zero, List.set_cons_succ]
                refine wpAnyH_take (i := 17) (v := ?_) rfl (by kernel_rfl) (by kernel_rfl) (by kernel_rfl) (fun _ _ _ h => h) (Or.inl ⟨by rfl, ?_⟩) hHeld ?_
                rotate_left
                · intro w' hSw; obtain ⟨c0, c1, c2, c3, c4, c5, c6⟩ := cells7 hSw.2.1; obtain ⟨d0, d1, d2, d3, d4, d5, d6⟩ := cells7 hSw.2.2.1; obtain ⟨e0, e1, e2, e3, e4, e5, e6⟩ := cells7 hSw.2.2.2.1; obtain ⟨x0, x1, x2, x3, x4, x5, x6⟩ := cells7 hSw.2.2.2.2; go_simp; first | done | with_reducible rfl | rfl
                try simp only [Act.put, List.getElem_toArray, List.getElem_cons_zero, List.getElem_cons_succ, List.setIfInBounds_toArray, List.set_cons_zero, List.set_cons_succ]
                refine wpAnyH_ready (rs := [13]) (by kernel_rfl) (by simp) ?_
                refine AllReadyH.cons rfl (fun K hK => ?_) AllReadyH.nil
                try simp only [Act.put, List.getElem_toArray, List.getElem_cons_zero, List.getElem_cons_succ, List.setIfInBounds_toArray, List.set_cons_zero, List.set_cons_succ]
                go_simp
                go_at_call 25
                refine (KO1.out _ (HST.out.later (HB7.out.trans ((HB5.out.drew).mono HB7.out.size)))).mono ?_
                rintro e wa13 ⟨rfl, hba13⟩
                have HBa13 := (HB5.out.drew).trans (hba13.mono (HB5.out.drew).size)
                have HLa13 := (hba13.block _ (block_lt (HL4.out))).trans (HL4.out)
                have HSa13 := (hba13.block _ (block_lt (HS4.out))).trans (HS4.out)
                have HAa13 := (hba13.block _ (block_lt (HA4.out))).trans (HA4.out)
                have HDa13 := (hba13.block _ (block_lt (HD4.out))).trans (HD4.out)
                go_wp2_with fail
                clear hHeld
                refine hK.out _ _ (⟨HBa13, HLa13, HSa13, HAa13, HDa13⟩) (fun hHeld => ?_)
                clear hK K
                try simp only [Act.put, List.getElem_toArray, List.getElem_cons_zero, List.getElem_cons_succ, List.setIfInBounds_toArray, List.set_cons_zero, List.set_cons_succ]
                refine wpAnyH_ready (rs := [18]) (by kernel_rfl) (by simp) ?_
                refine AllReadyH.cons rfl (fun K hK => ?_) AllReadyH.nil
                try simp only [Act.put, List.getElem_toArray, List.getElem_cons_zero, List.getElem_cons_succ, List.setIfInBounds_toArray, List.set_cons_zero, List.set_cons_succ]
                go_simp
                go_at_call 26
                refine (KO2.out _).mono ?_
                rintro e wa18 ⟨rfl, hba18⟩
                have HBa18 := (HBa13).trans (hba18.mono (HBa13).size)
                have HLa18 := (hba18.block _ (block_lt (HLa13))).trans (HLa13)
                have HSa18 := (hba18.block _ (block_lt (HSa13))).trans (HSa13)
                have HAa18 := (hba18.block _ (block_lt (HAa13))).trans (HAa13)
                have HDa18 := (hba18.block _ (block_lt (HDa13))).trans (HDa13)
                go_wp2_with fail
                clear hHeld
                refine hK.out _ _ (⟨HBa18, HLa18, HSa18, HAa18, HDa18⟩) (fun hHeld => ?_)
                clear hK K
                try simp only [Act.put, List.getElem_toArray, List.getElem_cons_zero, List.getElem_cons_succ, List.setIfInBounds_toArray, List.set_cons_zero, List.set_cons_succ]
                refine wpAnyH_take (i := 19) (v := ?_) rfl (by kernel_rfl) (by kernel_rfl) (by kernel_rfl) (fun _ _ _ h => h) (Or.inl ⟨by rfl, ?_⟩) hHeld ?_
                rotate_left
                · intro w' hSw; obtain ⟨c0, c1, c2, c3, c4, c5, c6⟩ := cells7 hSw.2.1; obtain ⟨d0, d1, d2, d3, d4, d5, d6⟩ := cells7 hSw.2.2.1; obtain ⟨e0, e1, e2, e3, e4, e5, e6⟩ := cells7 hSw.2.2.2.1; obtain ⟨x0, x1, x2, x3, x4, x5, x6⟩ := cells7 hSw.2.2.2.2; go_simp; first | done | with_reducible rfl | rfl
                try simp only [Act.put, List.getElem_toArray, List.getElem_cons_zero, List.getElem_cons_succ, List.setIfInBounds_toArray, List.set_cons_zero, List.set_cons_succ]
                refine wpAnyH_take (i := 20) (v := ?_) rfl (by kernel_rfl) (by kernel_rfl) (by kernel_rfl) (fun _ _ _ h => h) (Or.inl ⟨by rfl, ?_⟩) hHeld ?_
                rotate_left
                · intro w' hSw; obtain ⟨c0, c1, c2, c3, c4, c5, c6⟩ := cells7 hSw.2.1; obtain ⟨d0, d1, d2, d3, d4, d5, d6⟩ := cells7 hSw.2.2.1; obtain ⟨e0, e1, e2, e3, e4, e5, e6⟩ := cells7 hSw.2.2.2.1; obtain ⟨x0, x1, x2, x3, x4, x5, x6⟩ := cells7 hSw.2.2.2.2; go_simp; first | done | with_reducible rfl | rfl
                try simp only [Act.put, List.getElem_toArray, List.getElem_cons_zero, List.getElem_cons_succ, List.setIfInBounds_toArray, List.set_cons_zero, List.set_cons_succ]
                refine wpAnyH_done (by kernel_rfl) ?_ _
                have hlm : WB.heap.size ≤ gl := HGL.out
                obtain ⟨c0, c1, c2, c3, c4, c5, c6⟩ := cells7 HLa18
                obtain ⟨d0, d1, d2, d3, d4, d5, d6⟩ := cells7 HSa18
                obtain ⟨l0, l1, l2, l3, l4, l5, l6⟩ := free7 HLa18
                have hne1 : gl ≠ gs := by have := HGS.out; omega
                have hne2 : gs ≠ gl := by have := HGS.out; omega
                have HZ1 := Lib.hid HBa18
                have HZ2 := Lib.hid HLa18
                clear HBa13 HLa13 HSa13 HAa13 HDa13 HSa18 HAa18 HDa18 HBa18 HLa18
                go_wp2_with fail
                go_roundw
                case rel =>
                  exact ⟨k + 1, s, by go_num, by rw [HMN.out]; exact HLT.out, HSG, Lib.hid (HZ1.out.trans (set7_below HGL.out _ _ _ _ _ _ _)), Lib.hid (set7_heap HZ2.out _ _ _ _ _ _ _)⟩
                case measure => simp [intOf]; omega
          · have hlt2 : ¬ (k : Int) < (N : Int) := by omega
            clear hk
            go_wp2_with fail
            obtain ⟨gk, hgk⟩ : ∃ g, g = wr.heap.size := ⟨_, rfl⟩
            obtain ⟨WC, hWC⟩ : ∃ W, W = wr.alloc (.cells #[.string key, .string other] 9) := ⟨_, rfl⟩
            have HBC : Hid (Below WB.heap.size WB WC) := Lib.hid (by rw [hWC]; exact HB.out.alloc HB.out.size _)
            have HKC : Hid (WC.heap[gk]? = some (.cells #[.string key, .string other] 9 (0, 0))) := Lib.hid (by rw [hWC, hgk]; exact heap_alloc_new _ _)
            simp only [← hWC, ← hgk]
            clear hWC hgk
            go_loopw [132] (ch2Rel WC) (fun i _ => 2 - (intOf i).toNat)
            case atStart => exact ⟨0, rfl, by omega, Lib.hid (Below.refl _ _)⟩
            case round =>
              obtain ⟨j, rfl, hj, HBJ⟩ := hrel
              by_cases hj2 : j < 2
              · have j0 : (0 : Int) ≤ (j : Int) := by omega
                have j1 : (j : Int) < 2 := by omega
                have HKJ := (HBJ.out.block _ (block_lt HKC.out)).trans HKC.out
                obtain ⟨K, hK, HKS⟩ : ∃ K : ByteArray, wr.cell? ⟨gk, j, none⟩ = some (.string K) ∧ Hid (K.size ≤ 10000) := by
                  have hjj : j = 0 ∨ j = 1 := by omega
                  rcases hjj with rfl | rfl
                  · exact ⟨key, by simp [World.cell?, HKJ], HKK⟩
                  · exact ⟨other, by simp [World.cell?, HKJ], HOO⟩
                have HBN : Hid (Below WB.heap.size WB wr) := Lib.hid (HBC.out.trans (HBJ.out.mono HBC.out.size))
                have HBW : Hid (Below w.heap.size w wr) := Lib.hid (HB7.out.trans (HBN.out.mono HB7.out.size))
                have HFJ := Lib.hid ((HBN.out.block _ (block_lt HF7.out)).trans HF7.out)
                have HUJ : Hid (SSl wr (.slice ua N uc) m) := Lib.hid (HU7.out.later HBN.out)
                have hgm : ∀ s ∈ m, s.h.Ok 32 := fun s hs => (HGM.out s hs).1
                have hml : m.length ≤ 1000 := by have := HMN.out; have := HL20.out; omega
                have KC1 := Lib.hid (fun W (hW : SSl W (.slice ua N uc) m) (hS : Start W) => pchain_prog sum_ok K HKS.out f0 32 HGF.out.1 (by decide) m hgm hml _ W hW hS)
                have KC2 := Lib.hid (fun W (hW : SSl W (.slice ua N uc) m) => rchain_prog K HKS.out f0 32 HGF.out.1 (by decide) m hgm hml _ W hW)
                obtain ⟨X, hX⟩ : ∃ X, chainS K f0 m = X := ⟨_, rfl⟩
                obtain ⟨b, hb⟩ : ∃ b, (chainO K f0 m).isSome = b := ⟨_, rfl⟩
                rw [hX, hb] at KC1 KC2
                unfold sgV at KC1 KC2
                have HJ2 := Lib.hid hj2
                clear hX hb hgm hml HKJ hj hj2
                obtain ⟨c0, c1, c2, c3, c4, c5, c6⟩ := cells7 HFJ.out
                go_wp2_with fail
                refine (KC1.out _ HUJ.out (HST.out.later HBW.out)).mono ?_
                rintro e y1 ⟨rfl, hy1⟩
                have HB1' := Lib.hid (HBJ.out.trans (hy1.mono HBJ.out.size))
                have HF1' := Lib.hid ((hy1.block _ (block_lt HFJ.out)).trans HFJ.out)
                have HU1' := Lib.hid (HUJ.out.later hy1)
                clear hy1 c0 c1 c2 c3 c4 c5 c6
                obtain ⟨ga, hga⟩ : ∃ g, g = y1.heap.size := ⟨_, rfl⟩
                obtain ⟨Y2, hY2⟩ : ∃ W, W = y1.alloc (.cells #[.int .u64 X.h.shard, .int .u64 X.h.seq, .string X.h.prev, .string X.h.root, .int .u64 X.h.who, .int .u64 X.h.stamp, .string X.mac] 26) := ⟨_, rfl⟩
                have HB2' : Hid (Below WC.heap.size WC Y2) := Lib.hid (by rw [hY2]; exact HB1'.out.alloc HB1'.out.size _)
                have HF2' : Hid (Y2.heap[gf]? = some (.cells #[.int .u64 f0.h.shard, .int .u64 f0.h.seq, .string f0.h.prev, .string f0.h.root, .int .u64 f0.h.who, .int .u64 f0.h.stamp, .string f0.mac] 26 (0, 0))) := Lib.hid (by rw [hY2]; exact (Below.heap_alloc _ _ _ (block_lt HF1'.out)).trans HF1'.out)
                have HA2' : Hid (Y2.heap[ga]? = some (.cells #[.int .u64 X.h.shard, .int .u64 X.h.seq, .string X.h.prev, .string X.h.root, .int .u64 X.h.who, .int .u64 X.h.stamp, .string X.mac] 26 (0, 0))) := Lib.hid (by rw [hY2, hga]; exact heap_alloc_new _ _)
                have HU2' : Hid (SSl Y2 (.slice ua N uc) m) := Lib.hid (by rw [hY2]; exact HU1'.out.later ((Below.refl _ _).alloc (Nat.le_refl _) _))
                go_upto_region 24 with fail
                simp only [← hY2, ← hga]
                clear hY2 hga
                obtain ⟨c0, c1, c2, c3, c4, c5, c6⟩ := cells7 HF2'.out
                go_wp2_with fail
                refine (KC2.out _ HU2'.out).mono ?_
                rintro e y3 ⟨rfl, hy3⟩
                have HB3' := Lib.hid (HB2'.out.trans (hy3.mono HB2'.out.size))
                have HA3' := Lib.hid ((hy3.block _ (block_lt HA2'.out)).trans HA2'.out)
                clear hy3 c0 c1 c2 c3 c4 c5 c6
                obtain ⟨gb, hgb⟩ : ∃ g, g = y3.heap.size := ⟨_, rfl⟩
                obtain ⟨Y4, hY4⟩ : ∃ W, W = y3.alloc (.cells #[.int .u64 X.h.shard, .int .u64 X.h.seq, .string X.h.prev, .string X.h.root, .int .u64 X.h.who, .int .u64 X.h.stamp, .string X.mac] 26) := ⟨_, rfl⟩
                have HB4' : Hid (Below WC.heap.size WC Y4) := Lib.hid (by rw [hY4]; exact HB3'.out.alloc HB3'.out.size _)
                have HA4' : Hid (Y4.heap[ga]? = some (.cells #[.int .u64 X.h.shard, .int .u64 X.h.seq, .string X.h.prev, .string X.h.root, .int .u64 X.h.who, .int .u64 X.h.stamp, .string X.mac] 26 (0, 0))) := Lib.hid (by rw [hY4]; exact (Below.heap_alloc _ _ _ (block_lt HA3'.out)).trans HA3'.out)
                have HC4' : Hid (Y4.heap[gb]? = some (.cells #[.int .u64 X.h.shard, .int .u64 X.h.seq, .string X.h.prev, .string X.h.root, .int .u64 X.h.who, .int .u64 X.h.stamp, .string X.mac] 26 (0, 0))) := Lib.hid (by rw [hY4, hgb]; exact heap_alloc_new _ _)
                go_upto_region 25 with fail
                simp only [← hY4, ← hgb]
                clear hY4 hgb
                obtain ⟨c0, c1, c2, c3, c4, c5, c6⟩ := cells7 HA4'.out
                obtain ⟨d0, d1, d2, d3, d4, d5, d6⟩ := cells7 HC4'.out
                go_wp2_with fail
                go_roundw
                case rel => exact ⟨j + 1, by go_num, HJ2.out, HB4'⟩
                case measure => simp [intOf]; have := HJ2.out; omega
              · have j2 : ¬ (j : Int) < 2 := by omega
                clear hj hj2
                go_wp2_with fail
                go_ret
                exact ⟨rfl, (HB7.out.trans (HBC.out.mono HB7.out.size)).trans (HBJ.out.mono (HB7.out.trans (HBC.out.mono HB7.out.size)).size)⟩
    · have g1 : (100 : Int) < (other.size : Int) := by omega
      clear ho
      go_wp2_with fail
      go_ret
      exact ⟨rfl, HB3.out⟩
end Go.Proofs.YtgcaaigfgbglcaaDoor
