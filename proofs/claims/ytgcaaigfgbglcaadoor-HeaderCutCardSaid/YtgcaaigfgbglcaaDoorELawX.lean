/- HeaderCut's walk. -/
import Derived.Test.YtgcaaigfgbglcaaDoorECutP
import Derived.Test.YtgcaaigfgbglcaaDoorELawC
namespace Go.Proofs.YtgcaaigfgbglcaaDoor
open Go.RowKit
open Cod (Grew)
structure SC0 (w : World) (g : Nat) (s : Sg) : Prop where
  c0 : w.cell? ⟨g, 0, none⟩ = some (.int .u64 s.h.shard)
  c1 : w.cell? ⟨g, 1, none⟩ = some (.int .u64 s.h.seq)
  c2 : w.cell? ⟨g, 2, none⟩ = some (.string s.h.prev)
  c3 : w.cell? ⟨g, 3, none⟩ = some (.string s.h.root)
  c4 : w.cell? ⟨g, 4, none⟩ = some (.int .u64 s.h.who)
  c5 : w.cell? ⟨g, 5, none⟩ = some (.int .u64 s.h.stamp)
  c6 : w.cell? ⟨g, 6, none⟩ = some (.string s.mac)
theorem SCl.zero {w : World} {g : Nat} {s : Sg} (h : SCl w g (0 + 0 * 7) s) : SC0 w g s := by
  obtain ⟨c0, c1, c2, c3, c4, c5, c6⟩ := h
  exact ⟨c0, c1, c2, c3, c4, c5, c6⟩
theorem SC0.later {w w' : World} {g : Nat} {s : Sg} (h : SC0 w g s) (hb : Below w.heap.size w w') : SC0 w' g s :=
  ⟨cellE hb h.c0, cellE hb h.c1, cellE hb h.c2, cellE hb h.c3, cellE hb h.c4, cellE hb h.c5, cellE hb h.c6⟩
theorem SC0.mv {w w' : World} {g : Nat} {s : Sg} (h : SC0 w g s) (e : w'.heap[g]? = w.heap[g]?) : SC0 w' g s := by
  have f : ∀ k, w'.cell? ⟨g, k, none⟩ = w.cell? ⟨g, k, none⟩ := fun k => World.cell?_of_block (a := ⟨g, k, none⟩) e
  exact ⟨by rw [f]; exact h.c0, by rw [f]; exact h.c1, by rw [f]; exact h.c2, by rw [f]; exact h.c3, by rw [f]; exact h.c4, by rw [f]; exact h.c5, by rw [f]; exact h.c6⟩
theorem SOw.one {w : World} {B g : Nat} {s : Sg} (h : w.heap[g]? = some (.cells #[.int .u64 s.h.shard, .int .u64 s.h.seq, .string s.h.prev, .string s.h.root, .int .u64 s.h.who, .int .u64 s.h.stamp, .string s.mac] 26 (0, 0))) (hB : B ≤ g) : SOw w B (.slice (some ⟨g, 0, none⟩) 1 1) [s] :=
  ⟨by rw [sgsC_length], .inr ⟨g, 1, _, rfl, hB, h, Nat.le_refl _, by decide, rfl, rfl⟩⟩
theorem unturn_fit {l : List Stp} (h : ∀ x ∈ l, x.Fit) : ∀ x ∈ l.map unturn, x.Fit := fun x hx => by
  obtain ⟨y, hy, rfl⟩ := List.mem_map.1 hx
  obtain ⟨h1, h2, h3, _⟩ := h y hy
  exact ⟨h1, h2, h3, by simp [unturn]⟩
theorem tmod_nat (a : Int) (n : Nat) (h : 0 ≤ a) (hn : 0 < n) : ∃ k : Nat, a.tmod (n : Int) = (k : Int) ∧ k < n := by
  refine ⟨(a % (n : Int)).toNat, ?_, ?_⟩
  · rw [Int.tmod_eq_emod_of_nonneg h, Int.toNat_of_nonneg (Int.emod_nonneg _ (by omega))]
  · have := Int.emod_lt_of_pos a (by omega : (0 : Int) < n)
    have := Int.emod_nonneg a (by omega : (n : Int) ≠ 0)
    omega
set_option maxHeartbeats 8000000 in
set_option maxRecDepth 100000 in
theorem cut_law (key : ByteArray) (hkey : key.size ≤ maxLen) (l : List Stp) (hl : l.length ≤ maxLen) (hx : ∀ x ∈ l, x.Fit) (hb : l.length * 40 ≤ 140737488355328) (v : Value) (A B : Int) (hA : 0 ≤ A ∧ A ≤ 255) (hB : 0 ≤ B ∧ B ≤ 255) (w : World) (hv : StpSl w v l) (hst : Start w) :
    Calls Tryd.prog 8 #[.string key, v, .agg #[.int .u8 A, .int .u8 B]] w fun e w' => e = .returned (.bool true) ∧ Below w.heap.size w w' := by
  have HST := Lib.hid hst
  have KW := Lib.hid (fun W (hS : Start W) => awake_prog W hS)
  have KU := Lib.hid (fun W (hW : StpSl W v l) => unturn_prog l hb v W hW)
  have KM := Lib.hid (fun u W (hW : StpSl W u (l.map unturn)) => made_prog key hkey 1 ⟨by decide, by decide⟩ (l.map unturn) (by rw [List.length_map]; exact hl) (unturn_fit hx) u W hW)
  have HV := Lib.hid hv
  have HX := Lib.hid hx
  have HA := Lib.hid hA
  have HBB := Lib.hid hB
  obtain ⟨va, vc, rfl⟩ := hv.shape
  obtain ⟨W0, hW0⟩ : ∃ W0, W0 = w.alloc (.cells #[.int .u8 A, .int .u8 B] 60) := ⟨_, rfl⟩
  have HB0 := Lib.hid (show Below w.heap.size w W0 by rw [hW0]; exact (Below.refl _ _).alloc (Nat.le_refl _) _)
  have HK0 : Hid (W0.heap[w.heap.size]? = some (.cells #[.int .u8 A, .int .u8 B] 60 (0, 0))) := Lib.hid (by rw [hW0]; exact heap_alloc_new _ _)
  clear hst hkey hl hx hv hb hA hB
  go_enter Tryd.func8, Tryd.ntmps8
  go_upto_region 1 with fail
  simp only [← hW0]
  clear hW0
  go_wp2_with fail
  refine (KW.out _ (HST.out.later HB0.out)).mono ?_
  rintro e w1 ⟨rfl, hb1⟩
  have HB1 := Lib.hid (HB0.out.trans (hb1.mono HB0.out.size))
  have HK1 := Lib.hid ((hb1.block _ (block_lt HK0.out)).trans HK0.out)
  clear hb1 KW HK0
  go_wp2_with fail
  refine (KU.out _ (HV.out.later HB1.out)).mono ?_
  rintro e w2 ⟨u2, rfl, hu2, hb2⟩
  have HB2 := Lib.hid (HB1.out.trans (hb2.mono HB1.out.size))
  have HK2 := Lib.hid ((hb2.block _ (block_lt HK1.out)).trans HK1.out)
  clear hb2 KU HK1
  obtain ⟨u2a, u2c, rfl⟩ := hu2.out.shape
  have HU2 : Hid (StpSl w2 (.slice u2a (l.map unturn).length u2c) (l.map unturn)) := hu2
  obtain ⟨N2, hN2⟩ : ∃ n, (l.map unturn).length = n := ⟨_, rfl⟩
  rw [hN2] at HU2 ⊢
  clear hu2 hN2
  go_wp2_with fail
  refine (KM.out _ _ HU2.out).mono ?_
  rintro e w3 ⟨u, rfl, hu, hb3⟩
  have HB3 := Lib.hid (HB2.out.trans (hb3.mono HB2.out.size))
  have HK3 := Lib.hid ((hb3.block _ (block_lt HK2.out)).trans HK2.out)
  have HU := Lib.hid hu.out.sl
  clear hu hb3 KM HK2
  obtain ⟨R, hR⟩ : ∃ R, madeR key 1 (l.map unturn) = R := ⟨_, rfl⟩
  rw [hR] at HU ⊢
  cases R with
  | none =>
    dsimp only [Option.isSome]
    clear hR
    go_wp2_with fail
    go_ret
    exact ⟨rfl, HB3.out⟩
  | some m =>
    obtain ⟨hl20, hk100, hmo⟩ := madeR_some hR
    have HKK : Hid (key.size ≤ 10000) := Lib.hid (by omega)
    have HGF := Lib.hid (first_good key 1 ⟨by decide, by decide⟩)
    have HGM := Lib.hid (madeO_good key _ _ m HGF.out (unturn_fit HX.out) hmo)
    have HLK := Lib.hid (made_links key l _ m HGF.out HX.out hmo)
    have hml : m.length ≤ 20 := by rw [madeO_length key _ _ m hmo]; exact hl20
    have KF := Lib.hid (fun W => rfirst_prog key HKK.out 1 ⟨by decide, by decide⟩ W)
    obtain ⟨f0, hf0⟩ : ∃ f, firstS key 1 = f := ⟨_, rfl⟩
    rw [hf0] at HGF HLK KF
    unfold sgV at KF
    have HU3 : Hid (SSl w3 u m) := Lib.hid HU.out
    obtain ⟨ua, uc, rfl⟩ := HU3.out.shape
    obtain ⟨N, hN⟩ : ∃ N, m.length = N := ⟨_, rfl⟩
    rw [hN] at hml HU3 ⊢
    have HN := Lib.hid hN
    dsimp only [Option.isSome]
    clear hR hl20 hk100 hmo hf0 hN HU
    by_cases h0 : N = 0
    · have h0' : (N : Int) = 0 := by omega
      subst h0
      go_wp2_with fail
      go_ret
      exact ⟨rfl, HB3.out⟩
    · have h0' : ((N : Int) == 0) = false := by simp; omega
      have hN20 : (N : Int) ≤ 20 := by omega
      have HN0 := Lib.hid h0
      have HN20 := Lib.hid hml
      clear h0 hml
      go_wp2_with fail
      refine (KF.out _).mono ?_
      rintro e w4 ⟨rfl, hb4⟩
      have HB4 := Lib.hid (HB3.out.trans (hb4.mono HB3.out.size))
      have HK4 := Lib.hid ((hb4.block _ (block_lt HK3.out)).trans HK3.out)
      have HU4 := Lib.hid (HU3.out.later hb4)
      clear hb4 HK3
      obtain ⟨gz, hgz⟩ : ∃ g, g = w4.heap.size := ⟨_, rfl⟩
      obtain ⟨W5, hW5⟩ : ∃ W, W = w4.alloc (.cells #[.int .u64 f0.h.shard, .int .u64 f0.h.seq, .string f0.h.prev, .string f0.h.root, .int .u64 f0.h.who, .int .u64 f0.h.stamp, .string f0.mac] 26) := ⟨_, rfl⟩
      have HB5 : Hid (Below w.heap.size w W5) := Lib.hid (by rw [hW5]; exact HB4.out.alloc HB4.out.size _)
      have HZ5 : Hid (SOw W5 gz (.slice (some ⟨gz, 0, none⟩) 1 1) [f0]) := Lib.hid (by rw [hW5, hgz]; exact SOw.one (heap_alloc_new _ _) (Nat.le_refl _))
      have HU5 : Hid (SSl W5 (.slice ua N uc) m) := Lib.hid (by rw [hW5]; exact HU4.out.later ((Below.refl _ _).alloc (Nat.le_refl _) _))
      have HK5 : Hid (W5.heap[w.heap.size]? = some (.cells #[.int .u8 A, .int .u8 B] 60 (0, 0))) := Lib.hid (by rw [hW5]; exact (Below.heap_alloc _ _ _ (block_lt HK4.out)).trans HK4.out)
      have HGZ : Hid (w.heap.size < gz ∧ gz ≤ W5.heap.size) := Lib.hid (by rw [hgz, hW5]; exact ⟨block_lt HK4.out, by simp⟩)
      go_wp2_with (first
        | (at_builtin; simp only [← hW5, ← hgz]; refine list_app1 rfl _ _ rfl gz (.slice (some ⟨gz, 0, none⟩) 1 1) [f0] rfl HZ5.out ua uc m (by rw [HN.out]; rfl) (by rw [HN.out]; exact HU5.out) (by rw [HN.out]; simp; omega) HGZ.out.2 ?_))
      intro v6 w6 hs6 hg6
      rw [← hW5, ← hgz] at hg6
      rw [← hgz] at hs6
      clear hW5 hgz
      have hwz : ∀ kk, (Value.slice (some ⟨gz, 0, none⟩) 1 1).ownBlock = some kk → gz = kk := fun kk hkk => by simpa [Value.ownBlock] using hkk
      have HB6 : Hid (Below w.heap.size w w6) := Lib.hid (HB5.out.trans (hg6.below HB5.out.size (fun kk hkk => by have := hwz kk hkk; have := HGZ.out.1; omega)))
      have HK6 := Lib.hid ((hg6.block (block_lt HK5.out) (fun e => by have := hwz _ e; have := HGZ.out.1; omega)).trans HK5.out)
      obtain ⟨all, hall⟩ : ∃ all, f0 :: m = all := ⟨_, rfl⟩
      rw [hall] at hs6
      have hlk : ∀ i p s, all[i]? = some p → all[i + 1]? = some s → follB p.h s.h = true ∧ s.by key = true := by rw [← hall]; exact HLK.out
      have HCH := Lib.hid (chain_links key all hlk)
      have HGA : Hid (∀ s ∈ all, s.h.Ok 32) := Lib.hid (fun s hs => by
        rw [← hall] at hs
        rcases List.mem_cons.1 hs with rfl | h
        · exact HGF.out.1
        · exact (HGM.out s h).1)
      have hal : all.length = N + 1 := by rw [← hall]; simp [HN.out]
      have hf : all[0]? = some f0 := by rw [← hall]; rfl
      obtain ⟨NA, hNA⟩ : ∃ n : Nat, n = N + 1 := ⟨_, rfl⟩
      have HSL := Lib.hid hs6.sl
      obtain ⟨va', vc', hv6⟩ := hs6.shape
      rw [hal, ← hNA] at hv6
      subst hv6
      have HAL : Hid (all.length = NA) := Lib.hid (by rw [hal, hNA])
      have HF0 := Lib.hid hf
      have hna : (0 : Int) < (NA : Int) := by omega
      have hna0 : ¬ (NA : Int) = 0 := by omega
      have hna2 : (NA : Int) ≤ 21 := by omega
      have HNA := Lib.hid hNA
      have HNP : Hid (0 < NA) := Lib.hid (by omega)
      obtain ⟨ga, oa, ca, ev, hz0⟩ := HSL.out.get hf
      rw [HAL.out] at ev
      injection ev with e1 e2 e3
      have hoa : oa = 0 := by
        rcases hs6.2 with ⟨h1, _⟩ | ⟨g', cap', cur', he', _⟩
        · rw [e1] at h1; cases h1
        · injection he' with q1 q2 q3
          rw [e1] at q1
          injection q1 with q1
          injection q1
      subst e1 e3 hoa
      have HZ0 := Lib.hid hz0.zero
      have hcap : NA ≤ vc' := by
        obtain ⟨a', c', e', hc', _⟩ := HSL.out
        injection e' with q1 q2 q3
        rw [← HAL.out, q3]; exact hc'
      have HCAP := Lib.hid hcap
      clear hs6 hg6 hwz hlk hal hall hf hNA hz0 e2 hcap HLK HU3 HU4 HU5 HZ5 HB0 HB1 HB2 HK5 HK4 h0'
      obtain ⟨a0, ha0, ha1⟩ := tmod_nat A NA HA.out.1 HNP.out
      obtain ⟨b0, hb0, hb1⟩ := tmod_nat B NA HBB.out.1 HNP.out
      have HA1 := Lib.hid ha1
      have HB1 := Lib.hid hb1
      clear ha1 hb1
      have k0 : w6.cell? ⟨w.heap.size, 0, none⟩ = some (.int .u8 A) ∧ w6.cell? ⟨w.heap.size, 1, none⟩ = some (.int .u8 B) := by simp [World.cell?, HK6.out]
      obtain ⟨k0, k1⟩ := k0
      have wA : IntKind.i64.wrap A = A := IntWalk.i64_in _ (by have := HA.out; omega)
      have wB : IntKind.i64.wrap B = B := IntWalk.i64_in _ (by have := HBB.out; omega)
      have wa : IntKind.i64.wrap (a0 : Int) = (a0 : Int) := IntWalk.i64_in _ (by have := HA1.out; omega)
      have wb : IntKind.i64.wrap (b0 : Int) = (b0 : Int) := IntWalk.i64_in _ (by have := HB1.out; omega)
      go_upto_region 7 with fail
      go_quiet (fail)
      have hsame : Below w6.heap.size w6 (w6.drewN nq) := (Same.of _ _).below _
      have HB7 : Hid (Below w.heap.size w (w6.drewN nq)) := Lib.hid (HB6.out.trans (hsame.mono HB6.out.size))
      have HZ7 := Lib.hid (HZ0.out.later hsame)
      have HS7 := Lib.hid (HSL.out.later hsame)
      have KC := Lib.hid (fun (i j : Nat) (p q : Sg) (hp : all[i]? = some p) (hq : all[i + j]? = some q) u W (hW : SSl W u ((all.drop (i + 1)).take j)) (hS : Start W) => by
        have h := pchain_prog sum_ok key HKK.out p 32 (HGA.out p (List.mem_of_getElem? hp)) (by decide) ((all.drop (i + 1)).take j) (fun s hs => HGA.out s (List.mem_of_mem_drop (List.mem_of_mem_take hs))) (by have h1 := HAL.out; have h2 := HNA.out; have h3 := HN20.out; rw [List.length_take, List.length_drop]; omega) u W hW hS
        unfold chainS at h
        rw [HCH.out j i p q hp hq] at h
        exact h)
      dsimp only [Option.isSome, Option.getD] at KC
      obtain ⟨W7, hW7⟩ : ∃ W, W = w6.drewN nq := ⟨_, rfl⟩
      rw [← hW7] at HB7 HZ7 HS7
      go_upto_region 8 with fail
      simp only [← hW7]
      clear hW7 hsame HB6 HK6 HZ0 HSL k0 k1 wA wB wa wb ha0 hb0 HA HBB
      go_cut [10, 11] (fun sa sb wx => ∃ a b : Nat, sa = .int .i64 (a : Int) ∧ sb = .int .i64 (b : Int) ∧ a ≤ b ∧ b < NA ∧ W7 = wx)
      case first =>
        rcases Nat.lt_trichotomy a0 b0 with h | h | h
        · have h1 : (a0 : Int) < (b0 : Int) := by omega
          have h2 : ¬ (b0 : Int) < (a0 : Int) := by omega
          have HH := Lib.hid h
          clear h
          go_wp2_with fail
          go_meet
          exact ⟨a0, b0, rfl, rfl, Nat.le_of_lt HH.out, HB1.out, rfl⟩
        · subst h
          go_wp2_with fail
          go_meet
          exact ⟨a0, a0, by simp, by simp, Nat.le_refl _, HA1.out, rfl⟩
        · have h1 : (b0 : Int) < (a0 : Int) := by omega
          have h2 : ¬ (a0 : Int) < (b0 : Int) := by omega
          have HH := Lib.hid h
          clear h
          go_wp2_with fail
          go_meet
          exact ⟨b0, a0, rfl, rfl, Nat.le_of_lt HH.out, HA1.out, rfl⟩
      case rest =>
        obtain ⟨a, b, rfl, rfl, hab, hbn, rfl⟩ := hcut
        obtain ⟨xa, hxa⟩ : ∃ x, all[a]? = some x := ⟨all[a]'(by rw [HAL.out]; omega), List.getElem?_eq_getElem _⟩
        obtain ⟨xb, hxb⟩ : ∃ x, all[b]? = some x := ⟨all[b]'(by rw [HAL.out]; omega), List.getElem?_eq_getElem _⟩
        obtain ⟨xn, hxn⟩ : ∃ x, all[N]? = some x := ⟨all[N]'(by rw [HAL.out, HNA.out]; omega), List.getElem?_eq_getElem _⟩
        have hNA := HNA.out
        have hcp := HCAP.out
        have s1 := slice_bothS (some ⟨ga, 0, none⟩) NA vc' 1 (a + 1) (by omega) (by omega)
        have s2 := slice_bothS (some ⟨ga, 0, none⟩) NA vc' (a + 1) (b + 1) (by omega) (by omega)
        have s3 := slice_fromS (some ⟨ga, 0, none⟩) NA vc' (b + 1) (by omega)
        have p1 := HS7.out.part HAL.out.symm (i := 0 + 1) (j := a + 1) (by omega) (by omega)
        have p2 := HS7.out.part HAL.out.symm (i := a + 1) (j := b + 1) (by omega) (by omega)
        have p3 := HS7.out.part HAL.out.symm (i := b + 1) (j := NA) (by omega) (by omega)
        have q1 := KC.out 0 a f0 xa HF0.out (by rw [Nat.zero_add]; exact hxa)
        have q2 := KC.out a (b + 1 - (a + 1)) xa xb hxa (by rw [← hxb]; congr 1; omega)
        have q3 := KC.out b (NA - (b + 1)) xb xn hxb (by rw [← hxn]; congr 1; omega)
        have ea : a + 1 - (0 + 1) = a := by omega
        have ea2 : a + 1 - 1 = a := by omega
        rw [ea] at p1
        rw [ea2] at s1
        obtain ⟨A1, hA1⟩ : ∃ A, (if vc' = 1 then some (⟨ga, 0, none⟩ : Addr) else (some (⟨ga, 0, none⟩ : Addr)).map (·.add (1 * 7))) = A := ⟨_, rfl⟩
        obtain ⟨A2, hA2⟩ : ∃ A, (if vc' = a + 1 then some (⟨ga, 0, none⟩ : Addr) else (some (⟨ga, 0, none⟩ : Addr)).map (·.add ((a + 1) * 7))) = A := ⟨_, rfl⟩
        obtain ⟨A3, hA3⟩ : ∃ A, (if vc' = b + 1 then some (⟨ga, 0, none⟩ : Addr) else (some (⟨ga, 0, none⟩ : Addr)).map (·.add ((b + 1) * 7))) = A := ⟨_, rfl⟩
        obtain ⟨C1, hC1⟩ : ∃ C, vc' - 1 = C := ⟨_, rfl⟩
        obtain ⟨C2, hC2⟩ : ∃ C, vc' - (a + 1) = C := ⟨_, rfl⟩
        obtain ⟨C3, hC3⟩ : ∃ C, vc' - (b + 1) = C := ⟨_, rfl⟩
        obtain ⟨D2, hD2⟩ : ∃ D, b + 1 - (a + 1) = D := ⟨_, rfl⟩
        obtain ⟨D3, hD3⟩ : ∃ D, NA - (b + 1) = D := ⟨_, rfl⟩
        have HP1 : Hid (SSl W7 (.slice A1 a C1) ((all.drop (0 + 1)).take a)) := Lib.hid (by rw [← hA1, ← hC1]; exact p1)
        have HP2 : Hid (SSl W7 (.slice A2 D2 C2) ((all.drop (a + 1)).take D2)) := Lib.hid (by rw [← hA2, ← hC2, ← hD2]; exact p2)
        have HP3 : Hid (SSl W7 (.slice A3 D3 C3) ((all.drop (b + 1)).take D3)) := Lib.hid (by rw [← hA3, ← hC3, ← hD3]; exact p3)
        rw [hA1, hC1] at s1
        rw [hA2, hC2, hD2] at s2
        rw [hA3, hC3, hD3] at s3
        rw [hD2] at q2
        rw [hD3] at q3
        simp only [Int.natCast_add, Int.natCast_one] at s1 s2 s3
        have K1 := Lib.hid (q1 (.slice A1 a C1))
        have K2 := Lib.hid (q2 (.slice A2 D2 C2))
        have K3 := Lib.hid (q3 (.slice A3 D3 C3))
        unfold sgV at K1 K2 K3
        have cl : ∀ i x, all[i]? = some x → SCl W7 ga (i * 7) x := fun i x hi => by
          obtain ⟨g', o', c', e', hc'⟩ := HS7.out.get hi
          injection e' with e1 e2 e3
          injection e1 with e1
          injection e1 with e4 e5 _
          subst e4 e5
          rw [Nat.zero_add] at hc'
          exact hc'
        have HCA := Lib.hid (cl a xa hxa)
        have HCB := Lib.hid (cl b xb hxb)
        have HCN := Lib.hid (cl N xn hxn)
        have i1 : (a : Int) < (NA : Int) := by omega
        have i2 : (b : Int) < (NA : Int) := by omega
        have i3 : (N : Int) < (NA : Int) := by omega
        have i4 : IntKind.i64.wrap ((NA : Int) - 1) = (N : Int) := by rw [IntWalk.i64_in _ (by omega)]; omega
        have w1a : IntKind.i64.wrap ((a : Int) + 1) = (a : Int) + 1 := IntWalk.i64_in _ (by omega)
        have w1b : IntKind.i64.wrap ((b : Int) + 1) = (b : Int) + 1 := IntWalk.i64_in _ (by omega)
        clear hxa hxb hxn p1 p2 p3 q1 q2 q3 ea ea2 hA1 hA2 hA3 hC1 hC2 hC3 hD2 hD3 cl hNA hcp KC hab hbn HS7
        have hnp : 0 < NA := HNP.out
        go_upto_region 9 with fail
        go_cut [12, 13] (fun sa sb wx => ∃ g : Nat, sa = .pointer (some ⟨g, 0, none⟩) ∧ sb = .bool true ∧ Hid (W7.heap.size ≤ g ∧ ga < g) ∧ Hid (Below W7.heap.size W7 wx) ∧ Hid (SC0 wx ga f0) ∧ Hid (wx.heap[g]? = some (.cells #[.int .u64 xa.h.shard, .int .u64 xa.h.seq, .string xa.h.prev, .string xa.h.root, .int .u64 xa.h.who, .int .u64 xa.h.stamp, .string xa.mac] 26 (0, 0))))
        case first =>
          refine wp_region_noPanic ?_
          refine wp_region_held_drew (S := fun w' => Below W7.heap.size W7 w' ∧ (SC0 w' ga f0)) (by kernel_rfl) ⟨(Below.refl W7.heap.size W7).drew, (HZ7.out.later (Below.refl _ _).drew)⟩ (fun hHeld => ?_)
          generalize W7.drew = WD at hHeld ⊢
          have HBD := hHeld.1
          have FZD := hHeld.2
          refine wpAnyH_take (i := 0) (v := ?_) rfl (by kernel_rfl) (by kernel_rfl) (by kernel_rfl) (fun _ _ _ h => h) (Or.inl ⟨by rfl, ?_⟩) ⟨HBD, FZD⟩ ?_
          rotate_left
          · intro w' hSw; obtain ⟨fz0, fz1, fz2, fz3, fz4, fz5, fz6⟩ := hSw.2; go_simp; first | done | with_reducible rfl | rfl
          try simp only [Act.put, List.getElem_toArray, List.getElem_cons_zero, List.setIfInBounds_toArray, List.set_cons_zero, List.set_cons_succ]
          refine wpAnyH_take (i := 1) (v := ?_) rfl (by kernel_rfl) (by kernel_rfl) (by kernel_rfl) (fun _ _ _ h => h) (Or.inl ⟨by rfl, ?_⟩) ⟨HBD, FZD⟩ ?_
          rotate_left
          · intro w' hSw; obtain ⟨fz0, fz1, fz2, fz3, fz4, fz5, fz6⟩ := hSw.2; go_simp; first | done | with_reducible rfl | rfl
          try simp only [Act.put, List.getElem_toArray, List.getElem_cons_zero, List.getElem_cons_succ, List.setIfInBounds_toArray, List.set_cons_zero, List.set_cons_succ]
          refine wpAnyH_take (i := 2) (v := ?_) rfl (by kernel_rfl) (by kernel_rfl) (by kernel_rfl) (fun _ _ _ h => h) (Or.inl ⟨by rfl, ?_⟩) ⟨HBD, FZD⟩ ?_
          rotate_left
          · intro w' hSw; obtain ⟨fz0, fz1, fz2, fz3, fz4, fz5, fz6⟩ := hSw.2; go_simp; first | done | with_reducible rfl | rfl
          try simp only [Act.put, List.getElem_toArray, List.getElem_cons_zero, List.getElem_cons_succ, List.setIfInBounds_toArray, List.set_cons_zero, List.set_cons_succ]
          refine wpAnyH_take (i := 3) (v := ?_) rfl (by kernel_rfl) (by kernel_rfl) (by kernel_rfl) (fun _ _ _ h => h) (Or.inl ⟨by rfl, ?_⟩) ⟨HBD, FZD⟩ ?_
          rotate_left
          · intro w' hSw; obtain ⟨fz0, fz1, fz2, fz3, fz4, fz5, fz6⟩ := hSw.2; go_simp; first | done | with_reducible rfl | rfl
          try simp only [Act.put, List.getElem_toArray, List.getElem_cons_zero, List.getElem_cons_succ, List.setIfInBounds_toArray, List.set_cons_zero, List.set_cons_succ]
          refine wpAnyH_take (i := 4) (v := ?_) rfl (by kernel_rfl) (by kernel_rfl) (by kernel_rfl) (fun _ _ _ h => h) (Or.inl ⟨by rfl, ?_⟩) ⟨HBD, FZD⟩ ?_
          rotate_left
          · intro w' hSw; obtain ⟨fz0, fz1, fz2, fz3, fz4, fz5, fz6⟩ := hSw.2; go_simp; first | done | with_reducible rfl | rfl
          try simp only [Act.put, List.getElem_toArray, List.getElem_cons_zero, List.getElem_cons_succ, List.setIfInBounds_toArray, List.set_cons_zero, List.set_cons_succ]
          refine wpAnyH_take (i := 5) (v := ?_) rfl (by kernel_rfl) (by kernel_rfl) (by kernel_rfl) (fun _ _ _ h => h) (Or.inl ⟨by rfl, ?_⟩) ⟨HBD, FZD⟩ ?_
          rotate_left
          · intro w' hSw; obtain ⟨fz0, fz1, fz2, fz3, fz4, fz5, fz6⟩ := hSw.2; go_simp; first | done | with_reducible rfl | rfl
          try simp only [Act.put, List.getElem_toArray, List.getElem_cons_zero, List.getElem_cons_succ, List.setIfInBounds_toArray, List.set_cons_zero, List.set_cons_succ]
          refine wpAnyH_take (i := 6) (v := ?_) rfl (by kernel_rfl) (by kernel_rfl) (by kernel_rfl) (fun _ _ _ h => h) (Or.inl ⟨by rfl, ?_⟩) ⟨HBD, FZD⟩ ?_
          rotate_left
          · intro w' hSw; obtain ⟨fz0, fz1, fz2, fz3, fz4, fz5, fz6⟩ := hSw.2; go_simp; first | done | with_reducible rfl | rfl
          try simp only [Act.put, List.getElem_toArray, List.getElem_cons_zero, List.getElem_cons_succ, List.setIfInBounds_toArray, List.set_cons_zero, List.set_cons_succ]
          refine wpAnyH_take (i := 7) (v := ?_) rfl (by kernel_rfl) (by kernel_rfl) (by kernel_rfl) (fun _ _ _ h => h) (Or.inl ⟨by rfl, ?_⟩) ⟨HBD, FZD⟩ ?_
          rotate_left
          · intro w' hSw; obtain ⟨fz0, fz1, fz2, fz3, fz4, fz5, fz6⟩ := hSw.2; go_simp; first | done | with_reducible rfl | rfl
          try simp only [Act.put, List.getElem_toArray, List.getElem_cons_zero, List.getElem_cons_succ, List.setIfInBounds_toArray, List.set_cons_zero, List.set_cons_succ]
          refine wpAnyH_ready (rs := [8, 12]) (by kernel_rfl) (by simp) ?_
          refine AllReadyH.cons rfl (fun K hK => ?_) ?_
          · try simp only [Act.put, List.getElem_toArray, List.getElem_cons_zero, List.getElem_cons_succ, List.setIfInBounds_toArray, List.set_cons_zero, List.set_cons_succ]
            go_simp
            go_at_call 27
            refine (K1.out _ (HP1.out.later HBD) (HST.out.later (HB7.out.trans (HBD.mono HB7.out.size)))).mono ?_
            rintro e wq1 ⟨rfl, hb1⟩
            have HBq1 := HBD.trans (hb1.mono HBD.size)
            have FZq1 := (FZD.later hb1)
            go_wp2_with fail
            refine hK.out _ _ ⟨HBq1, FZq1⟩ (fun _ => ?_)
            clear hK K
            try simp only [Act.put, List.getElem_toArray, List.getElem_cons_zero, List.getElem_cons_succ, List.setIfInBounds_toArray, List.set_cons_zero, List.set_cons_succ]
            refine wpAnyH_take (i := 9) (v := ?_) rfl (by kernel_rfl) (by kernel_rfl) (by kernel_rfl) (fun _ _ _ h => h) (Or.inl ⟨by rfl, ?_⟩) ⟨HBq1, FZq1⟩ ?_
            rotate_left
            · intro w' hSw; obtain ⟨fz0, fz1, fz2, fz3, fz4, fz5, fz6⟩ := hSw.2; go_simp; first | done | with_reducible rfl | rfl
            try simp only [Act.put, List.getElem_toArray, List.getElem_cons_zero, List.getElem_cons_succ, List.setIfInBounds_toArray, List.set_cons_zero, List.set_cons_succ]
            refine wpAnyH_take (i := 10) (v := ?_) rfl (by kernel_rfl) (by kernel_rfl) (by kernel_rfl) (fun _ _ _ h => h) (Or.inl ⟨by rfl, ?_⟩) ⟨HBq1, FZq1⟩ ?_
            rotate_left
            · intro w' hSw; obtain ⟨fz0, fz1, fz2, fz3, fz4, fz5, fz6⟩ := hSw.2; go_simp; first | done | with_reducible rfl | rfl
            try simp only [Act.put, List.getElem_toArray, List.getElem_cons_zero, List.getElem_cons_succ, List.setIfInBounds_toArray, List.set_cons_zero, List.set_cons_succ]
            refine wpAnyH_take (i := 11) (v := ?_) rfl (by kernel_rfl) (by kernel_rfl) (by kernel_rfl) (fun _ _ _ h => h) (Or.inl ⟨by rfl, ?_⟩) ⟨HBq1, FZq1⟩ ?_
            rotate_left
            · intro w' hSw; obtain ⟨fz0, fz1, fz2, fz3, fz4, fz5, fz6⟩ := hSw.2; go_simp; first | done | with_reducible rfl | rfl
            try simp only [Act.put, List.getElem_toArray, List.getElem_cons_zero, List.getElem_cons_succ, List.setIfInBounds_toArray, List.set_cons_zero, List.set_cons_succ]
            refine wpAnyH_ready (rs := [12]) (by kernel_rfl) (by simp) ?_
            refine AllReadyH.cons rfl (fun K hK => ?_) AllReadyH.nil
            try simp only [Act.put, List.getElem_toArray, List.getElem_cons_zero, List.getElem_cons_succ, List.setIfInBounds_toArray, List.set_cons_zero, List.set_cons_succ]
            go_simp
            refine hK.out _ _ ⟨HBq1.alloc HBq1.size _, (FZq1.later ((Below.refl _ _).alloc (Nat.le_refl _) _))⟩ (fun _ => ?_)
            clear hK K
            try simp only [Act.put, List.getElem_toArray, List.getElem_cons_zero, List.getElem_cons_succ, List.setIfInBounds_toArray, List.set_cons_zero, List.set_cons_succ]
            refine named (M := wpAnyH _ _ _ _ _ _ _ _) ?_
            intro wq2 hk2 hb2 sz2
            have HBq2 := HBq1.trans (hb2.mono HBq1.size)
            have FZq2 := (FZq1.later hb2)
            have lt2 : W7.heap.size ≤ wq1.heap.size ∧ ga < wq1.heap.size := ⟨HBq1.size, World.block_lt_of_cell? _ _ FZq1.c0⟩
            refine wpAnyH_ready (rs := [13]) (by kernel_rfl) (by simp) ?_
            refine AllReadyH.cons rfl (fun K hK => ?_) AllReadyH.nil
            obtain ⟨z0, z1, z2, z3, z4, z5, z6⟩ := cells7 hk2
            obtain ⟨y0, y1, y2, y3, y4, y5, y6⟩ := free7 hk2
            try simp only [Act.put, List.getElem_toArray, List.getElem_cons_zero, List.getElem_cons_succ]
            go_simp
            have HBq3 := HBq2.trans (set7_below (w := wq2) (G := wq1.heap.size) (by have := lt2; omega) (.int .u64 xa.h.shard) (.int .u64 xa.h.seq) (.string xa.h.prev) (.string xa.h.root) (.int .u64 xa.h.who) (.int .u64 xa.h.stamp) (.string xa.mac))
            have FZq3 := (FZq2.mv (set7_other _ (wq1.heap.size) (.int .u64 xa.h.shard) (.int .u64 xa.h.seq) (.string xa.h.prev) (.string xa.h.root) (.int .u64 xa.h.who) (.int .u64 xa.h.stamp) (.string xa.mac) (ga) (by have := lt2; omega)))
            have HGq3 := set7_heap hk2 (.int .u64 xa.h.shard) (.int .u64 xa.h.seq) (.string xa.h.prev) (.string xa.h.root) (.int .u64 xa.h.who) (.int .u64 xa.h.stamp) (.string xa.mac)
            refine hK.out _ (set7 wq2 (wq1.heap.size) (.int .u64 xa.h.shard) (.int .u64 xa.h.seq) (.string xa.h.prev) (.string xa.h.root) (.int .u64 xa.h.who) (.int .u64 xa.h.stamp) (.string xa.mac)) ⟨HBq3, FZq3⟩ (fun _ => ?_)
            clear hK K z0 z1 z2 z3 z4 z5 z6 y0 y1 y2 y3 y4 y5 y6
            try simp only [Act.put, List.getElem_toArray, List.getElem_cons_zero, List.getElem_cons_succ]
            refine wpAnyH_take (i := 14) (v := ?_) rfl (by kernel_rfl) (by kernel_rfl) (by kernel_rfl) (fun _ _ _ h => h) (Or.inl ⟨by rfl, ?_⟩) ⟨HBq3, FZq3⟩ ?_
            rotate_left
            · intro w' hSw; obtain ⟨fz0, fz1, fz2, fz3, fz4, fz5, fz6⟩ := hSw.2; go_simp; first | done | with_reducible rfl | rfl
            try simp only [Act.put, List.getElem_toArray, List.getElem_cons_zero, List.getElem_cons_succ, List.setIfInBounds_toArray, List.set_cons_zero, List.set_cons_succ]
            refine wpAnyH_done (by kernel_rfl) ?_ _
            refine NoPanic.normal ?_
            go_wp2_with fail
            go_meet
            exact ⟨wq1.heap.size, rfl, rfl, Lib.hid (by have := lt2; omega), Lib.hid HBq3, Lib.hid FZq3, Lib.hid HGq3⟩
          refine AllReadyH.cons rfl (fun K hK => ?_) AllReadyH.nil
          · try simp only [Act.put, List.getElem_toArray, List.getElem_cons_zero, List.getElem_cons_succ, List.setIfInBounds_toArray, List.set_cons_zero, List.set_cons_succ]
            go_simp
            refine hK.out _ _ ⟨HBD.alloc HBD.size _, (FZD.later ((Below.refl _ _).alloc (Nat.le_refl _) _))⟩ (fun _ => ?_)
            clear hK K
            try simp only [Act.put, List.getElem_toArray, List.getElem_cons_zero, List.getElem_cons_succ, List.setIfInBounds_toArray, List.set_cons_zero, List.set_cons_succ]
            refine named (M := wpAnyH _ _ _ _ _ _ _ _) ?_
            intro wq4 hk4 hb4 sz4
            have HBq4 := HBD.trans (hb4.mono HBD.size)
            have FZq4 := (FZD.later hb4)
            have lt4 : W7.heap.size ≤ WD.heap.size ∧ ga < WD.heap.size := ⟨HBD.size, World.block_lt_of_cell? _ _ FZD.c0⟩
            refine wpAnyH_ready (rs := [8]) (by kernel_rfl) (by simp) ?_
            refine AllReadyH.cons rfl (fun K hK => ?_) AllReadyH.nil
            try simp only [Act.put, List.getElem_toArray, List.getElem_cons_zero, List.getElem_cons_succ, List.setIfInBounds_toArray, List.set_cons_zero, List.set_cons_succ]
            go_simp
            go_at_call 27
            refine (K1.out _ (HP1.out.later HBq4) (HST.out.later (HB7.out.trans (HBq4.mono HB7.out.size)))).mono ?_
            rintro e wq5 ⟨rfl, hb5⟩
            have HBq5 := HBq4.trans (hb5.mono HBq4.size)
            have FZq5 := (FZq4.later hb5)
            have HGq5 := (hb5.block _ (block_lt hk4)).trans hk4
            go_wp2_with fail
            refine hK.out _ _ ⟨HBq5, FZq5⟩ (fun _ => ?_)
            clear hK K
            try simp only [Act.put, List.getElem_toArray, List.getElem_cons_zero, List.getElem_cons_succ, List.setIfInBounds_toArray, List.set_cons_zero, List.set_cons_succ]
            refine wpAnyH_take (i := 9) (v := ?_) rfl (by kernel_rfl) (by kernel_rfl) (by kernel_rfl) (fun _ _ _ h => h) (Or.inl ⟨by rfl, ?_⟩) ⟨HBq5, FZq5⟩ ?_
            rotate_left
            · intro w' hSw; obtain ⟨fz0, fz1, fz2, fz3, fz4, fz5, fz6⟩ := hSw.2; go_simp; first | done | with_reducible rfl | rfl
            try simp only [Act.put, List.getElem_toArray, List.getElem_cons_zero, List.getElem_cons_succ, List.setIfInBounds_toArray, List.set_cons_zero, List.set_cons_succ]
            refine wpAnyH_take (i := 10) (v := ?_) rfl (by kernel_rfl) (by kernel_rfl) (by kernel_rfl) (fun _ _ _ h => h) (Or.inl ⟨by rfl, ?_⟩) ⟨HBq5, FZq5⟩ ?_
            rotate_left
            · intro w' hSw; obtain ⟨fz0, fz1, fz2, fz3, fz4, fz5, fz6⟩ := hSw.2; go_simp; first | done | with_reducible rfl | rfl
            try simp only [Act.put, List.getElem_toArray, List.getElem_cons_zero, List.getElem_cons_succ, List.setIfInBounds_toArray, List.set_cons_zero, List.set_cons_succ]
            refine wpAnyH_take (i := 11) (v := ?_) rfl (by kernel_rfl) (by kernel_rfl) (by kernel_rfl) (fun _ _ _ h => h) (Or.inl ⟨by rfl, ?_⟩) ⟨HBq5, FZq5⟩ ?_
            rotate_left
            · intro w' hSw; obtain ⟨fz0, fz1, fz2, fz3, fz4, fz5, fz6⟩ := hSw.2; go_simp; first | done | with_reducible rfl | rfl
            try simp only [Act.put, List.getElem_toArray, List.getElem_cons_zero, List.getElem_cons_succ, List.setIfInBounds_toArray, List.set_cons_zero, List.set_cons_succ]
            refine wpAnyH_ready (rs := [13]) (by kernel_rfl) (by simp) ?_
            refine AllReadyH.cons rfl (fun K hK => ?_) AllReadyH.nil
            obtain ⟨z0, z1, z2, z3, z4, z5, z6⟩ := cells7 HGq5
            obtain ⟨y0, y1, y2, y3, y4, y5, y6⟩ := free7 HGq5
            try simp only [Act.put, List.getElem_toArray, List.getElem_cons_zero, List.getElem_cons_succ]
            go_simp
            have HBq6 := HBq5.trans (set7_below (w := wq5) (G := WD.heap.size) (by have := lt4; omega) (.int .u64 xa.h.shard) (.int .u64 xa.h.seq) (.string xa.h.prev) (.string xa.h.root) (.int .u64 xa.h.who) (.int .u64 xa.h.stamp) (.string xa.mac))
            have FZq6 := (FZq5.mv (set7_other _ (WD.heap.size) (.int .u64 xa.h.shard) (.int .u64 xa.h.seq) (.string xa.h.prev) (.string xa.h.root) (.int .u64 xa.h.who) (.int .u64 xa.h.stamp) (.string xa.mac) (ga) (by have := lt4; omega)))
            have HGq6 := set7_heap HGq5 (.int .u64 xa.h.shard) (.int .u64 xa.h.seq) (.string xa.h.prev) (.string xa.h.root) (.int .u64 xa.h.who) (.int .u64 xa.h.stamp) (.string xa.mac)
            refine hK.out _ (set7 wq5 (WD.heap.size) (.int .u64 xa.h.shard) (.int .u64 xa.h.seq) (.string xa.h.prev) (.string xa.h.root) (.int .u64 xa.h.who) (.int .u64 xa.h.stamp) (.string xa.mac)) ⟨HBq6, FZq6⟩ (fun _ => ?_)
            clear hK K z0 z1 z2 z3 z4 z5 z6 y0 y1 y2 y3 y4 y5 y6
            try simp only [Act.put, List.getElem_toArray, List.getElem_cons_zero, List.getElem_cons_succ]
            refine wpAnyH_take (i := 14) (v := ?_) rfl (by kernel_rfl) (by kernel_rfl) (by kernel_rfl) (fun _ _ _ h => h) (Or.inl ⟨by rfl, ?_⟩) ⟨HBq6, FZq6⟩ ?_
            rotate_left
            · intro w' hSw; obtain ⟨fz0, fz1, fz2, fz3, fz4, fz5, fz6⟩ := hSw.2; go_simp; first | done | with_reducible rfl | rfl
            try simp only [Act.put, List.getElem_toArray, List.getElem_cons_zero, List.getElem_cons_succ, List.setIfInBounds_toArray, List.set_cons_zero, List.set_cons_succ]
            refine wpAnyH_done (by kernel_rfl) ?_ _
            refine NoPanic.normal ?_
            go_wp2_with fail
            go_meet
            exact ⟨WD.heap.size, rfl, rfl, Lib.hid (by have := lt4; omega), Lib.hid HBq6, Lib.hid FZq6, Lib.hid HGq6⟩
        case rest =>
          obtain ⟨gx, rfl, rfl, HLx, HB8, HZ8, HX8⟩ := hcut
          obtain ⟨W8, hW8⟩ : ∃ W, W = wc := ⟨_, rfl⟩
          rw [← hW8] at HB8 HZ8 HX8
          simp only [← hW8]
          clear hW8
          go_upto_region 10 with fail
          go_cut [14, 15] (fun sa sb wx => ∃ g : Nat, sa = .pointer (some ⟨g, 0, none⟩) ∧ sb = .bool true ∧ Hid (W8.heap.size ≤ g ∧ gx < g) ∧ Hid (Below W8.heap.size W8 wx) ∧ Hid (wx.heap[gx]? = some (.cells #[.int .u64 xa.h.shard, .int .u64 xa.h.seq, .string xa.h.prev, .string xa.h.root, .int .u64 xa.h.who, .int .u64 xa.h.stamp, .string xa.mac] 26 (0, 0))) ∧ Hid (wx.heap[g]? = some (.cells #[.int .u64 xb.h.shard, .int .u64 xb.h.seq, .string xb.h.prev, .string xb.h.root, .int .u64 xb.h.who, .int .u64 xb.h.stamp, .string xb.mac] 26 (0, 0))))
          case first =>
            refine wp_region_noPanic ?_
            refine wp_region_held_drew (S := fun w' => Below W8.heap.size W8 w' ∧ (w'.heap[gx]? = some (.cells #[.int .u64 xa.h.shard, .int .u64 xa.h.seq, .string xa.h.prev, .string xa.h.root, .int .u64 xa.h.who, .int .u64 xa.h.stamp, .string xa.mac] 26 (0, 0)))) (by kernel_rfl) ⟨(Below.refl W8.heap.size W8).drew, HX8.out⟩ (fun hHeld => ?_)
            generalize W8.drew = WD at hHeld ⊢
            have HBD := hHeld.1
            have FXD := hHeld.2
            refine wpAnyH_take (i := 0) (v := ?_) rfl (by kernel_rfl) (by kernel_rfl) (by kernel_rfl) (fun _ _ _ h => h) (Or.inl ⟨by rfl, ?_⟩) ⟨HBD, FXD⟩ ?_
            rotate_left
            · intro w' hSw; obtain ⟨ac0, ac1, ac2, ac3, ac4, ac5, ac6⟩ := cells7 hSw.2; go_simp; first | done | with_reducible rfl | rfl
            try simp only [Act.put, List.getElem_toArray, List.getElem_cons_zero, List.setIfInBounds_toArray, List.set_cons_zero, List.set_cons_succ]
            refine wpAnyH_take (i := 1) (v := ?_) rfl (by kernel_rfl) (by kernel_rfl) (by kernel_rfl) (fun _ _ _ h => h) (Or.inl ⟨by rfl, ?_⟩) ⟨HBD, FXD⟩ ?_
            rotate_left
            · intro w' hSw; obtain ⟨ac0, ac1, ac2, ac3, ac4, ac5, ac6⟩ := cells7 hSw.2; go_simp; first | done | with_reducible rfl | rfl
            try simp only [Act.put, List.getElem_toArray, List.getElem_cons_zero, List.getElem_cons_succ, List.setIfInBounds_toArray, List.set_cons_zero, List.set_cons_succ]
            refine wpAnyH_take (i := 2) (v := ?_) rfl (by kernel_rfl) (by kernel_rfl) (by kernel_rfl) (fun _ _ _ h => h) (Or.inl ⟨by rfl, ?_⟩) ⟨HBD, FXD⟩ ?_
            rotate_left
            · intro w' hSw; obtain ⟨ac0, ac1, ac2, ac3, ac4, ac5, ac6⟩ := cells7 hSw.2; go_simp; first | done | with_reducible rfl | rfl
            try simp only [Act.put, List.getElem_toArray, List.getElem_cons_zero, List.getElem_cons_succ, List.setIfInBounds_toArray, List.set_cons_zero, List.set_cons_succ]
            refine wpAnyH_take (i := 3) (v := ?_) rfl (by kernel_rfl) (by kernel_rfl) (by kernel_rfl) (fun _ _ _ h => h) (Or.inl ⟨by rfl, ?_⟩) ⟨HBD, FXD⟩ ?_
            rotate_left
            · intro w' hSw; obtain ⟨ac0, ac1, ac2, ac3, ac4, ac5, ac6⟩ := cells7 hSw.2; go_simp; first | done | with_reducible rfl | rfl
            try simp only [Act.put, List.getElem_toArray, List.getElem_cons_zero, List.getElem_cons_succ, List.setIfInBounds_toArray, List.set_cons_zero, List.set_cons_succ]
            refine wpAnyH_take (i := 4) (v := ?_) rfl (by kernel_rfl) (by kernel_rfl) (by kernel_rfl) (fun _ _ _ h => h) (Or.inl ⟨by rfl, ?_⟩) ⟨HBD, FXD⟩ ?_
            rotate_left
            · intro w' hSw; obtain ⟨ac0, ac1, ac2, ac3, ac4, ac5, ac6⟩ := cells7 hSw.2; go_simp; first | done | with_reducible rfl | rfl
            try simp only [Act.put, List.getElem_toArray, List.getElem_cons_zero, List.getElem_cons_succ, List.setIfInBounds_toArray, List.set_cons_zero, List.set_cons_succ]
            refine wpAnyH_take (i := 5) (v := ?_) rfl (by kernel_rfl) (by kernel_rfl) (by kernel_rfl) (fun _ _ _ h => h) (Or.inl ⟨by rfl, ?_⟩) ⟨HBD, FXD⟩ ?_
            rotate_left
            · intro w' hSw; obtain ⟨ac0, ac1, ac2, ac3, ac4, ac5, ac6⟩ := cells7 hSw.2; go_simp; first | done | with_reducible rfl | rfl
            try simp only [Act.put, List.getElem_toArray, List.getElem_cons_zero, List.getElem_cons_succ, List.setIfInBounds_toArray, List.set_cons_zero, List.set_cons_succ]
            refine wpAnyH_take (i := 6) (v := ?_) rfl (by kernel_rfl) (by kernel_rfl) (by kernel_rfl) (fun _ _ _ h => h) (Or.inl ⟨by rfl, ?_⟩) ⟨HBD, FXD⟩ ?_
            rotate_left
            · intro w' hSw; obtain ⟨ac0, ac1, ac2, ac3, ac4, ac5, ac6⟩ := cells7 hSw.2; go_simp; first | done | with_reducible rfl | rfl
            try simp only [Act.put, List.getElem_toArray, List.getElem_cons_zero, List.getElem_cons_succ, List.setIfInBounds_toArray, List.set_cons_zero, List.set_cons_succ]
            refine wpAnyH_take (i := 7) (v := ?_) rfl (by kernel_rfl) (by kernel_rfl) (by kernel_rfl) (fun _ _ _ h => h) (Or.inl ⟨by rfl, ?_⟩) ⟨HBD, FXD⟩ ?_
            rotate_left
            · intro w' hSw; obtain ⟨ac0, ac1, ac2, ac3, ac4, ac5, ac6⟩ := cells7 hSw.2; go_simp; first | done | with_reducible rfl | rfl
            try simp only [Act.put, List.getElem_toArray, List.getElem_cons_zero, List.getElem_cons_succ, List.setIfInBounds_toArray, List.set_cons_zero, List.set_cons_succ]
            refine wpAnyH_ready (rs := [8, 12]) (by kernel_rfl) (by simp) ?_
            refine AllReadyH.cons rfl (fun K hK => ?_) ?_
            · try simp only [Act.put, List.getElem_toArray, List.getElem_cons_zero, List.getElem_cons_succ, List.setIfInBounds_toArray, List.set_cons_zero, List.set_cons_succ]
              go_simp
              go_at_call 27
              refine (K2.out _ (HP2.out.later (HB8.out.trans (HBD.mono HB8.out.size))) (HST.out.later (HB7.out.trans ((HB8.out.trans (HBD.mono HB8.out.size)).mono HB7.out.size)))).mono ?_
              rintro e wq1 ⟨rfl, hb1⟩
              have HBq1 := HBD.trans (hb1.mono HBD.size)
              have FXq1 := ((hb1.block _ (block_lt FXD)).trans FXD)
              go_wp2_with fail
              refine hK.out _ _ ⟨HBq1, FXq1⟩ (fun _ => ?_)
              clear hK K
              try simp only [Act.put, List.getElem_toArray, List.getElem_cons_zero, List.getElem_cons_succ, List.setIfInBounds_toArray, List.set_cons_zero, List.set_cons_succ]
              refine wpAnyH_take (i := 9) (v := ?_) rfl (by kernel_rfl) (by kernel_rfl) (by kernel_rfl) (fun _ _ _ h => h) (Or.inl ⟨by rfl, ?_⟩) ⟨HBq1, FXq1⟩ ?_
              rotate_left
              · intro w' hSw; obtain ⟨ac0, ac1, ac2, ac3, ac4, ac5, ac6⟩ := cells7 hSw.2; go_simp; first | done | with_reducible rfl | rfl
              try simp only [Act.put, List.getElem_toArray, List.getElem_cons_zero, List.getElem_cons_succ, List.setIfInBounds_toArray, List.set_cons_zero, List.set_cons_succ]
              refine wpAnyH_take (i := 10) (v := ?_) rfl (by kernel_rfl) (by kernel_rfl) (by kernel_rfl) (fun _ _ _ h => h) (Or.inl ⟨by rfl, ?_⟩) ⟨HBq1, FXq1⟩ ?_
              rotate_left
              · intro w' hSw; obtain ⟨ac0, ac1, ac2, ac3, ac4, ac5, ac6⟩ := cells7 hSw.2; go_simp; first | done | with_reducible rfl | rfl
              try simp only [Act.put, List.getElem_toArray, List.getElem_cons_zero, List.getElem_cons_succ, List.setIfInBounds_toArray, List.set_cons_zero, List.set_cons_succ]
              refine wpAnyH_take (i := 11) (v := ?_) rfl (by kernel_rfl) (by kernel_rfl) (by kernel_rfl) (fun _ _ _ h => h) (Or.inl ⟨by rfl, ?_⟩) ⟨HBq1, FXq1⟩ ?_
              rotate_left
              · intro w' hSw; obtain ⟨ac0, ac1, ac2, ac3, ac4, ac5, ac6⟩ := cells7 hSw.2; go_simp; first | done | with_reducible rfl | rfl
              try simp only [Act.put, List.getElem_toArray, List.getElem_cons_zero, List.getElem_cons_succ, List.setIfInBounds_toArray, List.set_cons_zero, List.set_cons_succ]
              refine wpAnyH_ready (rs := [12]) (by kernel_rfl) (by simp) ?_
              refine AllReadyH.cons rfl (fun K hK => ?_) AllReadyH.nil
              try simp only [Act.put, List.getElem_toArray, List.getElem_cons_zero, List.getElem_cons_succ, List.setIfInBounds_toArray, List.set_cons_zero, List.set_cons_succ]
              go_simp
              refine hK.out _ _ ⟨HBq1.alloc HBq1.size _, ((((Below.refl _ _).alloc (Nat.le_refl _) _).block _ (block_lt FXq1)).trans FXq1)⟩ (fun _ => ?_)
              clear hK K
              try simp only [Act.put, List.getElem_toArray, List.getElem_cons_zero, List.getElem_cons_succ, List.setIfInBounds_toArray, List.set_cons_zero, List.set_cons_succ]
              refine named (M := wpAnyH _ _ _ _ _ _ _ _) ?_
              intro wq2 hk2 hb2 sz2
              have HBq2 := HBq1.trans (hb2.mono HBq1.size)
              have FXq2 := ((hb2.block _ (block_lt FXq1)).trans FXq1)
              have lt2 : W8.heap.size ≤ wq1.heap.size ∧ gx < wq1.heap.size := ⟨HBq1.size, block_lt FXq1⟩
              refine wpAnyH_ready (rs := [13]) (by kernel_rfl) (by simp) ?_
              refine AllReadyH.cons rfl (fun K hK => ?_) AllReadyH.nil
              obtain ⟨z0, z1, z2, z3, z4, z5, z6⟩ := cells7 hk2
              obtain ⟨y0, y1, y2, y3, y4, y5, y6⟩ := free7 hk2
              try simp only [Act.put, List.getElem_toArray, List.getElem_cons_zero, List.getElem_cons_succ]
              go_simp
              have HBq3 := HBq2.trans (set7_below (w := wq2) (G := wq1.heap.size) (by have := lt2; omega) (.int .u64 xb.h.shard) (.int .u64 xb.h.seq) (.string xb.h.prev) (.string xb.h.root) (.int .u64 xb.h.who) (.int .u64 xb.h.stamp) (.string xb.mac))
              have FXq3 := ((set7_other _ (wq1.heap.size) (.int .u64 xb.h.shard) (.int .u64 xb.h.seq) (.string xb.h.prev) (.string xb.h.root) (.int .u64 xb.h.who) (.int .u64 xb.h.stamp) (.string xb.mac) (gx) (by have := lt2; omega)).trans FXq2)
              have HGq3 := set7_heap hk2 (.int .u64 xb.h.shard) (.int .u64 xb.h.seq) (.string xb.h.prev) (.string xb.h.root) (.int .u64 xb.h.who) (.int .u64 xb.h.stamp) (.string xb.mac)
              refine hK.out _ (set7 wq2 (wq1.heap.size) (.int .u64 xb.h.shard) (.int .u64 xb.h.seq) (.string xb.h.prev) (.string xb.h.root) (.int .u64 xb.h.who) (.int .u64 xb.h.stamp) (.string xb.mac)) ⟨HBq3, FXq3⟩ (fun _ => ?_)
              clear hK K z0 z1 z2 z3 z4 z5 z6 y0 y1 y2 y3 y4 y5 y6
              try simp only [Act.put, List.getElem_toArray, List.getElem_cons_zero, List.getElem_cons_succ]
              refine wpAnyH_take (i := 14) (v := ?_) rfl (by kernel_rfl) (by kernel_rfl) (by kernel_rfl) (fun _ _ _ h => h) (Or.inl ⟨by rfl, ?_⟩) ⟨HBq3, FXq3⟩ ?_
              rotate_left
              · intro w' hSw; obtain ⟨ac0, ac1, ac2, ac3, ac4, ac5, ac6⟩ := cells7 hSw.2; go_simp; first | done | with_reducible rfl | rfl
              try simp only [Act.put, List.getElem_toArray, List.getElem_cons_zero, List.getElem_cons_succ, List.setIfInBounds_toArray, List.set_cons_zero, List.set_cons_succ]
              refine wpAnyH_done (by kernel_rfl) ?_ _
              refine NoPanic.normal ?_
              go_wp2_with fail
              go_meet
              exact ⟨wq1.heap.size, rfl, rfl, Lib.hid (by have := lt2; omega), Lib.hid HBq3, Lib.hid FXq3, Lib.hid HGq3⟩
            refine AllReadyH.cons rfl (fun K hK => ?_) AllReadyH.nil
            · try simp only [Act.put, List.getElem_toArray, List.getElem_cons_zero, List.getElem_cons_succ, List.setIfInBounds_toArray, List.set_cons_zero, List.set_cons_succ]
              go_simp
              refine hK.out _ _ ⟨HBD.alloc HBD.size _, ((((Below.refl _ _).alloc (Nat.le_refl _) _).block _ (block_lt FXD)).trans FXD)⟩ (fun _ => ?_)
              clear hK K
              try simp only [Act.put, List.getElem_toArray, List.getElem_cons_zero, List.getElem_cons_succ, List.setIfInBounds_toArray, List.set_cons_zero, List.set_cons_succ]
              refine named (M := wpAnyH _ _ _ _ _ _ _ _) ?_
              intro wq4 hk4 hb4 sz4
              have HBq4 := HBD.trans (hb4.mono HBD.size)
              have FXq4 := ((hb4.block _ (block_lt FXD)).trans FXD)
              have lt4 : W8.heap.size ≤ WD.heap.size ∧ gx < WD.heap.size := ⟨HBD.size, block_lt FXD⟩
              refine wpAnyH_ready (rs := [8]) (by kernel_rfl) (by simp) ?_
              refine AllReadyH.cons rfl (fun K hK => ?_) AllReadyH.nil
              try simp only [Act.put, List.getElem_toArray, List.getElem_cons_zero, List.getElem_cons_succ, List.setIfInBounds_toArray, List.set_cons_zero, List.set_cons_succ]
              go_simp
              go_at_call 27
              refine (K2.out _ (HP2.out.later (HB8.out.trans (HBq4.mono HB8.out.size))) (HST.out.later (HB7.out.trans ((HB8.out.trans (HBq4.mono HB8.out.size)).mono HB7.out.size)))).mono ?_
              rintro e wq5 ⟨rfl, hb5⟩
              have HBq5 := HBq4.trans (hb5.mono HBq4.size)
              have FXq5 := ((hb5.block _ (block_lt FXq4)).trans FXq4)
              have HGq5 := (hb5.block _ (block_lt hk4)).trans hk4
              go_wp2_with fail
              refine hK.out _ _ ⟨HBq5, FXq5⟩ (fun _ => ?_)
              clear hK K
              try simp only [Act.put, List.getElem_toArray, List.getElem_cons_zero, List.getElem_cons_succ, List.setIfInBounds_toArray, List.set_cons_zero, List.set_cons_succ]
              refine wpAnyH_take (i := 9) (v := ?_) rfl (by kernel_rfl) (by kernel_rfl) (by kernel_rfl) (fun _ _ _ h => h) (Or.inl ⟨by rfl, ?_⟩) ⟨HBq5, FXq5⟩ ?_
              rotate_left
              · intro w' hSw; obtain ⟨ac0, ac1, ac2, ac3, ac4, ac5, ac6⟩ := cells7 hSw.2; go_simp; first | done | with_reducible rfl | rfl
              try simp only [Act.put, List.getElem_toArray, List.getElem_cons_zero, List.getElem_cons_succ, List.setIfInBounds_toArray, List.set_cons_zero, List.set_cons_succ]
              refine wpAnyH_take (i := 10) (v := ?_) rfl (by kernel_rfl) (by kernel_rfl) (by kernel_rfl) (fun _ _ _ h => h) (Or.inl ⟨by rfl, ?_⟩) ⟨HBq5, FXq5⟩ ?_
              rotate_left
              · intro w' hSw; obtain ⟨ac0, ac1, ac2, ac3, ac4, ac5, ac6⟩ := cells7 hSw.2; go_simp; first | done | with_reducible rfl | rfl
              try simp only [Act.put, List.getElem_toArray, List.getElem_cons_zero, List.getElem_cons_succ, List.setIfInBounds_toArray, List.set_cons_zero, List.set_cons_succ]
              refine wpAnyH_take (i := 11) (v := ?_) rfl (by kernel_rfl) (by kernel_rfl) (by kernel_rfl) (fun _ _ _ h => h) (Or.inl ⟨by rfl, ?_⟩) ⟨HBq5, FXq5⟩ ?_
              rotate_left
              · intro w' hSw; obtain ⟨ac0, ac1, ac2, ac3, ac4, ac5, ac6⟩ := cells7 hSw.2; go_simp; first | done | with_reducible rfl | rfl
              try simp only [Act.put, List.getElem_toArray, List.getElem_cons_zero, List.getElem_cons_succ, List.setIfInBounds_toArray, List.set_cons_zero, List.set_cons_succ]
              refine wpAnyH_ready (rs := [13]) (by kernel_rfl) (by simp) ?_
              refine AllReadyH.cons rfl (fun K hK => ?_) AllReadyH.nil
              obtain ⟨z0, z1, z2, z3, z4, z5, z6⟩ := cells7 HGq5
              obtain ⟨y0, y1, y2, y3, y4, y5, y6⟩ := free7 HGq5
              try simp only [Act.put, List.getElem_toArray, List.getElem_cons_zero, List.getElem_cons_succ]
              go_simp
              have HBq6 := HBq5.trans (set7_below (w := wq5) (G := WD.heap.size) (by have := lt4; omega) (.int .u64 xb.h.shard) (.int .u64 xb.h.seq) (.string xb.h.prev) (.string xb.h.root) (.int .u64 xb.h.who) (.int .u64 xb.h.stamp) (.string xb.mac))
              have FXq6 := ((set7_other _ (WD.heap.size) (.int .u64 xb.h.shard) (.int .u64 xb.h.seq) (.string xb.h.prev) (.string xb.h.root) (.int .u64 xb.h.who) (.int .u64 xb.h.stamp) (.string xb.mac) (gx) (by have := lt4; omega)).trans FXq5)
              have HGq6 := set7_heap HGq5 (.int .u64 xb.h.shard) (.int .u64 xb.h.seq) (.string xb.h.prev) (.string xb.h.root) (.int .u64 xb.h.who) (.int .u64 xb.h.stamp) (.string xb.mac)
              refine hK.out _ (set7 wq5 (WD.heap.size) (.int .u64 xb.h.shard) (.int .u64 xb.h.seq) (.string xb.h.prev) (.string xb.h.root) (.int .u64 xb.h.who) (.int .u64 xb.h.stamp) (.string xb.mac)) ⟨HBq6, FXq6⟩ (fun _ => ?_)
              clear hK K z0 z1 z2 z3 z4 z5 z6 y0 y1 y2 y3 y4 y5 y6
              try simp only [Act.put, List.getElem_toArray, List.getElem_cons_zero, List.getElem_cons_succ]
              refine wpAnyH_take (i := 14) (v := ?_) rfl (by kernel_rfl) (by kernel_rfl) (by kernel_rfl) (fun _ _ _ h => h) (Or.inl ⟨by rfl, ?_⟩) ⟨HBq6, FXq6⟩ ?_
              rotate_left
              · intro w' hSw; obtain ⟨ac0, ac1, ac2, ac3, ac4, ac5, ac6⟩ := cells7 hSw.2; go_simp; first | done | with_reducible rfl | rfl
              try simp only [Act.put, List.getElem_toArray, List.getElem_cons_zero, List.getElem_cons_succ, List.setIfInBounds_toArray, List.set_cons_zero, List.set_cons_succ]
              refine wpAnyH_done (by kernel_rfl) ?_ _
              refine NoPanic.normal ?_
              go_wp2_with fail
              go_meet
              exact ⟨WD.heap.size, rfl, rfl, Lib.hid (by have := lt4; omega), Lib.hid HBq6, Lib.hid FXq6, Lib.hid HGq6⟩
          case rest =>
            obtain ⟨gy, rfl, rfl, HLy, HB9, HX9, HY9⟩ := hcut
            obtain ⟨W9, hW9⟩ : ∃ W, W = wc := ⟨_, rfl⟩
            rw [← hW9] at HB9 HX9 HY9
            simp only [← hW9]
            clear hW9
            have HC9 : Hid (Below W7.heap.size W7 W9) := Lib.hid (HB8.out.trans (HB9.out.mono HB8.out.size))
            go_upto_region 11 with fail
            go_cut [16, 17] (fun sa sb wx => ∃ g : Nat, sa = .pointer (some ⟨g, 0, none⟩) ∧ sb = .bool true ∧ Hid (W9.heap.size ≤ g ∧ gx < g ∧ gy < g) ∧ Hid (Below W9.heap.size W9 wx) ∧ Hid (wx.heap[gx]? = some (.cells #[.int .u64 xa.h.shard, .int .u64 xa.h.seq, .string xa.h.prev, .string xa.h.root, .int .u64 xa.h.who, .int .u64 xa.h.stamp, .string xa.mac] 26 (0, 0))) ∧ Hid (wx.heap[gy]? = some (.cells #[.int .u64 xb.h.shard, .int .u64 xb.h.seq, .string xb.h.prev, .string xb.h.root, .int .u64 xb.h.who, .int .u64 xb.h.stamp, .string xb.mac] 26 (0, 0))) ∧ Hid (wx.heap[g]? = some (.cells #[.int .u64 xn.h.shard, .int .u64 xn.h.seq, .string xn.h.prev, .string xn.h.root, .int .u64 xn.h.who, .int .u64 xn.h.stamp, .string xn.mac] 26 (0, 0))))
            case first =>
              refine wp_region_noPanic ?_
              refine wp_region_held_drew (S := fun w' => Below W9.heap.size W9 w' ∧ (w'.heap[gx]? = some (.cells #[.int .u64 xa.h.shard, .int .u64 xa.h.seq, .string xa.h.prev, .string xa.h.root, .int .u64 xa.h.who, .int .u64 xa.h.stamp, .string xa.mac] 26 (0, 0))) ∧ (w'.heap[gy]? = some (.cells #[.int .u64 xb.h.shard, .int .u64 xb.h.seq, .string xb.h.prev, .string xb.h.root, .int .u64 xb.h.who, .int .u64 xb.h.stamp, .string xb.mac] 26 (0, 0)))) (by kernel_rfl) ⟨(Below.refl W9.heap.size W9).drew, HX9.out, HY9.out⟩ (fun hHeld => ?_)
              generalize W9.drew = WD at hHeld ⊢
              have HBD := hHeld.1
              have FXD := hHeld.2.1
              have FYD := hHeld.2.2
              refine wpAnyH_take (i := 0) (v := ?_) rfl (by kernel_rfl) (by kernel_rfl) (by kernel_rfl) (fun _ _ _ h => h) (Or.inl ⟨by rfl, ?_⟩) ⟨HBD, FXD, FYD⟩ ?_
              rotate_left
              · intro w' hSw; obtain ⟨ac0, ac1, ac2, ac3, ac4, ac5, ac6⟩ := cells7 hSw.2.1; obtain ⟨bc0, bc1, bc2, bc3, bc4, bc5, bc6⟩ := cells7 hSw.2.2; go_simp; first | done | with_reducible rfl | rfl
              try simp only [Act.put, List.getElem_toArray, List.getElem_cons_zero, List.setIfInBounds_toArray, List.set_cons_zero, List.set_cons_succ]
              refine wpAnyH_take (i := 1) (v := ?_) rfl (by kernel_rfl) (by kernel_rfl) (by kernel_rfl) (fun _ _ _ h => h) (Or.inl ⟨by rfl, ?_⟩) ⟨HBD, FXD, FYD⟩ ?_
              rotate_left
              · intro w' hSw; obtain ⟨ac0, ac1, ac2, ac3, ac4, ac5, ac6⟩ := cells7 hSw.2.1; obtain ⟨bc0, bc1, bc2, bc3, bc4, bc5, bc6⟩ := cells7 hSw.2.2; go_simp; first | done | with_reducible rfl | rfl
              try simp only [Act.put, List.getElem_toArray, List.getElem_cons_zero, List.getElem_cons_succ, List.setIfInBounds_toArray, List.set_cons_zero, List.set_cons_succ]
              refine wpAnyH_take (i := 2) (v := ?_) rfl (by kernel_rfl) (by kernel_rfl) (by kernel_rfl) (fun _ _ _ h => h) (Or.inl ⟨by rfl, ?_⟩) ⟨HBD, FXD, FYD⟩ ?_
              rotate_left
              · intro w' hSw; obtain ⟨ac0, ac1, ac2, ac3, ac4, ac5, ac6⟩ := cells7 hSw.2.1; obtain ⟨bc0, bc1, bc2, bc3, bc4, bc5, bc6⟩ := cells7 hSw.2.2; go_simp; first | done | with_reducible rfl | rfl
              try simp only [Act.put, List.getElem_toArray, List.getElem_cons_zero, List.getElem_cons_succ, List.setIfInBounds_toArray, List.set_cons_zero, List.set_cons_succ]
              refine wpAnyH_take (i := 3) (v := ?_) rfl (by kernel_rfl) (by kernel_rfl) (by kernel_rfl) (fun _ _ _ h => h) (Or.inl ⟨by rfl, ?_⟩) ⟨HBD, FXD, FYD⟩ ?_
              rotate_left
              · intro w' hSw; obtain ⟨ac0, ac1, ac2, ac3, ac4, ac5, ac6⟩ := cells7 hSw.2.1; obtain ⟨bc0, bc1, bc2, bc3, bc4, bc5, bc6⟩ := cells7 hSw.2.2; go_simp; first | done | with_reducible rfl | rfl
              try simp only [Act.put, List.getElem_toArray, List.getElem_cons_zero, List.getElem_cons_succ, List.setIfInBounds_toArray, List.set_cons_zero, List.set_cons_succ]
              refine wpAnyH_take (i := 4) (v := ?_) rfl (by kernel_rfl) (by kernel_rfl) (by kernel_rfl) (fun _ _ _ h => h) (Or.inl ⟨by rfl, ?_⟩) ⟨HBD, FXD, FYD⟩ ?_
              rotate_left
              · intro w' hSw; obtain ⟨ac0, ac1, ac2, ac3, ac4, ac5, ac6⟩ := cells7 hSw.2.1; obtain ⟨bc0, bc1, bc2, bc3, bc4, bc5, bc6⟩ := cells7 hSw.2.2; go_simp; first | done | with_reducible rfl | rfl
              try simp only [Act.put, List.getElem_toArray, List.getElem_cons_zero, List.getElem_cons_succ, List.setIfInBounds_toArray, List.set_cons_zero, List.set_cons_succ]
              refine wpAnyH_take (i := 5) (v := ?_) rfl (by kernel_rfl) (by kernel_rfl) (by kernel_rfl) (fun _ _ _ h => h) (Or.inl ⟨by rfl, ?_⟩) ⟨HBD, FXD, FYD⟩ ?_
              rotate_left
              · intro w' hSw; obtain ⟨ac0, ac1, ac2, ac3, ac4, ac5, ac6⟩ := cells7 hSw.2.1; obtain ⟨bc0, bc1, bc2, bc3, bc4, bc5, bc6⟩ := cells7 hSw.2.2; go_simp; first | done | with_reducible rfl | rfl
              try simp only [Act.put, List.getElem_toArray, List.getElem_cons_zero, List.getElem_cons_succ, List.setIfInBounds_toArray, List.set_cons_zero, List.set_cons_succ]
              refine wpAnyH_ready (rs := [6, 10]) (by kernel_rfl) (by simp) ?_
              refine AllReadyH.cons rfl (fun K hK => ?_) ?_
              · try simp only [Act.put, List.getElem_toArray, List.getElem_cons_zero, List.getElem_cons_succ, List.setIfInBounds_toArray, List.set_cons_zero, List.set_cons_succ]
                go_simp
                go_at_call 27
                refine (K3.out _ (HP3.out.later (HC9.out.trans (HBD.mono HC9.out.size))) (HST.out.later (HB7.out.trans ((HC9.out.trans (HBD.mono HC9.out.size)).mono HB7.out.size)))).mono ?_
                rintro e wq1 ⟨rfl, hb1⟩
                have HBq1 := HBD.trans (hb1.mono HBD.size)
                have FXq1 := ((hb1.block _ (block_lt FXD)).trans FXD)
                have FYq1 := ((hb1.block _ (block_lt FYD)).trans FYD)
                go_wp2_with fail
                refine hK.out _ _ ⟨HBq1, FXq1, FYq1⟩ (fun _ => ?_)
                clear hK K
                try simp only [Act.put, List.getElem_toArray, List.getElem_cons_zero, List.getElem_cons_succ, List.setIfInBounds_toArray, List.set_cons_zero, List.set_cons_succ]
                refine wpAnyH_take (i := 7) (v := ?_) rfl (by kernel_rfl) (by kernel_rfl) (by kernel_rfl) (fun _ _ _ h => h) (Or.inl ⟨by rfl, ?_⟩) ⟨HBq1, FXq1, FYq1⟩ ?_
                rotate_left
                · intro w' hSw; obtain ⟨ac0, ac1, ac2, ac3, ac4, ac5, ac6⟩ := cells7 hSw.2.1; obtain ⟨bc0, bc1, bc2, bc3, bc4, bc5, bc6⟩ := cells7 hSw.2.2; go_simp; first | done | with_reducible rfl | rfl
                try simp only [Act.put, List.getElem_toArray, List.getElem_cons_zero, List.getElem_cons_succ, List.setIfInBounds_toArray, List.set_cons_zero, List.set_cons_succ]
                refine wpAnyH_take (i := 8) (v := ?_) rfl (by kernel_rfl) (by kernel_rfl) (by kernel_rfl) (fun _ _ _ h => h) (Or.inl ⟨by rfl, ?_⟩) ⟨HBq1, FXq1, FYq1⟩ ?_
                rotate_left
                · intro w' hSw; obtain ⟨ac0, ac1, ac2, ac3, ac4, ac5, ac6⟩ := cells7 hSw.2.1; obtain ⟨bc0, bc1, bc2, bc3, bc4, bc5, bc6⟩ := cells7 hSw.2.2; go_simp; first | done | with_reducible rfl | rfl
                try simp only [Act.put, List.getElem_toArray, List.getElem_cons_zero, List.getElem_cons_succ, List.setIfInBounds_toArray, List.set_cons_zero, List.set_cons_succ]
                refine wpAnyH_take (i := 9) (v := ?_) rfl (by kernel_rfl) (by kernel_rfl) (by kernel_rfl) (fun _ _ _ h => h) (Or.inl ⟨by rfl, ?_⟩) ⟨HBq1, FXq1, FYq1⟩ ?_
                rotate_left
                · intro w' hSw; obtain ⟨ac0, ac1, ac2, ac3, ac4, ac5, ac6⟩ := cells7 hSw.2.1; obtain ⟨bc0, bc1, bc2, bc3, bc4, bc5, bc6⟩ := cells7 hSw.2.2; go_simp; first | done | with_reducible rfl | rfl
                try simp only [Act.put, List.getElem_toArray, List.getElem_cons_zero, List.getElem_cons_succ, List.setIfInBounds_toArray, List.set_cons_zero, List.set_cons_succ]
                refine wpAnyH_ready (rs := [10]) (by kernel_rfl) (by simp) ?_
                refine AllReadyH.cons rfl (fun K hK => ?_) AllReadyH.nil
                try simp only [Act.put, List.getElem_toArray, List.getElem_cons_zero, List.getElem_cons_succ, List.setIfInBounds_toArray, List.set_cons_zero, List.set_cons_succ]
                go_simp
                refine hK.out _ _ ⟨HBq1.alloc HBq1.size _, ((((Below.refl _ _).alloc (Nat.le_refl _) _).block _ (block_lt FXq1)).trans FXq1), ((((Below.refl _ _).alloc (Nat.le_refl _) _).block _ (block_lt FYq1)).trans FYq1)⟩ (fun _ => ?_)
                clear hK K
                try simp only [Act.put, List.getElem_toArray, List.getElem_cons_zero, List.getElem_cons_succ, List.setIfInBounds_toArray, List.set_cons_zero, List.set_cons_succ]
                refine named (M := wpAnyH _ _ _ _ _ _ _ _) ?_
                intro wq2 hk2 hb2 sz2
                have HBq2 := HBq1.trans (hb2.mono HBq1.size)
                have FXq2 := ((hb2.block _ (block_lt FXq1)).trans FXq1)
                have FYq2 := ((hb2.block _ (block_lt FYq1)).trans FYq1)
                have lt2 : W9.heap.size ≤ wq1.heap.size ∧ gx < wq1.heap.size ∧ gy < wq1.heap.size := ⟨HBq1.size, block_lt FXq1, block_lt FYq1⟩
                refine wpAnyH_ready (rs := [11]) (by kernel_rfl) (by simp) ?_
                refine AllReadyH.cons rfl (fun K hK => ?_) AllReadyH.nil
                obtain ⟨z0, z1, z2, z3, z4, z5, z6⟩ := cells7 hk2
                obtain ⟨y0, y1, y2, y3, y4, y5, y6⟩ := free7 hk2
                try simp only [Act.put, List.getElem_toArray, List.getElem_cons_zero, List.getElem_cons_succ]
                go_simp
                have HBq3 := HBq2.trans (set7_below (w := wq2) (G := wq1.heap.size) (by have := lt2; omega) (.int .u64 xn.h.shard) (.int .u64 xn.h.seq) (.string xn.h.prev) (.string xn.h.root) (.int .u64 xn.h.who) (.int .u64 xn.h.stamp) (.string xn.mac))
                have FXq3 := ((set7_other _ (wq1.heap.size) (.int .u64 xn.h.shard) (.int .u64 xn.h.seq) (.string xn.h.prev) (.string xn.h.root) (.int .u64 xn.h.who) (.int .u64 xn.h.stamp) (.string xn.mac) (gx) (by have := lt2; omega)).trans FXq2)
                have FYq3 := ((set7_other _ (wq1.heap.size) (.int .u64 xn.h.shard) (.int .u64 xn.h.seq) (.string xn.h.prev) (.string xn.h.root) (.int .u64 xn.h.who) (.int .u64 xn.h.stamp) (.string xn.mac) (gy) (by have := lt2; omega)).trans FYq2)
                have HGq3 := set7_heap hk2 (.int .u64 xn.h.shard) (.int .u64 xn.h.seq) (.string xn.h.prev) (.string xn.h.root) (.int .u64 xn.h.who) (.int .u64 xn.h.stamp) (.string xn.mac)
                refine hK.out _ (set7 wq2 (wq1.heap.size) (.int .u64 xn.h.shard) (.int .u64 xn.h.seq) (.string xn.h.prev) (.string xn.h.root) (.int .u64 xn.h.who) (.int .u64 xn.h.stamp) (.string xn.mac)) ⟨HBq3, FXq3, FYq3⟩ (fun _ => ?_)
                clear hK K z0 z1 z2 z3 z4 z5 z6 y0 y1 y2 y3 y4 y5 y6
                try simp only [Act.put, List.getElem_toArray, List.getElem_cons_zero, List.getElem_cons_succ]
                refine wpAnyH_take (i := 12) (v := ?_) rfl (by kernel_rfl) (by kernel_rfl) (by kernel_rfl) (fun _ _ _ h => h) (Or.inl ⟨by rfl, ?_⟩) ⟨HBq3, FXq3, FYq3⟩ ?_
                rotate_left
                · intro w' hSw; obtain ⟨ac0, ac1, ac2, ac3, ac4, ac5, ac6⟩ := cells7 hSw.2.1; obtain ⟨bc0, bc1, bc2, bc3, bc4, bc5, bc6⟩ := cells7 hSw.2.2; go_simp; first | done | with_reducible rfl | rfl
                try simp only [Act.put, List.getElem_toArray, List.getElem_cons_zero, List.getElem_cons_succ, List.setIfInBounds_toArray, List.set_cons_zero, List.set_cons_succ]
                refine wpAnyH_done (by kernel_rfl) ?_ _
                refine NoPanic.normal ?_
                go_wp2_with fail
                go_meet
                exact ⟨wq1.heap.size, rfl, rfl, Lib.hid (by have := lt2; omega), Lib.hid HBq3, Lib.hid FXq3, Lib.hid FYq3, Lib.hid HGq3⟩
              refine AllReadyH.cons rfl (fun K hK => ?_) AllReadyH.nil
              · try simp only [Act.put, List.getElem_toArray, List.getElem_cons_zero, List.getElem_cons_succ, List.setIfInBounds_toArray, List.set_cons_zero, List.set_cons_succ]
                go_simp
                refine hK.out _ _ ⟨HBD.alloc HBD.size _, ((((Below.refl _ _).alloc (Nat.le_refl _) _).block _ (block_lt FXD)).trans FXD), ((((Below.refl _ _).alloc (Nat.le_refl _) _).block _ (block_lt FYD)).trans FYD)⟩ (fun _ => ?_)
                clear hK K
                try simp only [Act.put, List.getElem_toArray, List.getElem_cons_zero, List.getElem_cons_succ, List.setIfInBounds_toArray, List.set_cons_zero, List.set_cons_succ]
                refine named (M := wpAnyH _ _ _ _ _ _ _ _) ?_
                intro wq4 hk4 hb4 sz4
                have HBq4 := HBD.trans (hb4.mono HBD.size)
                have FXq4 := ((hb4.block _ (block_lt FXD)).trans FXD)
                have FYq4 := ((hb4.block _ (block_lt FYD)).trans FYD)
                have lt4 : W9.heap.size ≤ WD.heap.size ∧ gx < WD.heap.size ∧ gy < WD.heap.size := ⟨HBD.size, block_lt FXD, block_lt FYD⟩
                refine wpAnyH_ready (rs := [6]) (by kernel_rfl) (by simp) ?_
                refine AllReadyH.cons rfl (fun K hK => ?_) AllReadyH.nil
                try simp only [Act.put, List.getElem_toArray, List.getElem_cons_zero, List.getElem_cons_succ, List.setIfInBounds_toArray, List.set_cons_zero, List.set_cons_succ]
                go_simp
                go_at_call 27
                refine (K3.out _ (HP3.out.later (HC9.out.trans (HBq4.mono HC9.out.size))) (HST.out.later (HB7.out.trans ((HC9.out.trans (HBq4.mono HC9.out.size)).mono HB7.out.size)))).mono ?_
                rintro e wq5 ⟨rfl, hb5⟩
                have HBq5 := HBq4.trans (hb5.mono HBq4.size)
                have FXq5 := ((hb5.block _ (block_lt FXq4)).trans FXq4)
                have FYq5 := ((hb5.block _ (block_lt FYq4)).trans FYq4)
                have HGq5 := (hb5.block _ (block_lt hk4)).trans hk4
                go_wp2_with fail
                refine hK.out _ _ ⟨HBq5, FXq5, FYq5⟩ (fun _ => ?_)
                clear hK K
                try simp only [Act.put, List.getElem_toArray, List.getElem_cons_zero, List.getElem_cons_succ, List.setIfInBounds_toArray, List.set_cons_zero, List.set_cons_succ]
                refine wpAnyH_take (i := 7) (v := ?_) rfl (by kernel_rfl) (by kernel_rfl) (by kernel_rfl) (fun _ _ _ h => h) (Or.inl ⟨by rfl, ?_⟩) ⟨HBq5, FXq5, FYq5⟩ ?_
                rotate_left
                · intro w' hSw; obtain ⟨ac0, ac1, ac2, ac3, ac4, ac5, ac6⟩ := cells7 hSw.2.1; obtain ⟨bc0, bc1, bc2, bc3, bc4, bc5, bc6⟩ := cells7 hSw.2.2; go_simp; first | done | with_reducible rfl | rfl
                try simp only [Act.put, List.getElem_toArray, List.getElem_cons_zero, List.getElem_cons_succ, List.setIfInBounds_toArray, List.set_cons_zero, List.set_cons_succ]
                refine wpAnyH_take (i := 8) (v := ?_) rfl (by kernel_rfl) (by kernel_rfl) (by kernel_rfl) (fun _ _ _ h => h) (Or.inl ⟨by rfl, ?_⟩) ⟨HBq5, FXq5, FYq5⟩ ?_
                rotate_left
                · intro w' hSw; obtain ⟨ac0, ac1, ac2, ac3, ac4, ac5, ac6⟩ := cells7 hSw.2.1; obtain ⟨bc0, bc1, bc2, bc3, bc4, bc5, bc6⟩ := cells7 hSw.2.2; go_simp; first | done | with_reducible rfl | rfl
                try simp only [Act.put, List.getElem_toArray, List.getElem_cons_zero, List.getElem_cons_succ, List.setIfInBounds_toArray, List.set_cons_zero, List.set_cons_succ]
                refine wpAnyH_take (i := 9) (v := ?_) rfl (by kernel_rfl) (by kernel_rfl) (by kernel_rfl) (fun _ _ _ h => h) (Or.inl ⟨by rfl, ?_⟩) ⟨HBq5, FXq5, FYq5⟩ ?_
                rotate_left
                · intro w' hSw; obtain ⟨ac0, ac1, ac2, ac3, ac4, ac5, ac6⟩ := cells7 hSw.2.1; obtain ⟨bc0, bc1, bc2, bc3, bc4, bc5, bc6⟩ := cells7 hSw.2.2; go_simp; first | done | with_reducible rfl | rfl
                try simp only [Act.put, List.getElem_toArray, List.getElem_cons_zero, List.getElem_cons_succ, List.setIfInBounds_toArray, List.set_cons_zero, List.set_cons_succ]
                refine wpAnyH_ready (rs := [11]) (by kernel_rfl) (by simp) ?_
                refine AllReadyH.cons rfl (fun K hK => ?_) AllReadyH.nil
                obtain ⟨z0, z1, z2, z3, z4, z5, z6⟩ := cells7 HGq5
                obtain ⟨y0, y1, y2, y3, y4, y5, y6⟩ := free7 HGq5
                try simp only [Act.put, List.getElem_toArray, List.getElem_cons_zero, List.getElem_cons_succ]
                go_simp
                have HBq6 := HBq5.trans (set7_below (w := wq5) (G := WD.heap.size) (by have := lt4; omega) (.int .u64 xn.h.shard) (.int .u64 xn.h.seq) (.string xn.h.prev) (.string xn.h.root) (.int .u64 xn.h.who) (.int .u64 xn.h.stamp) (.string xn.mac))
                have FXq6 := ((set7_other _ (WD.heap.size) (.int .u64 xn.h.shard) (.int .u64 xn.h.seq) (.string xn.h.prev) (.string xn.h.root) (.int .u64 xn.h.who) (.int .u64 xn.h.stamp) (.string xn.mac) (gx) (by have := lt4; omega)).trans FXq5)
                have FYq6 := ((set7_other _ (WD.heap.size) (.int .u64 xn.h.shard) (.int .u64 xn.h.seq) (.string xn.h.prev) (.string xn.h.root) (.int .u64 xn.h.who) (.int .u64 xn.h.stamp) (.string xn.mac) (gy) (by have := lt4; omega)).trans FYq5)
                have HGq6 := set7_heap HGq5 (.int .u64 xn.h.shard) (.int .u64 xn.h.seq) (.string xn.h.prev) (.string xn.h.root) (.int .u64 xn.h.who) (.int .u64 xn.h.stamp) (.string xn.mac)
                refine hK.out _ (set7 wq5 (WD.heap.size) (.int .u64 xn.h.shard) (.int .u64 xn.h.seq) (.string xn.h.prev) (.string xn.h.root) (.int .u64 xn.h.who) (.int .u64 xn.h.stamp) (.string xn.mac)) ⟨HBq6, FXq6, FYq6⟩ (fun _ => ?_)
                clear hK K z0 z1 z2 z3 z4 z5 z6 y0 y1 y2 y3 y4 y5 y6
                try simp only [Act.put, List.getElem_toArray, List.getElem_cons_zero, List.getElem_cons_succ]
                refine wpAnyH_take (i := 12) (v := ?_) rfl (by kernel_rfl) (by kernel_rfl) (by kernel_rfl) (fun _ _ _ h => h) (Or.inl ⟨by rfl, ?_⟩) ⟨HBq6, FXq6, FYq6⟩ ?_
                rotate_left
                · intro w' hSw; obtain ⟨ac0, ac1, ac2, ac3, ac4, ac5, ac6⟩ := cells7 hSw.2.1; obtain ⟨bc0, bc1, bc2, bc3, bc4, bc5, bc6⟩ := cells7 hSw.2.2; go_simp; first | done | with_reducible rfl | rfl
                try simp only [Act.put, List.getElem_toArray, List.getElem_cons_zero, List.getElem_cons_succ, List.setIfInBounds_toArray, List.set_cons_zero, List.set_cons_succ]
                refine wpAnyH_done (by kernel_rfl) ?_ _
                refine NoPanic.normal ?_
                go_wp2_with fail
                go_meet
                exact ⟨WD.heap.size, rfl, rfl, Lib.hid (by have := lt4; omega), Lib.hid HBq6, Lib.hid FXq6, Lib.hid FYq6, Lib.hid HGq6⟩
            case rest =>
              obtain ⟨gw, rfl, rfl, HLw, HB10, HX10, HY10, HW10⟩ := hcut
              have HC10 : Hid (Below W7.heap.size W7 wc) := Lib.hid (HC9.out.trans (HB10.out.mono HC9.out.size))
              have HCA' := Lib.hid ((HCA.out.later HC10.out).later (Below.refl _ _).drew)
              have HCB' := Lib.hid ((HCB.out.later HC10.out).later (Below.refl _ _).drew)
              have HCN' := Lib.hid ((HCN.out.later HC10.out).later (Below.refl _ _).drew)
              go_upto_region 12 with fail
              clear s1 s2 s3
              refine wp_region_held_drew (S := fun w' => Below W7.heap.size W7 w' ∧ (w'.heap[gx]? = some (.cells #[.int .u64 xa.h.shard, .int .u64 xa.h.seq, .string xa.h.prev, .string xa.h.root, .int .u64 xa.h.who, .int .u64 xa.h.stamp, .string xa.mac] 26 (0, 0))) ∧ (w'.heap[gy]? = some (.cells #[.int .u64 xb.h.shard, .int .u64 xb.h.seq, .string xb.h.prev, .string xb.h.root, .int .u64 xb.h.who, .int .u64 xb.h.stamp, .string xb.mac] 26 (0, 0))) ∧ (w'.heap[gw]? = some (.cells #[.int .u64 xn.h.shard, .int .u64 xn.h.seq, .string xn.h.prev, .string xn.h.root, .int .u64 xn.h.who, .int .u64 xn.h.stamp, .string xn.mac] 26 (0, 0))) ∧ SCl w' ga (a * 7) xa ∧ SCl w' ga (b * 7) xb ∧ SCl w' ga (N * 7) xn) (by kernel_rfl) (⟨HC10.out.drew, HX10.out, HY10.out, HW10.out, HCA'.out, HCB'.out, HCN'.out⟩) (fun hHeld => ?_)
              refine wpAnyH_take (i := 0) (v := ?_) rfl (by kernel_rfl) (by kernel_rfl) (by kernel_rfl) (fun _ _ _ h => h) (Or.inl ⟨by rfl, ?_⟩) hHeld ?_
              rotate_left
              · intro w' hSw; obtain ⟨cq0, cq1, cq2, cq3, cq4, cq5, cq6⟩ := cells7 hSw.2.1; obtain ⟨dq0, dq1, dq2, dq3, dq4, dq5, dq6⟩ := cells7 hSw.2.2.1; obtain ⟨eq0, eq1, eq2, eq3, eq4, eq5, eq6⟩ := cells7 hSw.2.2.2.1; obtain ⟨xq0, xq1, xq2, xq3, xq4, xq5, xq6⟩ := hSw.2.2.2.2.1; obtain ⟨yq0, yq1, yq2, yq3, yq4, yq5, yq6⟩ := hSw.2.2.2.2.2.1; obtain ⟨zq0, zq1, zq2, zq3, zq4, zq5, zq6⟩ := hSw.2.2.2.2.2.2; go_simp; first | done | with_reducible rfl | rfl
              try simp only [Act.put, List.getElem_toArray, List.getElem_cons_zero, List.setIfInBounds_toArray, List.set_cons_zero, List.set_cons_succ]
              refine wpAnyH_take (i := 1) (v := ?_) rfl (by kernel_rfl) (by kernel_rfl) (by kernel_rfl) (fun _ _ _ h => h) (Or.inl ⟨by rfl, ?_⟩) hHeld ?_
              rotate_left
              · intro w' hSw; obtain ⟨cq0, cq1, cq2, cq3, cq4, cq5, cq6⟩ := cells7 hSw.2.1; obtain ⟨dq0, dq1, dq2, dq3, dq4, dq5, dq6⟩ := cells7 hSw.2.2.1; obtain ⟨eq0, eq1, eq2, eq3, eq4, eq5, eq6⟩ := cells7 hSw.2.2.2.1; obtain ⟨xq0, xq1, xq2, xq3, xq4, xq5, xq6⟩ := hSw.2.2.2.2.1; obtain ⟨yq0, yq1, yq2, yq3, yq4, yq5, yq6⟩ := hSw.2.2.2.2.2.1; obtain ⟨zq0, zq1, zq2, zq3, zq4, zq5, zq6⟩ := hSw.2.2.2.2.2.2; go_simp; first | done | with_reducible rfl | rfl
              try simp only [Act.put, List.getElem_toArray, List.getElem_cons_zero, List.getElem_cons_succ, List.setIfInBounds_toArray, List.set_cons_zero, List.set_cons_succ]
              refine wpAnyH_take (i := 2) (v := ?_) rfl (by kernel_rfl) (by kernel_rfl) (by kernel_rfl) (fun _ _ _ h => h) (Or.inl ⟨by rfl, ?_⟩) hHeld ?_
              rotate_left
              · intro w' hSw; obtain ⟨cq0, cq1, cq2, cq3, cq4, cq5, cq6⟩ := cells7 hSw.2.1; obtain ⟨dq0, dq1, dq2, dq3, dq4, dq5, dq6⟩ := cells7 hSw.2.2.1; obtain ⟨eq0, eq1, eq2, eq3, eq4, eq5, eq6⟩ := cells7 hSw.2.2.2.1; obtain ⟨xq0, xq1, xq2, xq3, xq4, xq5, xq6⟩ := hSw.2.2.2.2.1; obtain ⟨yq0, yq1, yq2, yq3, yq4, yq5, yq6⟩ := hSw.2.2.2.2.2.1; obtain ⟨zq0, zq1, zq2, zq3, zq4, zq5, zq6⟩ := hSw.2.2.2.2.2.2; go_simp; first | done | with_reducible rfl | rfl
              try simp only [Act.put, List.getElem_toArray, List.getElem_cons_zero, List.getElem_cons_succ, List.setIfInBounds_toArray, List.set_cons_zero, List.set_cons_succ]
              refine wpAnyH_take (i := 3) (v := ?_) rfl (by kernel_rfl) (by kernel_rfl) (by kernel_rfl) (fun _ _ _ h => h) (Or.inl ⟨by rfl, ?_⟩) hHeld ?_
              rotate_left
              · intro w' hSw; obtain ⟨cq0, cq1, cq2, cq3, cq4, cq5, cq6⟩ := cells7 hSw.2.1; obtain ⟨dq0, dq1, dq2, dq3, dq4, dq5, dq6⟩ := cells7 hSw.2.2.1; obtain ⟨eq0, eq1, eq2, eq3, eq4, eq5, eq6⟩ := cells7 hSw.2.2.2.1; obtain ⟨xq0, xq1, xq2, xq3, xq4, xq5, xq6⟩ := hSw.2.2.2.2.1; obtain ⟨yq0, yq1, yq2, yq3, yq4, yq5, yq6⟩ := hSw.2.2.2.2.2.1; obtain ⟨zq0, zq1, zq2, zq3, zq4, zq5, zq6⟩ := hSw.2.2.2.2.2.2; go_simp; first | done | with_reducible rfl | rfl
              try simp only [Act.put, List.getElem_toArray, List.getElem_cons_zero, List.getElem_cons_succ, List.setIfInBounds_toArray, List.set_cons_zero, List.set_cons_succ]
              refine wpAnyH_take (i := 4) (v := ?_) rfl (by kernel_rfl) (by kernel_rfl) (by kernel_rfl) (fun _ _ _ h => h) (Or.inl ⟨by rfl, ?_⟩) hHeld ?_
              rotate_left
              · intro w' hSw; obtain ⟨cq0, cq1, cq2, cq3, cq4, cq5, cq6⟩ := cells7 hSw.2.1; obtain ⟨dq0, dq1, dq2, dq3, dq4, dq5, dq6⟩ := cells7 hSw.2.2.1; obtain ⟨eq0, eq1, eq2, eq3, eq4, eq5, eq6⟩ := cells7 hSw.2.2.2.1; obtain ⟨xq0, xq1, xq2, xq3, xq4, xq5, xq6⟩ := hSw.2.2.2.2.1; obtain ⟨yq0, yq1, yq2, yq3, yq4, yq5, yq6⟩ := hSw.2.2.2.2.2.1; obtain ⟨zq0, zq1, zq2, zq3, zq4, zq5, zq6⟩ := hSw.2.2.2.2.2.2; go_simp; first | done | with_reducible rfl | rfl
              try simp only [Act.put, List.getElem_toArray, List.getElem_cons_zero, List.getElem_cons_succ, List.setIfInBounds_toArray, List.set_cons_zero, List.set_cons_succ]
              refine wpAnyH_take (i := 5) (v := ?_) rfl (by kernel_rfl) (by kernel_rfl) (by kernel_rfl) (fun _ _ _ h => h) (Or.inl ⟨by rfl, ?_⟩) hHeld ?_
              rotate_left
              · intro w' hSw; obtain ⟨cq0, cq1, cq2, cq3, cq4, cq5, cq6⟩ := cells7 hSw.2.1; obtain ⟨dq0, dq1, dq2, dq3, dq4, dq5, dq6⟩ := cells7 hSw.2.2.1; obtain ⟨eq0, eq1, eq2, eq3, eq4, eq5, eq6⟩ := cells7 hSw.2.2.2.1; obtain ⟨xq0, xq1, xq2, xq3, xq4, xq5, xq6⟩ := hSw.2.2.2.2.1; obtain ⟨yq0, yq1, yq2, yq3, yq4, yq5, yq6⟩ := hSw.2.2.2.2.2.1; obtain ⟨zq0, zq1, zq2, zq3, zq4, zq5, zq6⟩ := hSw.2.2.2.2.2.2; go_simp; first | done | with_reducible rfl | rfl
              try simp only [Act.put, List.getElem_toArray, List.getElem_cons_zero, List.getElem_cons_succ, List.setIfInBounds_toArray, List.set_cons_zero, List.set_cons_succ]
              refine wpAnyH_take (i := 6) (v := ?_) rfl (by kernel_rfl) (by kernel_rfl) (by kernel_rfl) (fun _ _ _ h => h) (Or.inl ⟨by rfl, ?_⟩) hHeld ?_
              rotate_left
              · intro w' hSw; obtain ⟨cq0, cq1, cq2, cq3, cq4, cq5, cq6⟩ := cells7 hSw.2.1; obtain ⟨dq0, dq1, dq2, dq3, dq4, dq5, dq6⟩ := cells7 hSw.2.2.1; obtain ⟨eq0, eq1, eq2, eq3, eq4, eq5, eq6⟩ := cells7 hSw.2.2.2.1; obtain ⟨xq0, xq1, xq2, xq3, xq4, xq5, xq6⟩ := hSw.2.2.2.2.1; obtain ⟨yq0, yq1, yq2, yq3, yq4, yq5, yq6⟩ := hSw.2.2.2.2.2.1; obtain ⟨zq0, zq1, zq2, zq3, zq4, zq5, zq6⟩ := hSw.2.2.2.2.2.2; go_simp; first | done | with_reducible rfl | rfl
              try simp only [Act.put, List.getElem_toArray, List.getElem_cons_zero, List.getElem_cons_succ, List.setIfInBounds_toArray, List.set_cons_zero, List.set_cons_succ]
              refine wpAnyH_take (i := 7) (v := ?_) rfl (by kernel_rfl) (by kernel_rfl) (by kernel_rfl) (fun _ _ _ h => h) (Or.inl ⟨by rfl, ?_⟩) hHeld ?_
              rotate_left
              · intro w' hSw; obtain ⟨cq0, cq1, cq2, cq3, cq4, cq5, cq6⟩ := cells7 hSw.2.1; obtain ⟨dq0, dq1, dq2, dq3, dq4, dq5, dq6⟩ := cells7 hSw.2.2.1; obtain ⟨eq0, eq1, eq2, eq3, eq4, eq5, eq6⟩ := cells7 hSw.2.2.2.1; obtain ⟨xq0, xq1, xq2, xq3, xq4, xq5, xq6⟩ := hSw.2.2.2.2.1; obtain ⟨yq0, yq1, yq2, yq3, yq4, yq5, yq6⟩ := hSw.2.2.2.2.2.1; obtain ⟨zq0, zq1, zq2, zq3, zq4, zq5, zq6⟩ := hSw.2.2.2.2.2.2; go_simp; first | done | with_reducible rfl | rfl
              try simp only [Act.put, List.getElem_toArray, List.getElem_cons_zero, List.getElem_cons_succ, List.setIfInBounds_toArray, List.set_cons_zero, List.set_cons_succ]
              refine wpAnyH_take (i := 8) (v := ?_) rfl (by kernel_rfl) (by kernel_rfl) (by kernel_rfl) (fun _ _ _ h => h) (Or.inl ⟨by rfl, ?_⟩) hHeld ?_
              rotate_left
              · intro w' hSw; obtain ⟨cq0, cq1, cq2, cq3, cq4, cq5, cq6⟩ := cells7 hSw.2.1; obtain ⟨dq0, dq1, dq2, dq3, dq4, dq5, dq6⟩ := cells7 hSw.2.2.1; obtain ⟨eq0, eq1, eq2, eq3, eq4, eq5, eq6⟩ := cells7 hSw.2.2.2.1; obtain ⟨xq0, xq1, xq2, xq3, xq4, xq5, xq6⟩ := hSw.2.2.2.2.1; obtain ⟨yq0, yq1, yq2, yq3, yq4, yq5, yq6⟩ := hSw.2.2.2.2.2.1; obtain ⟨zq0, zq1, zq2, zq3, zq4, zq5, zq6⟩ := hSw.2.2.2.2.2.2; go_simp; first | done | with_reducible rfl | rfl
              try simp only [Act.put, List.getElem_toArray, List.getElem_cons_zero, List.getElem_cons_succ, List.setIfInBounds_toArray, List.set_cons_zero, List.set_cons_succ]
              refine wpAnyH_take (i := 9) (v := ?_) rfl (by kernel_rfl) (by kernel_rfl) (by kernel_rfl) (fun _ _ _ h => h) (Or.inl ⟨by rfl, ?_⟩) hHeld ?_
              rotate_left
              · intro w' hSw; obtain ⟨cq0, cq1, cq2, cq3, cq4, cq5, cq6⟩ := cells7 hSw.2.1; obtain ⟨dq0, dq1, dq2, dq3, dq4, dq5, dq6⟩ := cells7 hSw.2.2.1; obtain ⟨eq0, eq1, eq2, eq3, eq4, eq5, eq6⟩ := cells7 hSw.2.2.2.1; obtain ⟨xq0, xq1, xq2, xq3, xq4, xq5, xq6⟩ := hSw.2.2.2.2.1; obtain ⟨yq0, yq1, yq2, yq3, yq4, yq5, yq6⟩ := hSw.2.2.2.2.2.1; obtain ⟨zq0, zq1, zq2, zq3, zq4, zq5, zq6⟩ := hSw.2.2.2.2.2.2; go_simp; first | done | with_reducible rfl | rfl
              try simp only [Act.put, List.getElem_toArray, List.getElem_cons_zero, List.getElem_cons_succ, List.setIfInBounds_toArray, List.set_cons_zero, List.set_cons_succ]
              refine wpAnyH_take (i := 10) (v := ?_) rfl (by kernel_rfl) (by kernel_rfl) (by kernel_rfl) (fun _ _ _ h => h) (Or.inl ⟨by rfl, ?_⟩) hHeld ?_
              rotate_left
              · intro w' hSw; obtain ⟨cq0, cq1, cq2, cq3, cq4, cq5, cq6⟩ := cells7 hSw.2.1; obtain ⟨dq0, dq1, dq2, dq3, dq4, dq5, dq6⟩ := cells7 hSw.2.2.1; obtain ⟨eq0, eq1, eq2, eq3, eq4, eq5, eq6⟩ := cells7 hSw.2.2.2.1; obtain ⟨xq0, xq1, xq2, xq3, xq4, xq5, xq6⟩ := hSw.2.2.2.2.1; obtain ⟨yq0, yq1, yq2, yq3, yq4, yq5, yq6⟩ := hSw.2.2.2.2.2.1; obtain ⟨zq0, zq1, zq2, zq3, zq4, zq5, zq6⟩ := hSw.2.2.2.2.2.2; go_simp; first | done | with_reducible rfl | rfl
              try simp only [Act.put, List.getElem_toArray, List.getElem_cons_zero, List.getElem_cons_succ, List.setIfInBounds_toArray, List.set_cons_zero, List.set_cons_succ]
              refine wpAnyH_take (i := 11) (v := ?_) rfl (by kernel_rfl) (by kernel_rfl) (by kernel_rfl) (fun _ _ _ h => h) (Or.inl ⟨by rfl, ?_⟩) hHeld ?_
              rotate_left
              · intro w' hSw; obtain ⟨cq0, cq1, cq2, cq3, cq4, cq5, cq6⟩ := cells7 hSw.2.1; obtain ⟨dq0, dq1, dq2, dq3, dq4, dq5, dq6⟩ := cells7 hSw.2.2.1; obtain ⟨eq0, eq1, eq2, eq3, eq4, eq5, eq6⟩ := cells7 hSw.2.2.2.1; obtain ⟨xq0, xq1, xq2, xq3, xq4, xq5, xq6⟩ := hSw.2.2.2.2.1; obtain ⟨yq0, yq1, yq2, yq3, yq4, yq5, yq6⟩ := hSw.2.2.2.2.2.1; obtain ⟨zq0, zq1, zq2, zq3, zq4, zq5, zq6⟩ := hSw.2.2.2.2.2.2; go_simp; first | done | with_reducible rfl | rfl
              try simp only [Act.put, List.getElem_toArray, List.getElem_cons_zero, List.getElem_cons_succ, List.setIfInBounds_toArray, List.set_cons_zero, List.set_cons_succ]
              refine wpAnyH_take (i := 12) (v := ?_) rfl (by kernel_rfl) (by kernel_rfl) (by kernel_rfl) (fun _ _ _ h => h) (Or.inl ⟨by rfl, ?_⟩) hHeld ?_
              rotate_left
              · intro w' hSw; obtain ⟨cq0, cq1, cq2, cq3, cq4, cq5, cq6⟩ := cells7 hSw.2.1; obtain ⟨dq0, dq1, dq2, dq3, dq4, dq5, dq6⟩ := cells7 hSw.2.2.1; obtain ⟨eq0, eq1, eq2, eq3, eq4, eq5, eq6⟩ := cells7 hSw.2.2.2.1; obtain ⟨xq0, xq1, xq2, xq3, xq4, xq5, xq6⟩ := hSw.2.2.2.2.1; obtain ⟨yq0, yq1, yq2, yq3, yq4, yq5, yq6⟩ := hSw.2.2.2.2.2.1; obtain ⟨zq0, zq1, zq2, zq3, zq4, zq5, zq6⟩ := hSw.2.2.2.2.2.2; go_simp; first | done | with_reducible rfl | rfl
              try simp only [Act.put, List.getElem_toArray, List.getElem_cons_zero, List.getElem_cons_succ, List.setIfInBounds_toArray, List.set_cons_zero, List.set_cons_succ]
              refine wpAnyH_take (i := 13) (v := ?_) rfl (by kernel_rfl) (by kernel_rfl) (by kernel_rfl) (fun _ _ _ h => h) (Or.inl ⟨by rfl, ?_⟩) hHeld ?_
              rotate_left
              · intro w' hSw; obtain ⟨cq0, cq1, cq2, cq3, cq4, cq5, cq6⟩ := cells7 hSw.2.1; obtain ⟨dq0, dq1, dq2, dq3, dq4, dq5, dq6⟩ := cells7 hSw.2.2.1; obtain ⟨eq0, eq1, eq2, eq3, eq4, eq5, eq6⟩ := cells7 hSw.2.2.2.1; obtain ⟨xq0, xq1, xq2, xq3, xq4, xq5, xq6⟩ := hSw.2.2.2.2.1; obtain ⟨yq0, yq1, yq2, yq3, yq4, yq5, yq6⟩ := hSw.2.2.2.2.2.1; obtain ⟨zq0, zq1, zq2, zq3, zq4, zq5, zq6⟩ := hSw.2.2.2.2.2.2; go_simp; first | done | with_reducible rfl | rfl
              try simp only [Act.put, List.getElem_toArray, List.getElem_cons_zero, List.getElem_cons_succ, List.setIfInBounds_toArray, List.set_cons_zero, List.set_cons_succ]
              refine wpAnyH_take (i := 14) (v := ?_) rfl (by kernel_rfl) (by kernel_rfl) (by kernel_rfl) (fun _ _ _ h => h) (Or.inl ⟨by rfl, ?_⟩) hHeld ?_
              rotate_left
              · intro w' hSw; obtain ⟨cq0, cq1, cq2, cq3, cq4, cq5, cq6⟩ := cells7 hSw.2.1; obtain ⟨dq0, dq1, dq2, dq3, dq4, dq5, dq6⟩ := cells7 hSw.2.2.1; obtain ⟨eq0, eq1, eq2, eq3, eq4, eq5, eq6⟩ := cells7 hSw.2.2.2.1; obtain ⟨xq0, xq1, xq2, xq3, xq4, xq5, xq6⟩ := hSw.2.2.2.2.1; obtain ⟨yq0, yq1, yq2, yq3, yq4, yq5, yq6⟩ := hSw.2.2.2.2.2.1; obtain ⟨zq0, zq1, zq2, zq3, zq4, zq5, zq6⟩ := hSw.2.2.2.2.2.2; go_simp; first | done | with_reducible rfl | rfl
              try simp only [Act.put, List.getElem_toArray, List.getElem_cons_zero, List.getElem_cons_succ, List.setIfInBounds_toArray, List.set_cons_zero, List.set_cons_succ]
              refine wpAnyH_take (i := 15) (v := ?_) rfl (by kernel_rfl) (by kernel_rfl) (by kernel_rfl) (fun _ _ _ h => h) (Or.inl ⟨by rfl, ?_⟩) hHeld ?_
              rotate_left
              · intro w' hSw; obtain ⟨cq0, cq1, cq2, cq3, cq4, cq5, cq6⟩ := cells7 hSw.2.1; obtain ⟨dq0, dq1, dq2, dq3, dq4, dq5, dq6⟩ := cells7 hSw.2.2.1; obtain ⟨eq0, eq1, eq2, eq3, eq4, eq5, eq6⟩ := cells7 hSw.2.2.2.1; obtain ⟨xq0, xq1, xq2, xq3, xq4, xq5, xq6⟩ := hSw.2.2.2.2.1; obtain ⟨yq0, yq1, yq2, yq3, yq4, yq5, yq6⟩ := hSw.2.2.2.2.2.1; obtain ⟨zq0, zq1, zq2, zq3, zq4, zq5, zq6⟩ := hSw.2.2.2.2.2.2; go_simp; first | done | with_reducible rfl | rfl
              try simp only [Act.put, List.getElem_toArray, List.getElem_cons_zero, List.getElem_cons_succ, List.setIfInBounds_toArray, List.set_cons_zero, List.set_cons_succ]
              refine wpAnyH_take (i := 16) (v := ?_) rfl (by kernel_rfl) (by kernel_rfl) (by kernel_rfl) (fun _ _ _ h => h) (Or.inl ⟨by rfl, ?_⟩) hHeld ?_
              rotate_left
              · intro w' hSw; obtain ⟨cq0, cq1, cq2, cq3, cq4, cq5, cq6⟩ := cells7 hSw.2.1; obtain ⟨dq0, dq1, dq2, dq3, dq4, dq5, dq6⟩ := cells7 hSw.2.2.1; obtain ⟨eq0, eq1, eq2, eq3, eq4, eq5, eq6⟩ := cells7 hSw.2.2.2.1; obtain ⟨xq0, xq1, xq2, xq3, xq4, xq5, xq6⟩ := hSw.2.2.2.2.1; obtain ⟨yq0, yq1, yq2, yq3, yq4, yq5, yq6⟩ := hSw.2.2.2.2.2.1; obtain ⟨zq0, zq1, zq2, zq3, zq4, zq5, zq6⟩ := hSw.2.2.2.2.2.2; go_simp; first | done | with_reducible rfl | rfl
              try simp only [Act.put, List.getElem_toArray, List.getElem_cons_zero, List.getElem_cons_succ, List.setIfInBounds_toArray, List.set_cons_zero, List.set_cons_succ]
              refine wpAnyH_take (i := 17) (v := ?_) rfl (by kernel_rfl) (by kernel_rfl) (by kernel_rfl) (fun _ _ _ h => h) (Or.inl ⟨by rfl, ?_⟩) hHeld ?_
              rotate_left
              · intro w' hSw; obtain ⟨cq0, cq1, cq2, cq3, cq4, cq5, cq6⟩ := cells7 hSw.2.1; obtain ⟨dq0, dq1, dq2, dq3, dq4, dq5, dq6⟩ := cells7 hSw.2.2.1; obtain ⟨eq0, eq1, eq2, eq3, eq4, eq5, eq6⟩ := cells7 hSw.2.2.2.1; obtain ⟨xq0, xq1, xq2, xq3, xq4, xq5, xq6⟩ := hSw.2.2.2.2.1; obtain ⟨yq0, yq1, yq2, yq3, yq4, yq5, yq6⟩ := hSw.2.2.2.2.2.1; obtain ⟨zq0, zq1, zq2, zq3, zq4, zq5, zq6⟩ := hSw.2.2.2.2.2.2; go_simp; first | done | with_reducible rfl | rfl
              try simp only [Act.put, List.getElem_toArray, List.getElem_cons_zero, List.getElem_cons_succ, List.setIfInBounds_toArray, List.set_cons_zero, List.set_cons_succ]
              refine wpAnyH_take (i := 18) (v := ?_) rfl (by kernel_rfl) (by kernel_rfl) (by kernel_rfl) (fun _ _ _ h => h) (Or.inl ⟨by rfl, ?_⟩) hHeld ?_
              rotate_left
              · intro w' hSw; obtain ⟨cq0, cq1, cq2, cq3, cq4, cq5, cq6⟩ := cells7 hSw.2.1; obtain ⟨dq0, dq1, dq2, dq3, dq4, dq5, dq6⟩ := cells7 hSw.2.2.1; obtain ⟨eq0, eq1, eq2, eq3, eq4, eq5, eq6⟩ := cells7 hSw.2.2.2.1; obtain ⟨xq0, xq1, xq2, xq3, xq4, xq5, xq6⟩ := hSw.2.2.2.2.1; obtain ⟨yq0, yq1, yq2, yq3, yq4, yq5, yq6⟩ := hSw.2.2.2.2.2.1; obtain ⟨zq0, zq1, zq2, zq3, zq4, zq5, zq6⟩ := hSw.2.2.2.2.2.2; go_simp; first | done | with_reducible rfl | rfl
              try simp only [Act.put, List.getElem_toArray, List.getElem_cons_zero, List.getElem_cons_succ, List.setIfInBounds_toArray, List.set_cons_zero, List.set_cons_succ]
              refine wpAnyH_take (i := 19) (v := ?_) rfl (by kernel_rfl) (by kernel_rfl) (by kernel_rfl) (fun _ _ _ h => h) (Or.inl ⟨by rfl, ?_⟩) hHeld ?_
              rotate_left
              · intro w' hSw; obtain ⟨cq0, cq1, cq2, cq3, cq4, cq5, cq6⟩ := cells7 hSw.2.1; obtain ⟨dq0, dq1, dq2, dq3, dq4, dq5, dq6⟩ := cells7 hSw.2.2.1; obtain ⟨eq0, eq1, eq2, eq3, eq4, eq5, eq6⟩ := cells7 hSw.2.2.2.1; obtain ⟨xq0, xq1, xq2, xq3, xq4, xq5, xq6⟩ := hSw.2.2.2.2.1; obtain ⟨yq0, yq1, yq2, yq3, yq4, yq5, yq6⟩ := hSw.2.2.2.2.2.1; obtain ⟨zq0, zq1, zq2, zq3, zq4, zq5, zq6⟩ := hSw.2.2.2.2.2.2; go_simp; first | done | with_reducible rfl | rfl
              try simp only [Act.put, List.getElem_toArray, List.getElem_cons_zero, List.getElem_cons_succ, List.setIfInBounds_toArray, List.set_cons_zero, List.set_cons_succ]
              refine wpAnyH_take (i := 20) (v := ?_) rfl (by kernel_rfl) (by kernel_rfl) (by kernel_rfl) (fun _ _ _ h => h) (Or.inl ⟨by rfl, ?_⟩) hHeld ?_
              rotate_left
              · intro w' hSw; obtain ⟨cq0, cq1, cq2, cq3, cq4, cq5, cq6⟩ := cells7 hSw.2.1; obtain ⟨dq0, dq1, dq2, dq3, dq4, dq5, dq6⟩ := cells7 hSw.2.2.1; obtain ⟨eq0, eq1, eq2, eq3, eq4, eq5, eq6⟩ := cells7 hSw.2.2.2.1; obtain ⟨xq0, xq1, xq2, xq3, xq4, xq5, xq6⟩ := hSw.2.2.2.2.1; obtain ⟨yq0, yq1, yq2, yq3, yq4, yq5, yq6⟩ := hSw.2.2.2.2.2.1; obtain ⟨zq0, zq1, zq2, zq3, zq4, zq5, zq6⟩ := hSw.2.2.2.2.2.2; go_simp; first | done | with_reducible rfl | rfl
              try simp only [Act.put, List.getElem_toArray, List.getElem_cons_zero, List.getElem_cons_succ, List.setIfInBounds_toArray, List.set_cons_zero, List.set_cons_succ]
              refine wpAnyH_take (i := 21) (v := ?_) rfl (by kernel_rfl) (by kernel_rfl) (by kernel_rfl) (fun _ _ _ h => h) (Or.inl ⟨by rfl, ?_⟩) hHeld ?_
              rotate_left
              · intro w' hSw; obtain ⟨cq0, cq1, cq2, cq3, cq4, cq5, cq6⟩ := cells7 hSw.2.1; obtain ⟨dq0, dq1, dq2, dq3, dq4, dq5, dq6⟩ := cells7 hSw.2.2.1; obtain ⟨eq0, eq1, eq2, eq3, eq4, eq5, eq6⟩ := cells7 hSw.2.2.2.1; obtain ⟨xq0, xq1, xq2, xq3, xq4, xq5, xq6⟩ := hSw.2.2.2.2.1; obtain ⟨yq0, yq1, yq2, yq3, yq4, yq5, yq6⟩ := hSw.2.2.2.2.2.1; obtain ⟨zq0, zq1, zq2, zq3, zq4, zq5, zq6⟩ := hSw.2.2.2.2.2.2; go_simp; first | done | with_reducible rfl | rfl
              try simp only [Act.put, List.getElem_toArray, List.getElem_cons_zero, List.getElem_cons_succ, List.setIfInBounds_toArray, List.set_cons_zero, List.set_cons_succ]
              refine wpAnyH_take (i := 22) (v := ?_) rfl (by kernel_rfl) (by kernel_rfl) (by kernel_rfl) (fun _ _ _ h => h) (Or.inl ⟨by rfl, ?_⟩) hHeld ?_
              rotate_left
              · intro w' hSw; obtain ⟨cq0, cq1, cq2, cq3, cq4, cq5, cq6⟩ := cells7 hSw.2.1; obtain ⟨dq0, dq1, dq2, dq3, dq4, dq5, dq6⟩ := cells7 hSw.2.2.1; obtain ⟨eq0, eq1, eq2, eq3, eq4, eq5, eq6⟩ := cells7 hSw.2.2.2.1; obtain ⟨xq0, xq1, xq2, xq3, xq4, xq5, xq6⟩ := hSw.2.2.2.2.1; obtain ⟨yq0, yq1, yq2, yq3, yq4, yq5, yq6⟩ := hSw.2.2.2.2.2.1; obtain ⟨zq0, zq1, zq2, zq3, zq4, zq5, zq6⟩ := hSw.2.2.2.2.2.2; go_simp; first | done | with_reducible rfl | rfl
              try simp only [Act.put, List.getElem_toArray, List.getElem_cons_zero, List.getElem_cons_succ, List.setIfInBounds_toArray, List.set_cons_zero, List.set_cons_succ]
              refine wpAnyH_take (i := 23) (v := ?_) rfl (by kernel_rfl) (by kernel_rfl) (by kernel_rfl) (fun _ _ _ h => h) (Or.inl ⟨by rfl, ?_⟩) hHeld ?_
              rotate_left
              · intro w' hSw; obtain ⟨cq0, cq1, cq2, cq3, cq4, cq5, cq6⟩ := cells7 hSw.2.1; obtain ⟨dq0, dq1, dq2, dq3, dq4, dq5, dq6⟩ := cells7 hSw.2.2.1; obtain ⟨eq0, eq1, eq2, eq3, eq4, eq5, eq6⟩ := cells7 hSw.2.2.2.1; obtain ⟨xq0, xq1, xq2, xq3, xq4, xq5, xq6⟩ := hSw.2.2.2.2.1; obtain ⟨yq0, yq1, yq2, yq3, yq4, yq5, yq6⟩ := hSw.2.2.2.2.2.1; obtain ⟨zq0, zq1, zq2, zq3, zq4, zq5, zq6⟩ := hSw.2.2.2.2.2.2; go_simp; first | done | with_reducible rfl | rfl
              try simp only [Act.put, List.getElem_toArray, List.getElem_cons_zero, List.getElem_cons_succ, List.setIfInBounds_toArray, List.set_cons_zero, List.set_cons_succ]
              refine wpAnyH_take (i := 24) (v := ?_) rfl (by kernel_rfl) (by kernel_rfl) (by kernel_rfl) (fun _ _ _ h => h) (Or.inl ⟨by rfl, ?_⟩) hHeld ?_
              rotate_left
              · intro w' hSw; obtain ⟨cq0, cq1, cq2, cq3, cq4, cq5, cq6⟩ := cells7 hSw.2.1; obtain ⟨dq0, dq1, dq2, dq3, dq4, dq5, dq6⟩ := cells7 hSw.2.2.1; obtain ⟨eq0, eq1, eq2, eq3, eq4, eq5, eq6⟩ := cells7 hSw.2.2.2.1; obtain ⟨xq0, xq1, xq2, xq3, xq4, xq5, xq6⟩ := hSw.2.2.2.2.1; obtain ⟨yq0, yq1, yq2, yq3, yq4, yq5, yq6⟩ := hSw.2.2.2.2.2.1; obtain ⟨zq0, zq1, zq2, zq3, zq4, zq5, zq6⟩ := hSw.2.2.2.2.2.2; go_simp; first | done | with_reducible rfl | rfl
              try simp only [Act.put, List.getElem_toArray, List.getElem_cons_zero, List.getElem_cons_succ, List.setIfInBounds_toArray, List.set_cons_zero, List.set_cons_succ]
              refine wpAnyH_take (i := 25) (v := ?_) rfl (by kernel_rfl) (by kernel_rfl) (by kernel_rfl) (fun _ _ _ h => h) (Or.inl ⟨by rfl, ?_⟩) hHeld ?_
              rotate_left
              · intro w' hSw; obtain ⟨cq0, cq1, cq2, cq3, cq4, cq5, cq6⟩ := cells7 hSw.2.1; obtain ⟨dq0, dq1, dq2, dq3, dq4, dq5, dq6⟩ := cells7 hSw.2.2.1; obtain ⟨eq0, eq1, eq2, eq3, eq4, eq5, eq6⟩ := cells7 hSw.2.2.2.1; obtain ⟨xq0, xq1, xq2, xq3, xq4, xq5, xq6⟩ := hSw.2.2.2.2.1; obtain ⟨yq0, yq1, yq2, yq3, yq4, yq5, yq6⟩ := hSw.2.2.2.2.2.1; obtain ⟨zq0, zq1, zq2, zq3, zq4, zq5, zq6⟩ := hSw.2.2.2.2.2.2; go_simp; first | done | with_reducible rfl | rfl
              try simp only [Act.put, List.getElem_toArray, List.getElem_cons_zero, List.getElem_cons_succ, List.setIfInBounds_toArray, List.set_cons_zero, List.set_cons_succ]
              refine wpAnyH_take (i := 26) (v := ?_) rfl (by kernel_rfl) (by kernel_rfl) (by kernel_rfl) (fun _ _ _ h => h) (Or.inl ⟨by rfl, ?_⟩) hHeld ?_
              rotate_left
              · intro w' hSw; obtain ⟨cq0, cq1, cq2, cq3, cq4, cq5, cq6⟩ := cells7 hSw.2.1; obtain ⟨dq0, dq1, dq2, dq3, dq4, dq5, dq6⟩ := cells7 hSw.2.2.1; obtain ⟨eq0, eq1, eq2, eq3, eq4, eq5, eq6⟩ := cells7 hSw.2.2.2.1; obtain ⟨xq0, xq1, xq2, xq3, xq4, xq5, xq6⟩ := hSw.2.2.2.2.1; obtain ⟨yq0, yq1, yq2, yq3, yq4, yq5, yq6⟩ := hSw.2.2.2.2.2.1; obtain ⟨zq0, zq1, zq2, zq3, zq4, zq5, zq6⟩ := hSw.2.2.2.2.2.2; go_simp; first | done | with_reducible rfl | rfl
              try simp only [Act.put, List.getElem_toArray, List.getElem_cons_zero, List.getElem_cons_succ, List.setIfInBounds_toArray, List.set_cons_zero, List.set_cons_succ]
              refine wpAnyH_take (i := 27) (v := ?_) rfl (by kernel_rfl) (by kernel_rfl) (by kernel_rfl) (fun _ _ _ h => h) (Or.inl ⟨by rfl, ?_⟩) hHeld ?_
              rotate_left
              · intro w' hSw; obtain ⟨cq0, cq1, cq2, cq3, cq4, cq5, cq6⟩ := cells7 hSw.2.1; obtain ⟨dq0, dq1, dq2, dq3, dq4, dq5, dq6⟩ := cells7 hSw.2.2.1; obtain ⟨eq0, eq1, eq2, eq3, eq4, eq5, eq6⟩ := cells7 hSw.2.2.2.1; obtain ⟨xq0, xq1, xq2, xq3, xq4, xq5, xq6⟩ := hSw.2.2.2.2.1; obtain ⟨yq0, yq1, yq2, yq3, yq4, yq5, yq6⟩ := hSw.2.2.2.2.2.1; obtain ⟨zq0, zq1, zq2, zq3, zq4, zq5, zq6⟩ := hSw.2.2.2.2.2.2; go_simp; first | done | with_reducible rfl | rfl
              try simp only [Act.put, List.getElem_toArray, List.getElem_cons_zero, List.getElem_cons_succ, List.setIfInBounds_toArray, List.set_cons_zero, List.set_cons_succ]
              refine wpAnyH_take (i := 28) (v := ?_) rfl (by kernel_rfl) (by kernel_rfl) (by kernel_rfl) (fun _ _ _ h => h) (Or.inl ⟨by rfl, ?_⟩) hHeld ?_
              rotate_left
              · intro w' hSw; obtain ⟨cq0, cq1, cq2, cq3, cq4, cq5, cq6⟩ := cells7 hSw.2.1; obtain ⟨dq0, dq1, dq2, dq3, dq4, dq5, dq6⟩ := cells7 hSw.2.2.1; obtain ⟨eq0, eq1, eq2, eq3, eq4, eq5, eq6⟩ := cells7 hSw.2.2.2.1; obtain ⟨xq0, xq1, xq2, xq3, xq4, xq5, xq6⟩ := hSw.2.2.2.2.1; obtain ⟨yq0, yq1, yq2, yq3, yq4, yq5, yq6⟩ := hSw.2.2.2.2.2.1; obtain ⟨zq0, zq1, zq2, zq3, zq4, zq5, zq6⟩ := hSw.2.2.2.2.2.2; go_simp; first | done | with_reducible rfl | rfl
              try simp only [Act.put, List.getElem_toArray, List.getElem_cons_zero, List.getElem_cons_succ, List.setIfInBounds_toArray, List.set_cons_zero, List.set_cons_succ]
              refine wpAnyH_take (i := 29) (v := ?_) rfl (by kernel_rfl) (by kernel_rfl) (by kernel_rfl) (fun _ _ _ h => h) (Or.inl ⟨by rfl, ?_⟩) hHeld ?_
              rotate_left
              · intro w' hSw; obtain ⟨cq0, cq1, cq2, cq3, cq4, cq5, cq6⟩ := cells7 hSw.2.1; obtain ⟨dq0, dq1, dq2, dq3, dq4, dq5, dq6⟩ := cells7 hSw.2.2.1; obtain ⟨eq0, eq1, eq2, eq3, eq4, eq5, eq6⟩ := cells7 hSw.2.2.2.1; obtain ⟨xq0, xq1, xq2, xq3, xq4, xq5, xq6⟩ := hSw.2.2.2.2.1; obtain ⟨yq0, yq1, yq2, yq3, yq4, yq5, yq6⟩ := hSw.2.2.2.2.2.1; obtain ⟨zq0, zq1, zq2, zq3, zq4, zq5, zq6⟩ := hSw.2.2.2.2.2.2; go_simp; first | done | with_reducible rfl | rfl
              try simp only [Act.put, List.getElem_toArray, List.getElem_cons_zero, List.getElem_cons_succ, List.setIfInBounds_toArray, List.set_cons_zero, List.set_cons_succ]
              refine wpAnyH_take (i := 30) (v := ?_) rfl (by kernel_rfl) (by kernel_rfl) (by kernel_rfl) (fun _ _ _ h => h) (Or.inl ⟨by rfl, ?_⟩) hHeld ?_
              rotate_left
              · intro w' hSw; obtain ⟨cq0, cq1, cq2, cq3, cq4, cq5, cq6⟩ := cells7 hSw.2.1; obtain ⟨dq0, dq1, dq2, dq3, dq4, dq5, dq6⟩ := cells7 hSw.2.2.1; obtain ⟨eq0, eq1, eq2, eq3, eq4, eq5, eq6⟩ := cells7 hSw.2.2.2.1; obtain ⟨xq0, xq1, xq2, xq3, xq4, xq5, xq6⟩ := hSw.2.2.2.2.1; obtain ⟨yq0, yq1, yq2, yq3, yq4, yq5, yq6⟩ := hSw.2.2.2.2.2.1; obtain ⟨zq0, zq1, zq2, zq3, zq4, zq5, zq6⟩ := hSw.2.2.2.2.2.2; go_simp; first | done | with_reducible rfl | rfl
              try simp only [Act.put, List.getElem_toArray, List.getElem_cons_zero, List.getElem_cons_succ, List.setIfInBounds_toArray, List.set_cons_zero, List.set_cons_succ]
              refine wpAnyH_take (i := 31) (v := ?_) rfl (by kernel_rfl) (by kernel_rfl) (by kernel_rfl) (fun _ _ _ h => h) (Or.inl ⟨by rfl, ?_⟩) hHeld ?_
              rotate_left
              · intro w' hSw; obtain ⟨cq0, cq1, cq2, cq3, cq4, cq5, cq6⟩ := cells7 hSw.2.1; obtain ⟨dq0, dq1, dq2, dq3, dq4, dq5, dq6⟩ := cells7 hSw.2.2.1; obtain ⟨eq0, eq1, eq2, eq3, eq4, eq5, eq6⟩ := cells7 hSw.2.2.2.1; obtain ⟨xq0, xq1, xq2, xq3, xq4, xq5, xq6⟩ := hSw.2.2.2.2.1; obtain ⟨yq0, yq1, yq2, yq3, yq4, yq5, yq6⟩ := hSw.2.2.2.2.2.1; obtain ⟨zq0, zq1, zq2, zq3, zq4, zq5, zq6⟩ := hSw.2.2.2.2.2.2; go_simp; first | done | with_reducible rfl | rfl
              try simp only [Act.put, List.getElem_toArray, List.getElem_cons_zero, List.getElem_cons_succ, List.setIfInBounds_toArray, List.set_cons_zero, List.set_cons_succ]
              refine wpAnyH_take (i := 32) (v := ?_) rfl (by kernel_rfl) (by kernel_rfl) (by kernel_rfl) (fun _ _ _ h => h) (Or.inl ⟨by rfl, ?_⟩) hHeld ?_
              rotate_left
              · intro w' hSw; obtain ⟨cq0, cq1, cq2, cq3, cq4, cq5, cq6⟩ := cells7 hSw.2.1; obtain ⟨dq0, dq1, dq2, dq3, dq4, dq5, dq6⟩ := cells7 hSw.2.2.1; obtain ⟨eq0, eq1, eq2, eq3, eq4, eq5, eq6⟩ := cells7 hSw.2.2.2.1; obtain ⟨xq0, xq1, xq2, xq3, xq4, xq5, xq6⟩ := hSw.2.2.2.2.1; obtain ⟨yq0, yq1, yq2, yq3, yq4, yq5, yq6⟩ := hSw.2.2.2.2.2.1; obtain ⟨zq0, zq1, zq2, zq3, zq4, zq5, zq6⟩ := hSw.2.2.2.2.2.2; go_simp; first | done | with_reducible rfl | rfl
              try simp only [Act.put, List.getElem_toArray, List.getElem_cons_zero, List.getElem_cons_succ, List.setIfInBounds_toArray, List.set_cons_zero, List.set_cons_succ]
              refine wpAnyH_take (i := 33) (v := ?_) rfl (by kernel_rfl) (by kernel_rfl) (by kernel_rfl) (fun _ _ _ h => h) (Or.inl ⟨by rfl, ?_⟩) hHeld ?_
              rotate_left
              · intro w' hSw; obtain ⟨cq0, cq1, cq2, cq3, cq4, cq5, cq6⟩ := cells7 hSw.2.1; obtain ⟨dq0, dq1, dq2, dq3, dq4, dq5, dq6⟩ := cells7 hSw.2.2.1; obtain ⟨eq0, eq1, eq2, eq3, eq4, eq5, eq6⟩ := cells7 hSw.2.2.2.1; obtain ⟨xq0, xq1, xq2, xq3, xq4, xq5, xq6⟩ := hSw.2.2.2.2.1; obtain ⟨yq0, yq1, yq2, yq3, yq4, yq5, yq6⟩ := hSw.2.2.2.2.2.1; obtain ⟨zq0, zq1, zq2, zq3, zq4, zq5, zq6⟩ := hSw.2.2.2.2.2.2; go_simp; first | done | with_reducible rfl | rfl
              try simp only [Act.put, List.getElem_toArray, List.getElem_cons_zero, List.getElem_cons_succ, List.setIfInBounds_toArray, List.set_cons_zero, List.set_cons_succ]
              refine wpAnyH_done (by kernel_rfl) ?_ _
              go_wp2_with fail
              go_ret
              exact ⟨rfl, (HB7.out.trans (HC10.out.mono HB7.out.size)).drew⟩
end Go.Proofs.YtgcaaigfgbglcaaDoor
