/- The program: Read of a list of signed headers. -/
import Derived.Test.YtpkkdjmcabefbaaDoorETxO
import Derived.Test.YtpkkdjmcabefbaaDoorESl
namespace Go.Proofs.YtpkkdjmcabefbaaDoor
open Go.RowKit
open Cod (F Nd nodeL nodeV KidsAt CellsOf Grew)
/-- All texts in it are of so many bytes at most. -/
def smF (m : Nat) : F → Prop
  | .nil => True
  | .cons _ _ s c r => s.size ≤ m ∧ smF m c ∧ smF m r
theorem smF_mono {m n : Nat} (h : m ≤ n) : ∀ f : F, smF m f → smF n f
  | .nil, _ => trivial
  | .cons _ _ _ c r, ⟨h1, h2, h3⟩ => ⟨Nat.le_trans h1 h, smF_mono h c h2, smF_mono h r h3⟩
theorem smF_right : ∀ (f : F) (d : Nat), f.right d = true → smF f.bytes.length f
  | .nil, _, _ => trivial
  | .cons k n s c r, d, h => by
    rw [F.right, Bool.and_eq_true, Bool.and_eq_true, Bool.and_eq_true] at h
    obtain ⟨h1, _, h3, h4⟩ := h
    have i1 := smF_right c _ h3
    have i2 := smF_right r _ h4
    rw [F.bytes, List.length_append]
    refine ⟨?_, ?_, smF_mono (by omega) r i2⟩
    · unfold Cod.plainB at h1
      unfold nodeL
      split at h1
      · simp only [Bool.and_eq_true, beq_iff_eq] at h1; omega
      · split at h1
        · rename_i hk0 hk1
          rw [if_neg hk0, if_pos hk1]; simp; omega
        · simp only [Bool.and_eq_true, beq_iff_eq] at h1; omega
    · unfold Cod.plainB at h1
      by_cases h0 : k = 0
      · rw [if_pos h0] at h1
        simp only [Bool.and_eq_true, beq_iff_eq] at h1
        rw [Cod.F.len_zero h1.2]; trivial
      · rw [if_neg h0] at h1
        by_cases hk1 : k = 1
        · rw [if_pos hk1] at h1
          simp only [Bool.and_eq_true, beq_iff_eq] at h1
          rw [Cod.F.len_zero h1.2]; trivial
        · refine smF_mono ?_ c i1
          unfold nodeL
          rw [if_neg h0, if_neg hk1]; simp; omega
theorem smF_drop {m : Nat} : ∀ (f : F) (i : Nat), smF m f → smF m (f.drop i)
  | f, 0, h => by cases f <;> exact h
  | .nil, _ + 1, _ => trivial
  | .cons _ _ _ _ r, i + 1, h => smF_drop r i h.2.2
theorem seven_ok {c : F} {s : Sg} {m : Nat} (h : seven c = some s) (hok : c.ok) (hsm : smF m c) : s.Ok m := by
  have hl : c.len = 7 := Classical.byContradiction (fun e => by rw [seven_len _ e] at h; cases h)
  obtain ⟨k0, k1, k2, k3, k4, k5, k6, n2, n3, n6, s0, s1, s4, s5, c0, c1, c2, c3, c4, c5, c6, t, e, q⟩ := seven_inv c hl
  rw [h] at q
  injection q with q
  subst q
  rw [e] at hok hsm
  obtain ⟨a, _, _, _, b, _, _, _, _, _, _, _, _, _, _, _, c', _, _, _, d, _⟩ := hok
  obtain ⟨_, _, _, _, p, _, q, _, _, _, _, _, r, _⟩ := hsm
  exact ⟨⟨a, b, p, q, c', d⟩, r⟩
def rdRel (w w1 : World) (f : F) (R : Option (List Sg)) (v i : Value) (wr : World) : Prop :=
  ∃ (k : Nat) (acc : List Sg), i = .int .i64 (k : Int) ∧ k ≤ f.len ∧ acc.length = k ∧ Hid ((ofsO (f.drop k)).map (acc ++ ·) = R) ∧ Hid (Below w.heap.size w wr) ∧ Hid (Below w1.heap.size w1 wr) ∧ Hid (SOw wr w1.heap.size v acc)
theorem read_ln {x : Nd} {n : Nat} (h : x.bytes.length ≤ n) (hr : x.right 20 = true) : x.kids.len ≤ n ∧ smF n x.kids := by
  obtain ⟨k, n', s, c⟩ := x
  rw [Nd.right, Bool.and_eq_true, Bool.and_eq_true] at hr
  obtain ⟨h1, _, h2⟩ := hr
  have hb := smF_right c _ h2
  have hlen : ∀ f : F, f.len ≤ f.bytes.length := by
    intro f
    induction f with
    | nil => exact Nat.le_refl _
    | cons k n s c r _ ih =>
      have : 1 ≤ (nodeL k n s c.len c.bytes).length := by unfold nodeL; split; simp; split <;> simp
      rw [F.bytes, List.length_append, F.len]; omega
  have hc := hlen c
  unfold Nd.bytes at h
  simp only at h ⊢
  unfold Cod.plainB at h1
  by_cases h0 : k = 0
  · rw [if_pos h0] at h1
    simp only [Bool.and_eq_true, beq_iff_eq] at h1
    rw [Cod.F.len_zero h1.2]; exact ⟨Nat.zero_le _, trivial⟩
  · rw [if_neg h0] at h1
    by_cases hk1 : k = 1
    · rw [if_pos hk1] at h1
      simp only [Bool.and_eq_true, beq_iff_eq] at h1
      rw [Cod.F.len_zero h1.2]; exact ⟨Nat.zero_le _, trivial⟩
    · unfold nodeL at h
      rw [if_neg h0, if_neg hk1] at h
      simp at h
      exact ⟨by omega, smF_mono (by omega) c hb⟩
set_option maxHeartbeats 8000000 in
set_option maxRecDepth 100000 in
theorem pread_prog (s : ByteArray) (hs : s.size ≤ 100000) (w : World) :
    Calls Tryd.prog 7 #[.string s] w fun e w' => ∃ u, e = .returned (.tuple #[u, .bool (readS s.data.toList).isSome]) ∧ Hid (SOw w' w.heap.size u ((readS s.data.toList).getD [])) ∧ Below w.heap.size w w' := by
  have KR := Lib.hid (fun W => Cod.read_prog s W (by omega))
  have HS := Lib.hid hs
  obtain ⟨R, hR⟩ : ∃ R, readS s.data.toList = R := ⟨_, rfl⟩
  rw [hR]
  have HR := Lib.hid hR
  clear hs hR
  go_enter Tryd.func7, Tryd.ntmps7
  go_wp2_with fail
  refine (KR.out _).mono ?_
  rintro e w1 ⟨⟨xk, xn, xs, f⟩, ka, kn, kc, b, rfl, hb1, g1, g2, hk⟩
  dsimp only at g1 g2 hk ⊢
  clear KR
  have HB1 := Lib.hid hb1
  unfold nodeV
  obtain ⟨W2, hW2⟩ : ∃ W2, W2 = w1.alloc (.cells #[.int .i64 xk, .int .u64 xn, .string xs, .slice ka kn kc] 46) := ⟨_, rfl⟩
  have HB2 : Hid (Below w.heap.size w W2) := Lib.hid (by rw [hW2]; exact hb1.alloc hb1.size _)
  have HX2 : Hid (Below w1.heap.size w1 W2) := Lib.hid (by rw [hW2]; exact (Below.refl _ _).alloc (Nat.le_refl _) _)
  have HZ2 : W2.heap[w1.heap.size]? = some (.cells #[.int .i64 xk, .int .u64 xn, .string xs, .slice ka kn kc] 46 (0, 0)) := by rw [hW2]; exact heap_alloc_new _ _
  obtain ⟨c0, c1, c2, c3, _, _, _, _⟩ := Cod.block4 HZ2
  have HK := Lib.hid hk
  clear HZ2 hk hb1
  cases b with
  | false =>
    have HN : Hid (R = none) := Lib.hid (by rw [← HR.out]; unfold readS; rw [(g2 rfl).1])
    clear g1 g2
    go_upto_region 2 with fail
    simp only [← hW2]
    clear hW2
    go_wp2_with fail
    go_ret2
    exact ⟨_, by rw [HN.out]; rfl, Lib.hid (by rw [HN.out]; exact SOw.nil _ _), HB2.out⟩
  | true =>
    have hO := g1 rfl
    by_cases hk2 : xk = 2
    · subst hk2
      obtain ⟨q1, q2, q3⟩ := rd_some hO
      have hlen : s.data.toList.length ≤ 100000 := by have := HS.out; simpa using this
      obtain ⟨hl, hsm⟩ := read_ln (n := 100000) (by have := congrArg List.length q1; omega) q2
      have hok : f.ok := (q3 (by omega)).2.2.2
      have hRR : ofsO f = R := by rw [← HR.out]; unfold readS; rw [hO]; simp
      obtain ⟨va, vc, hv⟩ := HK.out.shape
      injection hv with e1 e3 e4
      subst e3
      have HSM := Lib.hid hsm
      have HOK := Lib.hid hok
      have HRR := Lib.hid hRR
      have HL := Lib.hid hl
      obtain ⟨L, hL⟩ : ∃ L, f.len = L := ⟨_, rfl⟩
      rw [hL] at HK HL c3 hW2 ⊢
      have HLL := Lib.hid hL
      have bL : (L : Int) ≤ 100000 := by have := HL.out; omega
      clear g1 g2 hO q1 q2 q3 hlen hl hsm hok hRR hL e1 e4
      go_upto_region 2 with fail
      simp only [← hW2]
      clear hW2
      go_wp2_with fail
      go_loopw [6, 26] (rdRel w w1 f R) (fun _ i _ => L - (intOf i).toNat)
      case atStart => exact ⟨0, [], rfl, Nat.zero_le _, rfl, Lib.hid (by rw [show f.drop 0 = f by cases f <;> rfl, ← HRR.out]; simp), HB2, HX2, Lib.hid (SOw.nil _ _)⟩
      case round =>
        obtain ⟨k, acc, rfl, hk, hacc, HQ, HB, HX, HSO⟩ := hrel
        obtain ⟨av, ac, rfl⟩ := HSO.out.shape
        rw [HLL.out] at hk
        by_cases hlt : k < L
        · have i0 : (0 : Int) ≤ (k : Int) := by omega
          have i1 : (k : Int) < (L : Int) := by omega
          obtain ⟨k', n', s', c', hd⟩ := Cod.F.drop_at f k (by rw [HLL.out]; exact hlt)
          obtain ⟨g, o, cap, ev, hg, hlies⟩ := HK.out.lies (by rw [HLL.out]; omega)
          injection ev with v1 v2 v3
          subst v1 v3
          clear v2
          have hd2 := Cod.Lies.drop k f g o hlies
          rw [hd] at hd2
          obtain ⟨⟨u, a0, a1, a2, a3, hu⟩, _⟩ := Cod.lies_cons.1 hd2
          have b0 := cellE HX.out a0
          have b1 := cellE HX.out a1
          have b2 := cellE HX.out a2
          have b3 := cellE HX.out a3
          obtain ⟨ua, uc, rfl⟩ := hu.shape
          have HU := Lib.hid (hu.mono (S' := fun b => b < w1.heap.size) (fun _ h => h.2) (fun _ _ => rfl))
          obtain ⟨cl, hcl⟩ : ∃ n, c'.len = n := ⟨_, rfl⟩
          rw [hcl] at b3 HU
          have hdok := Cod.F.drop_ok f k HOK.out
          have hdsm := smF_drop f k HSM.out
          rw [hd] at hdok hdsm
          have hxok : Nd.ok ⟨k', n', s', c'⟩ := ⟨hdok.1, hdok.2.1, hdok.2.2.1, hdok.2.2.2.1⟩
          have KO := Lib.hid (fun W (hW : KidsAt W (· < W.heap.size) c' (.slice ua cl uc)) => of_prog ⟨k', n', s', c'⟩ (.slice ua cl uc) hxok 100000 (by decide) (fun t ht => seven_ok ht hdok.2.2.2.1 hdsm.2.1) W hW)
          unfold nodeV at KO
          obtain ⟨O, hOO⟩ : ∃ O, ofO ⟨k', n', s', c'⟩ = O := ⟨_, rfl⟩
          rw [hOO] at KO
          have HQ2 : Hid ((consO O (ofsO (f.drop (k + 1)))).map (acc ++ ·) = R) := Lib.hid (by rw [← HQ.out, hd, ofsO_cons, hOO])
          have HLT := Lib.hid hlt
          have HAC := Lib.hid hacc
          clear hd hd2 hlies hg hu hdok hdsm hxok hOO hcl a0 a1 a2 a3 hlt hk hacc HQ
          obtain ⟨W3, hW3⟩ : ∃ W3, W3 = wr.alloc (.cells #[.int .i64 k', .int .u64 n', .string s', .slice ua cl uc] 46) := ⟨_, rfl⟩
          have HB3 : Hid (Below w.heap.size w W3) := Lib.hid (by rw [hW3]; exact HB.out.alloc HB.out.size _)
          have HX3 : Hid (Below w1.heap.size w1 W3) := Lib.hid (by rw [hW3]; exact HX.out.alloc HX.out.size _)
          have HS3 : Hid (SOw W3 w1.heap.size (.slice av acc.length ac) acc) := Lib.hid (by rw [hW3]; exact HSO.out.later ((Below.refl _ _).alloc (Nat.le_refl _) _))
          have HZ3 : W3.heap[wr.heap.size]? = some (.cells #[.int .i64 k', .int .u64 n', .string s', .slice ua cl uc] 46 (0, 0)) := by rw [hW3]; exact heap_alloc_new _ _
          obtain ⟨d0, d1, d2, d3, _, _, _, _⟩ := Cod.block4 HZ3
          go_upto_region 8 with fail
          simp only [← hW3]
          clear hW3 HZ3 b0 b1 b2 b3
          go_wp2_with fail
          refine (KO.out _ (HU.out.up HX3.out.size HX3.out)).mono ?_
          rintro e w4 ⟨rfl, hb4⟩
          have HB4 := Lib.hid (HB3.out.trans (hb4.mono HB3.out.size))
          have HX4 := Lib.hid (HX3.out.trans (hb4.mono HX3.out.size))
          have HS4 := Lib.hid (HS3.out.later hb4)
          clear hb4 d0 d1 d2 d3
          cases O with
          | none =>
            have HN : Hid (R = none) := Lib.hid (by rw [← HQ2.out]; rfl)
            dsimp only [Option.isSome, Option.getD]
            unfold sgV zeroS zeroH
            go_wp2_with fail
            go_ret2
            exact ⟨_, by rw [HN.out]; rfl, Lib.hid (by rw [HN.out]; exact SOw.nil _ _), HB4.out.alloc HB4.out.size _⟩
          | some t =>
            have HQ3 : Hid ((ofsO (f.drop (k + 1))).map ((acc ++ [t]) ++ ·) = R) := Lib.hid (by
              rw [← HQ2.out]
              simp [consO, Option.map_map, Function.comp_def])
            dsimp only [Option.isSome, Option.getD]
            unfold sgV
            obtain ⟨W5, hW5⟩ : ∃ W5, W5 = w4.alloc (.cells #[.int .u64 t.h.shard, .int .u64 t.h.seq, .string t.h.prev, .string t.h.root, .int .u64 t.h.who, .int .u64 t.h.stamp, .string t.mac] 35) := ⟨_, rfl⟩
            have HB5 : Hid (Below w.heap.size w W5) := Lib.hid (by rw [hW5]; exact HB4.out.alloc HB4.out.size _)
            have HX5 : Hid (Below w1.heap.size w1 W5) := Lib.hid (by rw [hW5]; exact HX4.out.alloc HX4.out.size _)
            have HS5 : Hid (SOw W5 w1.heap.size (.slice av acc.length ac) acc) := Lib.hid (by rw [hW5]; exact HS4.out.later ((Below.refl _ _).alloc (Nat.le_refl _) _))
            have HZ5 : W5.heap[w4.heap.size]? = some (.cells #[.int .u64 t.h.shard, .int .u64 t.h.seq, .string t.h.prev, .string t.h.root, .int .u64 t.h.who, .int .u64 t.h.stamp, .string t.mac] 35 (0, 0)) := by rw [hW5]; exact heap_alloc_new _ _
            obtain ⟨z0, z1, z2, z3, z4, z5, z6⟩ := cells7 HZ5
            go_upto_region 11 with fail
            simp only [← hW5]
            clear hW5 HZ5
            obtain ⟨W6, hW6⟩ : ∃ W6, W6 = W5.alloc (.cells #[.int .u64 t.h.shard, .int .u64 t.h.seq, .string t.h.prev, .string t.h.root, .int .u64 t.h.who, .int .u64 t.h.stamp, .string t.mac] 35) := ⟨_, rfl⟩
            obtain ⟨gz, hgz⟩ : ∃ gz, gz = W5.heap.size := ⟨_, rfl⟩
            have HB6 : Hid (Below w.heap.size w W6) := Lib.hid (by rw [hW6]; exact HB5.out.alloc HB5.out.size _)
            have HX6 : Hid (Below w1.heap.size w1 W6) := Lib.hid (by rw [hW6]; exact HX5.out.alloc HX5.out.size _)
            have HS6 : Hid (SOw W6 w1.heap.size (.slice av acc.length ac) acc) := Lib.hid (by rw [hW6]; exact HS5.out.later ((Below.refl _ _).alloc (Nat.le_refl _) _))
            have HN6 : Hid (SSl W6 (.slice (some ⟨gz, 0, none⟩) 1 1) [t]) := Lib.hid (SSl.one (by rw [hW6, hgz]; exact heap_alloc_new _ _) (Nat.le_refl _))
            go_wp2_with (first
              | (at_builtin; simp only [← hW6, ← hgz]; refine list_app1 rfl _ _ rfl w1.heap.size (.slice av acc.length ac) acc rfl HS6.out (some ⟨gz, 0, none⟩) 1 [t] rfl HN6.out (by rw [HAC.out]; have := HL.out; have := HLT.out; simp; omega) HX6.out.size ?_))
            intro v7 w7 hs7 hg7
            rw [← hW6] at hg7
            have hbb := hg7.below HX6.out.size (fun kk hkk => (SOw.own HS6.out kk hkk).1)
            have HX7 := Lib.hid (HX6.out.trans hbb)
            have HB7 := Lib.hid (HB6.out.trans (hbb.mono HB1.out.size))
            have HS7 := Lib.hid hs7
            clear hs7 hg7 hbb hW6 hgz
            go_wp2_with fail
            go_roundw
            case rel => exact ⟨k + 1, acc ++ [t], by go_num, by rw [HLL.out]; exact HLT.out, by rw [List.length_append, HAC.out]; rfl, HQ3, HB7, HX7, HS7⟩
            case measure => simp [intOf]; have := HLT.out; omega
        · have hkL : k = L := by omega
          have hlt2 : ¬ (k : Int) < (L : Int) := by omega
          have HE : Hid (R = some acc) := Lib.hid (by rw [← HQ.out, hkL, ← HLL.out, Cod.F.drop_end]; simp [ofsO])
          have HAC := Lib.hid hacc
          clear hk HQ hacc
          go_wp2_with fail
          go_ret2
          exact ⟨_, by rw [HE.out]; rfl, Lib.hid (by rw [HE.out]; exact HSO.out.base HB1.out.size), HB.out⟩
    · have e2 : (xk != 2) = true := by simpa using hk2
      have HN : Hid (R = none) := Lib.hid (by rw [← HR.out]; unfold readS; rw [hO]; simp only; rw [if_neg hk2])
      clear g1 g2 hO
      go_upto_region 2 with fail
      simp only [← hW2]
      clear hW2
      go_wp2_with fail
      go_ret2
      exact ⟨_, by rw [HN.out]; rfl, Lib.hid (by rw [HN.out]; exact SOw.nil _ _), HB2.out⟩
end Go.Proofs.YtpkkdjmcabefbaaDoor
