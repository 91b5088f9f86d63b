/- part's promise of more keys: the law. -/
import Derived.Test.YtmpjpaomgifpcaaDoorPNone
import Derived.Test.YtmpjpaomgifpcaaDoorPArg
import Derived.Test.YtmpjpaomgifpcaaDoorBTopA
namespace Go.Proofs.YtmpjpaomgifpcaaDoor
open Go.RowKit
/-- What is behind some keys. -/
theorem run_drop (a : Option Addr) (L cap j : Nat) (hj : j ≤ L) (W : World) :
    (Instr.sliceAt 38 (.slice a L cap) (some (.int .i64 (j : Int))) none none).run Tryd.prog W = .ok (sliced a j L cap 1) W := by
  obtain ⟨i, hi, hz, hsz, hby⟩ := info_parts Tryd.strSl.info
  have hund := Tryd.strSl.und
  have he : Tryd.prog.elem 38 = 9 := by simp [Program.elem, hund]
  rw [run_sliceAt_slice W _ _ _ _ _ (by rw [he]; exact hund), run_slice_l W _ _ _ _ (by rw [he]; exact hund) .i64 (j : Int) (by omega) (by omega), he]
  simp [sizeOf, typeInfo, hi, hsz, Result.andThen]
theorem drop_at {w : World} {a : Option Addr} {n c : Nat} {l : List ByteArray} (h : StrSl w (.slice a n c) l) (hn : n = l.length) (hc : n ≤ c) (j : Nat) (hj : j ≤ n) : StrSl w (sliced a j n c 1) (l.drop j) := by
  subst hn
  obtain ⟨a', c', he, hcs⟩ := h
  injection he with e1 _ e3
  subst e1 e3
  refine ⟨_, _, by unfold sliced; rw [List.length_drop], fun hne => ?_⟩
  have hjl : j < l.length := by
    rcases Nat.lt_or_ge j l.length with h | h
    · exact h
    · exact absurd (List.drop_eq_nil_of_le h) hne
  obtain ⟨g, o, rfl, hg, hx⟩ := hcs (by intro e; rw [e] at hjl; simp at hjl)
  refine ⟨g, o + j, ?_, hg, fun i x hi => ?_⟩
  · rw [if_neg (by omega)]
    simp [addr_add]
  · rw [List.getElem?_drop] at hi
    rw [Nat.add_assoc]
    exact hx _ _ hi

theorem askL_drop (K : List ByteArray) (U : List AI) (j : Nat) : ∀ q ∈ askL (K.drop j) [], q ∈ askL K U := by
  intro q hq
  unfold askL rightL at hq ⊢
  obtain ⟨x, hx, rfl⟩ := List.mem_map.1 hq
  obtain ⟨h1, h2⟩ := List.mem_filter.1 hx
  refine List.mem_map.2 ⟨x, List.mem_filter.2 ⟨?_, h2⟩, rfl⟩
  rw [List.append_nil] at h1
  obtain ⟨y, hy, rfl⟩ := List.mem_map.1 h1
  exact List.mem_append_left _ (List.mem_map.2 ⟨y, List.mem_of_mem_drop hy, rfl⟩)
theorem more_und {A B : List Ask} (h : ∀ q ∈ A, q ∈ B) {m : Option Tr} (k : ByteArray) (n : Int) (hn : MP.und k n (cutM A m) ≠ none) : MP.und k n (cutM B m) ≠ none := by
  cases m with
  | none => exact hn
  | some t =>
    rw [cutM] at hn ⊢
    cases hr : rightB k n with
    | true => rw [und_right hr] at hn ⊢; exact cut_more h _ _ t hn
    | false => rw [und_wrong hr]; simp
theorem szL_mono : ∀ (b a : Nat), a ≤ b → (Cod.szL a).length ≤ (Cod.szL b).length := by
  intro b
  induction b using Nat.strongRecOn with
  | _ b ih =>
    intro a hab
    by_cases ha : a < 128
    · rw [Cod.szL_lt ha]
      by_cases hb : b < 128
      · rw [Cod.szL_lt hb]; simp
      · rw [Cod.szL_ge (by omega)]; simp
    · rw [Cod.szL_ge (show 128 ≤ a by omega), Cod.szL_ge (show 128 ≤ b by omega)]
      have := ih (b / 128) (by omega) (a / 128) (by omega)
      simp; omega
theorem pair32 {m : Option Tr} (hm : MT.wf m) {x : Pr} (hx : x ∈ MT.pairs m) : x.1.size = 32 := by
  cases m with
  | none => cases hx
  | some t => exact (Tr.pairs_ok hm x hx).1
theorem more_len {A B : List Ask} (h : ∀ q ∈ A, q ∈ B) {m : Option Tr} (hm : MT.wf m) : (showL A m).length ≤ (showL B m).length := by
  cases m with
  | none => exact Nat.le_refl _
  | some t =>
    obtain ⟨h1, h2⟩ := shown_mono h t hm
    unfold showL showN
    rw [list_bytes_len, list_bytes_len]
    have := szL_mono _ _ h2
    show 1 + (Cod.szL (shownF A t).len).length + (shownF A t).bytes.length ≤ 1 + (Cod.szL (shownF B t).len).length + (shownF B t).bytes.length
    omega

def MoRel (P : List Pr) (Ca Cf : Option PT) (xa xf pv : Value) (w : World) (i : Value) (wr : World) : Prop :=
  ∃ j : Nat, i = .int .i64 j ∧ j ≤ P.length ∧ Hid (PAt wr Ca xa) ∧ Hid (PAt wr Cf xf) ∧ Hid (PSl wr pv P) ∧ Below w.heap.size w wr
def gtPart (r : Option ByteArray) : Value := .tuple #[.string (r.getD ⟨#[]⟩), .bool r.isSome, .bool true]

set_option maxRecDepth 30000 in
set_option maxHeartbeats 4000000 in
theorem more_law (la : Option Addr) (ln lc : Nat) (av : Value) (n : Int) (w : World) (hst : Start w) (hl : ln ≤ maxLen) (hu : ActsAt w la ln) (ha : AskAt w av) (hn : (Lit.int .u8 n).wf = true) :
    Calls Tryd.prog 6 #[.slice la ln lc, av, .int .u8 n] w fun e w' => e = .returned (.bool true) ∧ Below w.heap.size w w' := by
  obtain ⟨L, rfl, hL⟩ := acts_list hu
  obtain ⟨K, U, kv, uv, rfl, hK, hU, hKs, hUs, hks, hus⟩ := ha
  have hn0 : 0 ≤ n ∧ n < 256 := by
    have h := hn
    simp [Lit.wf, IntKind.min, IntKind.max, IntKind.signed, IntKind.bits] at h
    omega
  obtain ⟨N, rfl⟩ := Int.eq_ofNat_of_zero_le hn0.1
  have hN : N < 256 := by omega
  obtain ⟨W0, hW0⟩ : ∃ W, W = w.alloc (.cells #[kv, uv] 41) := ⟨_, rfl⟩
  have hbW : Below w.heap.size w W0 := by rw [hW0]; exact (Below.refl _ _).alloc (Nat.le_refl _) _
  obtain ⟨c0, c1⟩ := two_cells (w := W0) (b := w.heap.size) (by rw [hW0]; exact heap_alloc_new _ _)
  have hgW : w.heap.size < W0.heap.size := by rw [hW0]; simp
  have HL := Lib.hid hL
  have HS := Lib.hid hst
  have HA := Lib.hid (awake_prog W0 (hst.later hbW))
  have HKY := Lib.hid (fun (W : World) (hb : Below w.heap.size w W) => keys_prog K U kv uv W hK hU hKs hUs (hks.later hb) (hus.later hb))
  have HSM := Lib.hid (fun (W : World) (hb : Below w.heap.size w W) => small_prog L 25 la lc W hl (by omega) (by omega) (HL.out.later hb))
  have HBW := Lib.hid hbW
  have HW0 := Lib.hid hW0
  have HK1 := Lib.hid hks
  have HU1 := Lib.hid hus
  obtain ⟨ka, kc, rfl, _⟩ := hks
  obtain ⟨ua, uc, rfl, _, _⟩ := hus
  clear hn hn0 hst hu hL hl hK hU hKs hUs hbW hW0
  go_enter Tryd.func6, Tryd.ntmps6
  go_wp2_with fail
  rw [← HW0.out]
  refine HA.out.mono ?_
  rintro e w1 ⟨rfl, hb1⟩
  have B1 := Lib.hid (HBW.out.trans (hb1.mono HBW.out.size))
  have d0 : w1.cell? ⟨w.heap.size, 0, none⟩ = some (.slice ka K.length kc) := by rw [hb1.cell (p := ⟨w.heap.size, 0, none⟩) hgW]; exact c0
  have d1 : w1.cell? ⟨w.heap.size, 1, none⟩ = some (.slice ua U.length uc) := by rw [hb1.cell (p := ⟨w.heap.size, 1, none⟩) hgW]; exact c1
  clear hb1 c0 c1 hgW HBW
  go_wp2_with fail
  refine (HKY.out w1 B1.out).mono ?_
  rintro e w2 ⟨kv2, uv2, b, rfl, hb2, hky⟩
  have B2 := Lib.hid (B1.out.trans (hb2.mono B1.out.size))
  clear hb2 d0 d1
  go_wp2_with fail
  refine (HSM.out w2 B2.out).mono ?_
  rintro e w3 ⟨bs, rfl, hsm, hb3⟩
  have B3 := Lib.hid (B2.out.trans (hb3.mono B2.out.size))
  cases bs with
  | false =>
    clear hsm hky hb3
    go_wp2_with fail
    go_ret
    exact ⟨rfl, B3.out⟩
  | true =>
  cases b with
  | false =>
    clear hsm hky hb3
    go_wp2_with fail
    go_ret
    exact ⟨rfl, B3.out⟩
  | true =>
    obtain ⟨hlen, hsmall⟩ := hsm rfl
    obtain ⟨hka, hua, hK8, hU4, hshK, hshU, qa, qc, rfl, hqc⟩ := hky rfl
    have HKV := Lib.hid (hka.later hb3)
    have HUV := Lib.hid (hua.later hb3)
    have HM := Lib.hid (fun (W : World) (hb : Below w.heap.size w W) => made_prog L la lc W (by omega) hsmall (HL.out.later hb) (HS.out.later hb))
    obtain ⟨hwf, hml⟩ := made_ok L hsmall
    obtain ⟨M, hM⟩ : ∃ M, M = madeT L := ⟨_, rfl⟩
    rw [← hM] at HM hwf hml
    have hMn : (MT.pairs M).length ≤ 25 := by omega
    obtain ⟨J, hJ⟩ : ∃ J, J = min N K.length := ⟨_, rfl⟩
    have hJI : (min (N : Int) (K.length : Int)) = (J : Int) := by rw [hJ]; omega
    have hJle : J ≤ K.length := by omega
    obtain ⟨KK, hKK⟩ : ∃ x, x = K.map keyB := ⟨_, rfl⟩
    obtain ⟨UU, hUU⟩ : ∃ x, x = U.map keyI := ⟨_, rfl⟩
    have hKKl : KK.length = K.length := by rw [hKK, List.length_map]
    have hUUl : UU.length = U.length := by rw [hUU, List.length_map]
    rw [← hKK] at HKV
    rw [← hUU] at HUV
    have HRD := Lib.hid (fun W => run_drop qa K.length qc J hJle W)
    obtain ⟨Aa, hAa⟩ : ∃ A, A = askL KK UU := ⟨_, rfl⟩
    obtain ⟨Af, hAf⟩ : ∃ A, A = askL (KK.drop J) [] := ⟨_, rfl⟩
    have hsub : ∀ q ∈ Af, q ∈ Aa := by rw [hAa, hAf]; exact askL_drop KK UU J
    obtain ⟨Ta, hTa⟩ : ∃ A, A = showT Aa M := ⟨_, rfl⟩
    obtain ⟨Tf, hTf⟩ : ∃ A, A = showT Af M := ⟨_, rfl⟩
    have hla : Ta.size ≤ 10000000 := by
      have := showL_len Aa M hwf (by omega)
      rw [hTa, ← ks_length, ks_showT]; omega
    have hlf : Tf.size ≤ 10000000 := by
      have := showL_len Af M hwf (by omega)
      rw [hTf, ← ks_length, ks_showT]; omega
    have hmono : decide ((Ta.size : Int) < (Tf.size : Int)) = false := by
      have := more_len hsub hwf
      have e1 : Ta.size = (showL Aa M).length := by rw [hTa, ← ks_length, ks_showT]
      have e2 : Tf.size = (showL Af M).length := by rw [hTf, ← ks_length, ks_showT]
      exact decide_eq_false (by omega)
    have hmonoI : ¬ ((Ta.size : Int) < (Tf.size : Int)) := of_decide_eq_false hmono
    have HSA := Lib.hid (fun (x kv uv : Value) (W : World) (h : MAt W M x) (hk : StrSl W kv KK) (hu : ASl W uv UU) => show_prog KK UU M x kv uv W (by omega) (by omega) hwf (by omega) h hk hu)
    have HSF := Lib.hid (fun (x kv : Value) (W : World) (h : MAt W M x) (hk : StrSl W kv (KK.drop J)) => show_prog (KK.drop J) [] M x kv (.slice none 0 0) W (by rw [List.length_drop]; omega) (by simp) hwf (by omega) h hk ⟨none, 0, rfl, Nat.le_refl _, fun h => absurd rfl h⟩)
    rw [← hAa, ← hTa] at HSA
    rw [← hAf, ← hTf] at HSF
    obtain ⟨R, hR⟩ : ∃ R, R = MT.root M := ⟨_, rfl⟩
    have HRM := Lib.hid (fun (x : Value) (W : World) (h : MAt W M x) => root_prog h)
    have HOA := Lib.hid (fun (W : World) (hs : Start W) => open_prog R Ta W hla (by rw [hTa, ks_showT]; exact (open_shown Aa M hwf (by omega)).2) hs)
    have HOF := Lib.hid (fun (W : World) (hs : Start W) => open_prog R Tf W hlf (by rw [hTf, ks_showT]; exact (open_shown Af M hwf (by omega)).2) hs)
    rw [show openO R (ks Ta) = some (cutM Aa M) by rw [hR, hTa]; exact open_shown_root Aa M hwf (by omega)] at HOA
    rw [show openO R (ks Tf) = some (cutM Af M) by rw [hR, hTf]; exact open_shown_root Af M hwf (by omega)] at HOF
    rw [← hR] at HRM
    obtain ⟨Ca, hCa⟩ : ∃ C, C = cutM Aa M := ⟨_, rfl⟩
    obtain ⟨Cf, hCf⟩ : ∃ C, C = cutM Af M := ⟨_, rfl⟩
    have hfa : MP.fit Ca := by rw [hCa]; exact cutM_fit Aa M hwf (by omega)
    have hff : MP.fit Cf := by rw [hCf]; exact cutM_fit Af M hwf (by omega)
    have HGA := Lib.hid (fun (k : ByteArray) (x : Value) (W : World) (h : PAt W Ca x) => get_part k Ca x W hfa h)
    have HGF := Lib.hid (fun (k : ByteArray) (x : Value) (W : World) (h : PAt W Cf x) => get_part k Cf x W hff h)
    have HGM := Lib.hid (fun (k : ByteArray) (hk : k.size = 32) (hne : MP.und k 256 Cf ≠ none) => (show gtV (MP.und k 256 Cf) = gtPart (getL k (MT.pairs M)) ∧ gtV (MP.und k 256 Ca) = gtPart (getL k (MT.pairs M)) from by
      rw [hCf] at hne
      rw [hCf, hCa]
      exact ⟨gtV_sound (cutM_prune Af M) hwf k hk hne, gtV_sound (cutM_prune Aa M) hwf k hk (more_und hsub k 256 hne)⟩))
    rw [← hCa] at HOA
    rw [← hCf] at HOF
    unfold EdRes at HOA HOF
    have HALL := Lib.hid (fun (x : Value) (W : World) (h : MAt W M x) => all_prog h (by omega))
    have HKEY := Lib.hid (show ∀ (j : Nat) (x : Pr), (MT.pairs M)[j]? = some x → x.1.size = 32 from fun j x hx => pair32 hwf (List.mem_of_getElem? hx))
    obtain ⟨P, hP⟩ : ∃ P, P = MT.pairs M := ⟨_, rfl⟩
    rw [← hP] at HKEY HGM hMn
    have HALL2 := Lib.hid (show ∀ (x : Value) (W : World), MAt W M x → Calls Tryd.prog 30 #[x] W (PRes W P) by rw [hP]; exact HALL.out)
    clear HALL
    have hp0 : (0 : Int) ≤ (P.length : Int) := by omega
    have hp1 : (P.length : Int) ≤ 25 := by omega
    have HFV := Lib.hid (drop_at HKV.out hKKl.symm hqc J (by omega))
    clear hsm hky hka hua hlen hM hKK hUU hAa hAf hTa hTf hla hlf hR hCa hCf hfa hff hsub hmono hP hshK hshU hb3 hml
    go_wp2_with fail
    refine (HM.out w3 B3.out).mono ?_
    rintro e w4 ⟨x, wv, rfl, hx4, hw4, hb4⟩
    have X := Lib.hid hx4
    have B4 := Lib.hid (B3.out.trans (hb4.mono B3.out.size))
    have KV4 := Lib.hid (HKV.out.later hb4)
    have UV4 := Lib.hid (HUV.out.later hb4)
    have FV4 := Lib.hid (HFV.out.later hb4)
    clear hx4 hw4 hb4
    have hcv : IntKind.i64.wrap (N : Int) = (N : Int) := by rw [IntKind.wrap_i64]; omega
    by_cases hlt : N < K.length
    · obtain rfl : J = N := by omega
      have hq1 : ¬ qc = J := by omega
      have hq2 : ¬ (K.length : Int) < (J : Int) := by omega
      have hq3 : (J : Int) ≤ (K.length : Int) := by omega
      have FW : Hid (StrSl w4 (.slice (Option.map (fun x => x.add J) qa) (K.length - J) (qc - J)) (KK.drop J)) := Lib.hid (by
        have h := FV4.out
        unfold sliced at h
        rw [if_neg hq1] at h
        simpa using h)
      clear FV4 HRD hJ
      go_wp2_with fail
      refine (HSA.out x _ _ w4 X.out KV4.out UV4.out).mono ?_
      rintro e w_1 ⟨rfl, hb1⟩
      have X_1 := Lib.hid (X.out.later hb1)
      have KV4_1 := Lib.hid (KV4.out.later hb1)
      have UV4_1 := Lib.hid (UV4.out.later hb1)
      have FW_1 := Lib.hid (FW.out.later hb1)
      have B_1 := Lib.hid (B4.out.trans (hb1.mono B4.out.size))
      clear hb1
      go_wp2_with fail
      refine (HSF.out x _ w_1 X_1.out (by first | exact FW_1.out | exact ⟨_, _, rfl, fun h => absurd rfl h⟩)).mono ?_
      rintro e w_2 ⟨rfl, hb2⟩
      have X_2 := Lib.hid (X_1.out.later hb2)
      have FW_2 := Lib.hid (FW_1.out.later hb2)
      have B_2 := Lib.hid (B_1.out.trans (hb2.mono B_1.out.size))
      clear hb2
      go_wp2_with fail
      refine (HRM.out x w_2 X_2.out).mono ?_
      rintro e w_3 ⟨rfl, hb3⟩
      have X_3 := Lib.hid (X_2.out.later hb3)
      have B_3 := Lib.hid (B_2.out.trans (hb3.mono B_2.out.size))
      clear hb3
      go_wp2_with fail
      refine (HOA.out w_3 (HS.out.later B_3.out)).mono ?_
      rintro e w_4 ⟨xa, rfl, hm4, hb4⟩
      have X_4 := Lib.hid (X_3.out.later hb4)
      have B_4 := Lib.hid (B_3.out.trans (hb4.mono B_3.out.size))
      have PA := Lib.hid hm4
      clear hm4
      clear hb4
      go_wp2_with fail
      refine (HRM.out x w_4 X_4.out).mono ?_
      rintro e w_5 ⟨rfl, hb5⟩
      have X_5 := Lib.hid (X_4.out.later hb5)
      have PA_5 := Lib.hid (PA.out.later hb5)
      have B_5 := Lib.hid (B_4.out.trans (hb5.mono B_4.out.size))
      clear hb5
      go_wp2_with fail
      refine (HOF.out w_5 (HS.out.later B_5.out)).mono ?_
      rintro e w_6 ⟨xf, rfl, hm6, hb6⟩
      have X_6 := Lib.hid (X_5.out.later hb6)
      have PA_6 := Lib.hid (PA_5.out.later hb6)
      have B_6 := Lib.hid (B_5.out.trans (hb6.mono B_5.out.size))
      have PF := Lib.hid hm6
      clear hm6
      clear hb6
      go_wp2_with fail
      refine (HALL2.out x w_6 X_6.out).mono ?_
      rintro e w_7 ⟨pv, rfl, hp, hb7⟩
      have PA_7 := Lib.hid (PA_6.out.later hb7)
      have PF_7 := Lib.hid (PF.out.later hb7)
      have B_7 := Lib.hid (B_6.out.trans (hb7.mono B_6.out.size))
      have PS := Lib.hid (POwn.sl hp)
      clear hb7 hp
      obtain ⟨pa, pc, rfl, _, _⟩ := PS.out
      go_wp2_with fail
      clear HSA HSF HRM HOA HOF HALL2 X KV4 UV4 FW B4
      have hp1' : (P.length : Int) ≤ 25 := hp1
      go_loopw [107] (MoRel P Ca Cf xa xf (.slice pa P.length pc) w) (fun i _ => 26 - (intOf i).toNat)
      case atStart => exact ⟨0, rfl, by omega, PA_7, PF_7, PS, B_7.out⟩
      case round =>
        obtain ⟨j, rfl, hj, hxa, hxf, hps, hb⟩ := hrel
        have hj0 : (0 : Int) ≤ (j : Int) := by omega
        have hj1 : (j : Int) ≤ 25 := by omega
        have hsz := hb.size
        by_cases hlt : j < P.length
        · have hltI : (j : Int) < (P.length : Int) := by omega
          obtain ⟨q, hq⟩ : ∃ q, q = P[j] := ⟨_, rfl⟩
          have hqj : P[j]? = some q := by rw [hq]; exact List.getElem?_eq_getElem hlt
          obtain ⟨_, _, he, _, hne⟩ := hps.out
          injection he with ee1 _ ee3
          subst ee1 ee3
          obtain ⟨g, o, rfl, hg, hcs⟩ := hne (by intro e; rw [e] at hlt; simp at hlt)
          obtain ⟨z0, z1⟩ := hcs j q hqj
          have hk32 := HKEY.out j q hqj
          obtain ⟨k, v⟩ := q
          simp only at z0 z1 hk32
          obtain ⟨V0, hV0⟩ : ∃ V, V = wr.alloc (.cells #[.string k, .string v] 69) := ⟨_, rfl⟩
          obtain ⟨c0, c1⟩ := two_cells (w := V0) (b := wr.heap.size) (by rw [hV0]; exact heap_alloc_new _ _)
          have hbV : Below wr.heap.size wr V0 := by rw [hV0]; exact (Below.refl _ _).alloc (Nat.le_refl _) _
          have hsV : wr.heap.size < V0.heap.size := by rw [hV0]; simp
          have s0 := c0
          rw [hV0] at s0
          have HV0 := Lib.hid hV0
          have HXA := Lib.hid (hxa.out.later hbV)
          have HXF := Lib.hid (hxf.out.later hbV)
          have HPS := Lib.hid (hps.out.later hbV)
          have HB := Lib.hid (hb.trans (hbV.mono hsz))
          have HG2 := Lib.hid (HGM.out k hk32)
          obtain ⟨r, hr⟩ : ∃ r, r = getL k P := ⟨_, rfl⟩
          rw [← hr] at HG2
          obtain ⟨OF, hOF⟩ : ∃ O, O = MP.und k 256 Cf := ⟨_, rfl⟩
          obtain ⟨OA, hOA⟩ : ∃ O, O = MP.und k 256 Ca := ⟨_, rfl⟩
          have HGa := Lib.hid (HGA.out k)
          have HGf := Lib.hid (HGF.out k)
          rw [← hOA, ← hOF] at HG2
          rw [← hOA] at HGa
          rw [← hOF] at HGf
          clear hV0 hbV hxa hxf hps hb hr hOF hOA hq hqj hcs hne hk32 c1
          cases OF with
          | none =>
            rw [gtV] at HGf
            go_wp2_with fail
            rw [← HV0.out]
            refine (HGf.out xf V0 HXF.out).mono ?_
            rintro e w6 ⟨rfl, hb6⟩
            have s1 := cellB hb6 c0
            have HXA6 := Lib.hid (HXA.out.later hb6)
            have HXF6 := Lib.hid (HXF.out.later hb6)
            have HPS6 := Lib.hid (HPS.out.later hb6)
            have HB6 := Lib.hid (HB.out.trans (hb6.mono HB.out.size))
            clear hb6
            obtain ⟨q1, q2, q3, hqv⟩ : ∃ (q1 : ByteArray) (q2 q3 : Bool), gtV OA = .tuple #[.string q1, .bool q2, .bool q3] := by
              rcases OA with _ | _ | ⟨y, l⟩ <;> exact ⟨_, _, _, rfl⟩
            rw [hqv] at HGa
            clear hqv HG2
            go_wp2_with fail
            refine (HGa.out xa w6 HXA6.out).mono ?_
            rintro e w7 ⟨rfl, hb7⟩
            have HXA7 := Lib.hid (HXA6.out.later hb7)
            have HXF7 := Lib.hid (HXF6.out.later hb7)
            have HPS7 := Lib.hid (HPS6.out.later hb7)
            have HB7 := Lib.hid (HB6.out.trans (hb7.mono HB6.out.size))
            clear hb7 s1
            go_wp2_with fail
            go_roundw
            case rel => exact ⟨j + 1, by go_num, by omega, HXA7, HXF7, HPS7, HB7.out⟩
            case measure => simp [intOf]; omega
          | some lf =>
            obtain ⟨e1, e2⟩ := HG2.out (by simp)
            rw [e1] at HGf
            rw [e2] at HGa
            unfold gtPart at HGf HGa
            clear e1 e2 HG2
            go_wp2_with fail
            rw [← HV0.out]
            refine (HGf.out xf V0 HXF.out).mono ?_
            rintro e w6 ⟨rfl, hb6⟩
            have s1 := cellB hb6 c0
            have HXA6 := Lib.hid (HXA.out.later hb6)
            have HXF6 := Lib.hid (HXF.out.later hb6)
            have HPS6 := Lib.hid (HPS.out.later hb6)
            have HB6 := Lib.hid (HB.out.trans (hb6.mono HB.out.size))
            clear hb6
            go_wp2_with fail
            refine (HGa.out xa w6 HXA6.out).mono ?_
            rintro e w7 ⟨rfl, hb7⟩
            have HXA7 := Lib.hid (HXA6.out.later hb7)
            have HXF7 := Lib.hid (HXF6.out.later hb7)
            have HPS7 := Lib.hid (HPS6.out.later hb7)
            have HB7 := Lib.hid (HB6.out.trans (hb7.mono HB6.out.size))
            clear hb7 s1
            go_wp2_with fail
            go_roundw
            case rel => exact ⟨j + 1, by go_num, by omega, HXA7, HXF7, HPS7, HB7.out⟩
            case measure => simp [intOf]; omega
        · have hltI : ¬ (j : Int) < (P.length : Int) := by omega
          go_wp2_with fail
          go_ret
          exact ⟨rfl, hb⟩
    · obtain rfl : J = K.length := by omega
      have hE : KK.drop K.length = [] := List.drop_eq_nil_of_le (by omega)
      rw [hE] at HSF
      have FW : Hid (StrSl w4 (.slice none 0 0) []) := Lib.hid ⟨_, _, rfl, fun h => absurd rfl h⟩
      clear FV4 HRD hE hJ
      by_cases hq2 : (K.length : Int) < (N : Int)
      · by_cases hq1 : qc = K.length
        · subst hq1
          go_wp2_with fail
          refine (HSA.out x _ _ w4 X.out KV4.out UV4.out).mono ?_
          rintro e w_1 ⟨rfl, hb1⟩
          have X_1 := Lib.hid (X.out.later hb1)
          have KV4_1 := Lib.hid (KV4.out.later hb1)
          have UV4_1 := Lib.hid (UV4.out.later hb1)
          have FW_1 := Lib.hid (FW.out.later hb1)
          have B_1 := Lib.hid (B4.out.trans (hb1.mono B4.out.size))
          clear hb1
          go_wp2_with fail
          refine (HSF.out x _ w_1 X_1.out (by first | exact FW_1.out | exact ⟨_, _, rfl, fun h => absurd rfl h⟩)).mono ?_
          rintro e w_2 ⟨rfl, hb2⟩
          have X_2 := Lib.hid (X_1.out.later hb2)
          have FW_2 := Lib.hid (FW_1.out.later hb2)
          have B_2 := Lib.hid (B_1.out.trans (hb2.mono B_1.out.size))
          clear hb2
          go_wp2_with fail
          refine (HRM.out x w_2 X_2.out).mono ?_
          rintro e w_3 ⟨rfl, hb3⟩
          have X_3 := Lib.hid (X_2.out.later hb3)
          have B_3 := Lib.hid (B_2.out.trans (hb3.mono B_2.out.size))
          clear hb3
          go_wp2_with fail
          refine (HOA.out w_3 (HS.out.later B_3.out)).mono ?_
          rintro e w_4 ⟨xa, rfl, hm4, hb4⟩
          have X_4 := Lib.hid (X_3.out.later hb4)
          have B_4 := Lib.hid (B_3.out.trans (hb4.mono B_3.out.size))
          have PA := Lib.hid hm4
          clear hm4
          clear hb4
          go_wp2_with fail
          refine (HRM.out x w_4 X_4.out).mono ?_
          rintro e w_5 ⟨rfl, hb5⟩
          have X_5 := Lib.hid (X_4.out.later hb5)
          have PA_5 := Lib.hid (PA.out.later hb5)
          have B_5 := Lib.hid (B_4.out.trans (hb5.mono B_4.out.size))
          clear hb5
          go_wp2_with fail
          refine (HOF.out w_5 (HS.out.later B_5.out)).mono ?_
          rintro e w_6 ⟨xf, rfl, hm6, hb6⟩
          have X_6 := Lib.hid (X_5.out.later hb6)
          have PA_6 := Lib.hid (PA_5.out.later hb6)
          have B_6 := Lib.hid (B_5.out.trans (hb6.mono B_5.out.size))
          have PF := Lib.hid hm6
          clear hm6
          clear hb6
          go_wp2_with fail
          refine (HALL2.out x w_6 X_6.out).mono ?_
          rintro e w_7 ⟨pv, rfl, hp, hb7⟩
          have PA_7 := Lib.hid (PA_6.out.later hb7)
          have PF_7 := Lib.hid (PF.out.later hb7)
          have B_7 := Lib.hid (B_6.out.trans (hb7.mono B_6.out.size))
          have PS := Lib.hid (POwn.sl hp)
          clear hb7 hp
          obtain ⟨pa, pc, rfl, _, _⟩ := PS.out
          go_wp2_with fail
          clear HSA HSF HRM HOA HOF HALL2 X KV4 UV4 FW B4
          have hp1' : (P.length : Int) ≤ 25 := hp1
          go_loopw [107] (MoRel P Ca Cf xa xf (.slice pa P.length pc) w) (fun i _ => 26 - (intOf i).toNat)
          case atStart => exact ⟨0, rfl, by omega, PA_7, PF_7, PS, B_7.out⟩
          case round =>
            obtain ⟨j, rfl, hj, hxa, hxf, hps, hb⟩ := hrel
            have hj0 : (0 : Int) ≤ (j : Int) := by omega
            have hj1 : (j : Int) ≤ 25 := by omega
            have hsz := hb.size
            by_cases hlt : j < P.length
            · have hltI : (j : Int) < (P.length : Int) := by omega
              obtain ⟨q, hq⟩ : ∃ q, q = P[j] := ⟨_, rfl⟩
              have hqj : P[j]? = some q := by rw [hq]; exact List.getElem?_eq_getElem hlt
              obtain ⟨_, _, he, _, hne⟩ := hps.out
              injection he with ee1 _ ee3
              subst ee1 ee3
              obtain ⟨g, o, rfl, hg, hcs⟩ := hne (by intro e; rw [e] at hlt; simp at hlt)
              obtain ⟨z0, z1⟩ := hcs j q hqj
              have hk32 := HKEY.out j q hqj
              obtain ⟨k, v⟩ := q
              simp only at z0 z1 hk32
              obtain ⟨V0, hV0⟩ : ∃ V, V = wr.alloc (.cells #[.string k, .string v] 69) := ⟨_, rfl⟩
              obtain ⟨c0, c1⟩ := two_cells (w := V0) (b := wr.heap.size) (by rw [hV0]; exact heap_alloc_new _ _)
              have hbV : Below wr.heap.size wr V0 := by rw [hV0]; exact (Below.refl _ _).alloc (Nat.le_refl _) _
              have hsV : wr.heap.size < V0.heap.size := by rw [hV0]; simp
              have s0 := c0
              rw [hV0] at s0
              have HV0 := Lib.hid hV0
              have HXA := Lib.hid (hxa.out.later hbV)
              have HXF := Lib.hid (hxf.out.later hbV)
              have HPS := Lib.hid (hps.out.later hbV)
              have HB := Lib.hid (hb.trans (hbV.mono hsz))
              have HG2 := Lib.hid (HGM.out k hk32)
              obtain ⟨r, hr⟩ : ∃ r, r = getL k P := ⟨_, rfl⟩
              rw [← hr] at HG2
              obtain ⟨OF, hOF⟩ : ∃ O, O = MP.und k 256 Cf := ⟨_, rfl⟩
              obtain ⟨OA, hOA⟩ : ∃ O, O = MP.und k 256 Ca := ⟨_, rfl⟩
              have HGa := Lib.hid (HGA.out k)
              have HGf := Lib.hid (HGF.out k)
              rw [← hOA, ← hOF] at HG2
              rw [← hOA] at HGa
              rw [← hOF] at HGf
              clear hV0 hbV hxa hxf hps hb hr hOF hOA hq hqj hcs hne hk32 c1
              cases OF with
              | none =>
                rw [gtV] at HGf
                go_wp2_with fail
                rw [← HV0.out]
                refine (HGf.out xf V0 HXF.out).mono ?_
                rintro e w6 ⟨rfl, hb6⟩
                have s1 := cellB hb6 c0
                have HXA6 := Lib.hid (HXA.out.later hb6)
                have HXF6 := Lib.hid (HXF.out.later hb6)
                have HPS6 := Lib.hid (HPS.out.later hb6)
                have HB6 := Lib.hid (HB.out.trans (hb6.mono HB.out.size))
                clear hb6
                obtain ⟨q1, q2, q3, hqv⟩ : ∃ (q1 : ByteArray) (q2 q3 : Bool), gtV OA = .tuple #[.string q1, .bool q2, .bool q3] := by
                  rcases OA with _ | _ | ⟨y, l⟩ <;> exact ⟨_, _, _, rfl⟩
                rw [hqv] at HGa
                clear hqv HG2
                go_wp2_with fail
                refine (HGa.out xa w6 HXA6.out).mono ?_
                rintro e w7 ⟨rfl, hb7⟩
                have HXA7 := Lib.hid (HXA6.out.later hb7)
                have HXF7 := Lib.hid (HXF6.out.later hb7)
                have HPS7 := Lib.hid (HPS6.out.later hb7)
                have HB7 := Lib.hid (HB6.out.trans (hb7.mono HB6.out.size))
                clear hb7 s1
                go_wp2_with fail
                go_roundw
                case rel => exact ⟨j + 1, by go_num, by omega, HXA7, HXF7, HPS7, HB7.out⟩
                case measure => simp [intOf]; omega
              | some lf =>
                obtain ⟨e1, e2⟩ := HG2.out (by simp)
                rw [e1] at HGf
                rw [e2] at HGa
                unfold gtPart at HGf HGa
                clear e1 e2 HG2
                go_wp2_with fail
                rw [← HV0.out]
                refine (HGf.out xf V0 HXF.out).mono ?_
                rintro e w6 ⟨rfl, hb6⟩
                have s1 := cellB hb6 c0
                have HXA6 := Lib.hid (HXA.out.later hb6)
                have HXF6 := Lib.hid (HXF.out.later hb6)
                have HPS6 := Lib.hid (HPS.out.later hb6)
                have HB6 := Lib.hid (HB.out.trans (hb6.mono HB.out.size))
                clear hb6
                go_wp2_with fail
                refine (HGa.out xa w6 HXA6.out).mono ?_
                rintro e w7 ⟨rfl, hb7⟩
                have HXA7 := Lib.hid (HXA6.out.later hb7)
                have HXF7 := Lib.hid (HXF6.out.later hb7)
                have HPS7 := Lib.hid (HPS6.out.later hb7)
                have HB7 := Lib.hid (HB6.out.trans (hb7.mono HB6.out.size))
                clear hb7 s1
                go_wp2_with fail
                go_roundw
                case rel => exact ⟨j + 1, by go_num, by omega, HXA7, HXF7, HPS7, HB7.out⟩
                case measure => simp [intOf]; omega
            · have hltI : ¬ (j : Int) < (P.length : Int) := by omega
              go_wp2_with fail
              go_ret
              exact ⟨rfl, hb⟩
        · go_wp2_with fail
          refine (HSA.out x _ _ w4 X.out KV4.out UV4.out).mono ?_
          rintro e w_1 ⟨rfl, hb1⟩
          have X_1 := Lib.hid (X.out.later hb1)
          have KV4_1 := Lib.hid (KV4.out.later hb1)
          have UV4_1 := Lib.hid (UV4.out.later hb1)
          have FW_1 := Lib.hid (FW.out.later hb1)
          have B_1 := Lib.hid (B4.out.trans (hb1.mono B4.out.size))
          clear hb1
          go_wp2_with fail
          refine (HSF.out x _ w_1 X_1.out (by first | exact FW_1.out | exact ⟨_, _, rfl, fun h => absurd rfl h⟩)).mono ?_
          rintro e w_2 ⟨rfl, hb2⟩
          have X_2 := Lib.hid (X_1.out.later hb2)
          have FW_2 := Lib.hid (FW_1.out.later hb2)
          have B_2 := Lib.hid (B_1.out.trans (hb2.mono B_1.out.size))
          clear hb2
          go_wp2_with fail
          refine (HRM.out x w_2 X_2.out).mono ?_
          rintro e w_3 ⟨rfl, hb3⟩
          have X_3 := Lib.hid (X_2.out.later hb3)
          have B_3 := Lib.hid (B_2.out.trans (hb3.mono B_2.out.size))
          clear hb3
          go_wp2_with fail
          refine (HOA.out w_3 (HS.out.later B_3.out)).mono ?_
          rintro e w_4 ⟨xa, rfl, hm4, hb4⟩
          have X_4 := Lib.hid (X_3.out.later hb4)
          have B_4 := Lib.hid (B_3.out.trans (hb4.mono B_3.out.size))
          have PA := Lib.hid hm4
          clear hm4
          clear hb4
          go_wp2_with fail
          refine (HRM.out x w_4 X_4.out).mono ?_
          rintro e w_5 ⟨rfl, hb5⟩
          have X_5 := Lib.hid (X_4.out.later hb5)
          have PA_5 := Lib.hid (PA.out.later hb5)
          have B_5 := Lib.hid (B_4.out.trans (hb5.mono B_4.out.size))
          clear hb5
          go_wp2_with fail
          refine (HOF.out w_5 (HS.out.later B_5.out)).mono ?_
          rintro e w_6 ⟨xf, rfl, hm6, hb6⟩
          have X_6 := Lib.hid (X_5.out.later hb6)
          have PA_6 := Lib.hid (PA_5.out.later hb6)
          have B_6 := Lib.hid (B_5.out.trans (hb6.mono B_5.out.size))
          have PF := Lib.hid hm6
          clear hm6
          clear hb6
          go_wp2_with fail
          refine (HALL2.out x w_6 X_6.out).mono ?_
          rintro e w_7 ⟨pv, rfl, hp, hb7⟩
          have PA_7 := Lib.hid (PA_6.out.later hb7)
          have PF_7 := Lib.hid (PF.out.later hb7)
          have B_7 := Lib.hid (B_6.out.trans (hb7.mono B_6.out.size))
          have PS := Lib.hid (POwn.sl hp)
          clear hb7 hp
          obtain ⟨pa, pc, rfl, _, _⟩ := PS.out
          go_wp2_with fail
          clear HSA HSF HRM HOA HOF HALL2 X KV4 UV4 FW B4
          have hp1' : (P.length : Int) ≤ 25 := hp1
          go_loopw [107] (MoRel P Ca Cf xa xf (.slice pa P.length pc) w) (fun i _ => 26 - (intOf i).toNat)
          case atStart => exact ⟨0, rfl, by omega, PA_7, PF_7, PS, B_7.out⟩
          case round =>
            obtain ⟨j, rfl, hj, hxa, hxf, hps, hb⟩ := hrel
            have hj0 : (0 : Int) ≤ (j : Int) := by omega
            have hj1 : (j : Int) ≤ 25 := by omega
            have hsz := hb.size
            by_cases hlt : j < P.length
            · have hltI : (j : Int) < (P.length : Int) := by omega
              obtain ⟨q, hq⟩ : ∃ q, q = P[j] := ⟨_, rfl⟩
              have hqj : P[j]? = some q := by rw [hq]; exact List.getElem?_eq_getElem hlt
              obtain ⟨_, _, he, _, hne⟩ := hps.out
              injection he with ee1 _ ee3
              subst ee1 ee3
              obtain ⟨g, o, rfl, hg, hcs⟩ := hne (by intro e; rw [e] at hlt; simp at hlt)
              obtain ⟨z0, z1⟩ := hcs j q hqj
              have hk32 := HKEY.out j q hqj
              obtain ⟨k, v⟩ := q
              simp only at z0 z1 hk32
              obtain ⟨V0, hV0⟩ : ∃ V, V = wr.alloc (.cells #[.string k, .string v] 69) := ⟨_, rfl⟩
              obtain ⟨c0, c1⟩ := two_cells (w := V0) (b := wr.heap.size) (by rw [hV0]; exact heap_alloc_new _ _)
              have hbV : Below wr.heap.size wr V0 := by rw [hV0]; exact (Below.refl _ _).alloc (Nat.le_refl _) _
              have hsV : wr.heap.size < V0.heap.size := by rw [hV0]; simp
              have s0 := c0
              rw [hV0] at s0
              have HV0 := Lib.hid hV0
              have HXA := Lib.hid (hxa.out.later hbV)
              have HXF := Lib.hid (hxf.out.later hbV)
              have HPS := Lib.hid (hps.out.later hbV)
              have HB := Lib.hid (hb.trans (hbV.mono hsz))
              have HG2 := Lib.hid (HGM.out k hk32)
              obtain ⟨r, hr⟩ : ∃ r, r = getL k P := ⟨_, rfl⟩
              rw [← hr] at HG2
              obtain ⟨OF, hOF⟩ : ∃ O, O = MP.und k 256 Cf := ⟨_, rfl⟩
              obtain ⟨OA, hOA⟩ : ∃ O, O = MP.und k 256 Ca := ⟨_, rfl⟩
              have HGa := Lib.hid (HGA.out k)
              have HGf := Lib.hid (HGF.out k)
              rw [← hOA, ← hOF] at HG2
              rw [← hOA] at HGa
              rw [← hOF] at HGf
              clear hV0 hbV hxa hxf hps hb hr hOF hOA hq hqj hcs hne hk32 c1
              cases OF with
              | none =>
                rw [gtV] at HGf
                go_wp2_with fail
                rw [← HV0.out]
                refine (HGf.out xf V0 HXF.out).mono ?_
                rintro e w6 ⟨rfl, hb6⟩
                have s1 := cellB hb6 c0
                have HXA6 := Lib.hid (HXA.out.later hb6)
                have HXF6 := Lib.hid (HXF.out.later hb6)
                have HPS6 := Lib.hid (HPS.out.later hb6)
                have HB6 := Lib.hid (HB.out.trans (hb6.mono HB.out.size))
                clear hb6
                obtain ⟨q1, q2, q3, hqv⟩ : ∃ (q1 : ByteArray) (q2 q3 : Bool), gtV OA = .tuple #[.string q1, .bool q2, .bool q3] := by
                  rcases OA with _ | _ | ⟨y, l⟩ <;> exact ⟨_, _, _, rfl⟩
                rw [hqv] at HGa
                clear hqv HG2
                go_wp2_with fail
                refine (HGa.out xa w6 HXA6.out).mono ?_
                rintro e w7 ⟨rfl, hb7⟩
                have HXA7 := Lib.hid (HXA6.out.later hb7)
                have HXF7 := Lib.hid (HXF6.out.later hb7)
                have HPS7 := Lib.hid (HPS6.out.later hb7)
                have HB7 := Lib.hid (HB6.out.trans (hb7.mono HB6.out.size))
                clear hb7 s1
                go_wp2_with fail
                go_roundw
                case rel => exact ⟨j + 1, by go_num, by omega, HXA7, HXF7, HPS7, HB7.out⟩
                case measure => simp [intOf]; omega
              | some lf =>
                obtain ⟨e1, e2⟩ := HG2.out (by simp)
                rw [e1] at HGf
                rw [e2] at HGa
                unfold gtPart at HGf HGa
                clear e1 e2 HG2
                go_wp2_with fail
                rw [← HV0.out]
                refine (HGf.out xf V0 HXF.out).mono ?_
                rintro e w6 ⟨rfl, hb6⟩
                have s1 := cellB hb6 c0
                have HXA6 := Lib.hid (HXA.out.later hb6)
                have HXF6 := Lib.hid (HXF.out.later hb6)
                have HPS6 := Lib.hid (HPS.out.later hb6)
                have HB6 := Lib.hid (HB.out.trans (hb6.mono HB.out.size))
                clear hb6
                go_wp2_with fail
                refine (HGa.out xa w6 HXA6.out).mono ?_
                rintro e w7 ⟨rfl, hb7⟩
                have HXA7 := Lib.hid (HXA6.out.later hb7)
                have HXF7 := Lib.hid (HXF6.out.later hb7)
                have HPS7 := Lib.hid (HPS6.out.later hb7)
                have HB7 := Lib.hid (HB6.out.trans (hb7.mono HB6.out.size))
                clear hb7 s1
                go_wp2_with fail
                go_roundw
                case rel => exact ⟨j + 1, by go_num, by omega, HXA7, HXF7, HPS7, HB7.out⟩
                case measure => simp [intOf]; omega
            · have hltI : ¬ (j : Int) < (P.length : Int) := by omega
              go_wp2_with fail
              go_ret
              exact ⟨rfl, hb⟩
      · obtain rfl : N = K.length := by omega
        by_cases hq1 : qc = K.length
        · subst hq1
          go_wp2_with fail
          refine (HSA.out x _ _ w4 X.out KV4.out UV4.out).mono ?_
          rintro e w_1 ⟨rfl, hb1⟩
          have X_1 := Lib.hid (X.out.later hb1)
          have KV4_1 := Lib.hid (KV4.out.later hb1)
          have UV4_1 := Lib.hid (UV4.out.later hb1)
          have FW_1 := Lib.hid (FW.out.later hb1)
          have B_1 := Lib.hid (B4.out.trans (hb1.mono B4.out.size))
          clear hb1
          go_wp2_with fail
          refine (HSF.out x _ w_1 X_1.out (by first | exact FW_1.out | exact ⟨_, _, rfl, fun h => absurd rfl h⟩)).mono ?_
          rintro e w_2 ⟨rfl, hb2⟩
          have X_2 := Lib.hid (X_1.out.later hb2)
          have FW_2 := Lib.hid (FW_1.out.later hb2)
          have B_2 := Lib.hid (B_1.out.trans (hb2.mono B_1.out.size))
          clear hb2
          go_wp2_with fail
          refine (HRM.out x w_2 X_2.out).mono ?_
          rintro e w_3 ⟨rfl, hb3⟩
          have X_3 := Lib.hid (X_2.out.later hb3)
          have B_3 := Lib.hid (B_2.out.trans (hb3.mono B_2.out.size))
          clear hb3
          go_wp2_with fail
          refine (HOA.out w_3 (HS.out.later B_3.out)).mono ?_
          rintro e w_4 ⟨xa, rfl, hm4, hb4⟩
          have X_4 := Lib.hid (X_3.out.later hb4)
          have B_4 := Lib.hid (B_3.out.trans (hb4.mono B_3.out.size))
          have PA := Lib.hid hm4
          clear hm4
          clear hb4
          go_wp2_with fail
          refine (HRM.out x w_4 X_4.out).mono ?_
          rintro e w_5 ⟨rfl, hb5⟩
          have X_5 := Lib.hid (X_4.out.later hb5)
          have PA_5 := Lib.hid (PA.out.later hb5)
          have B_5 := Lib.hid (B_4.out.trans (hb5.mono B_4.out.size))
          clear hb5
          go_wp2_with fail
          refine (HOF.out w_5 (HS.out.later B_5.out)).mono ?_
          rintro e w_6 ⟨xf, rfl, hm6, hb6⟩
          have X_6 := Lib.hid (X_5.out.later hb6)
          have PA_6 := Lib.hid (PA_5.out.later hb6)
          have B_6 := Lib.hid (B_5.out.trans (hb6.mono B_5.out.size))
          have PF := Lib.hid hm6
          clear hm6
          clear hb6
          go_wp2_with fail
          refine (HALL2.out x w_6 X_6.out).mono ?_
          rintro e w_7 ⟨pv, rfl, hp, hb7⟩
          have PA_7 := Lib.hid (PA_6.out.later hb7)
          have PF_7 := Lib.hid (PF.out.later hb7)
          have B_7 := Lib.hid (B_6.out.trans (hb7.mono B_6.out.size))
          have PS := Lib.hid (POwn.sl hp)
          clear hb7 hp
          obtain ⟨pa, pc, rfl, _, _⟩ := PS.out
          go_wp2_with fail
          clear HSA HSF HRM HOA HOF HALL2 X KV4 UV4 FW B4
          have hp1' : (P.length : Int) ≤ 25 := hp1
          go_loopw [107] (MoRel P Ca Cf xa xf (.slice pa P.length pc) w) (fun i _ => 26 - (intOf i).toNat)
          case atStart => exact ⟨0, rfl, by omega, PA_7, PF_7, PS, B_7.out⟩
          case round =>
            obtain ⟨j, rfl, hj, hxa, hxf, hps, hb⟩ := hrel
            have hj0 : (0 : Int) ≤ (j : Int) := by omega
            have hj1 : (j : Int) ≤ 25 := by omega
            have hsz := hb.size
            by_cases hlt : j < P.length
            · have hltI : (j : Int) < (P.length : Int) := by omega
              obtain ⟨q, hq⟩ : ∃ q, q = P[j] := ⟨_, rfl⟩
              have hqj : P[j]? = some q := by rw [hq]; exact List.getElem?_eq_getElem hlt
              obtain ⟨_, _, he, _, hne⟩ := hps.out
              injection he with ee1 _ ee3
              subst ee1 ee3
              obtain ⟨g, o, rfl, hg, hcs⟩ := hne (by intro e; rw [e] at hlt; simp at hlt)
              obtain ⟨z0, z1⟩ := hcs j q hqj
              have hk32 := HKEY.out j q hqj
              obtain ⟨k, v⟩ := q
              simp only at z0 z1 hk32
              obtain ⟨V0, hV0⟩ : ∃ V, V = wr.alloc (.cells #[.string k, .string v] 69) := ⟨_, rfl⟩
              obtain ⟨c0, c1⟩ := two_cells (w := V0) (b := wr.heap.size) (by rw [hV0]; exact heap_alloc_new _ _)
              have hbV : Below wr.heap.size wr V0 := by rw [hV0]; exact (Below.refl _ _).alloc (Nat.le_refl _) _
              have hsV : wr.heap.size < V0.heap.size := by rw [hV0]; simp
              have s0 := c0
              rw [hV0] at s0
              have HV0 := Lib.hid hV0
              have HXA := Lib.hid (hxa.out.later hbV)
              have HXF := Lib.hid (hxf.out.later hbV)
              have HPS := Lib.hid (hps.out.later hbV)
              have HB := Lib.hid (hb.trans (hbV.mono hsz))
              have HG2 := Lib.hid (HGM.out k hk32)
              obtain ⟨r, hr⟩ : ∃ r, r = getL k P := ⟨_, rfl⟩
              rw [← hr] at HG2
              obtain ⟨OF, hOF⟩ : ∃ O, O = MP.und k 256 Cf := ⟨_, rfl⟩
              obtain ⟨OA, hOA⟩ : ∃ O, O = MP.und k 256 Ca := ⟨_, rfl⟩
              have HGa := Lib.hid (HGA.out k)
              have HGf := Lib.hid (HGF.out k)
              rw [← hOA, ← hOF] at HG2
              rw [← hOA] at HGa
              rw [← hOF] at HGf
              clear hV0 hbV hxa hxf hps hb hr hOF hOA hq hqj hcs hne hk32 c1
              cases OF with
              | none =>
                rw [gtV] at HGf
                go_wp2_with fail
                rw [← HV0.out]
                refine (HGf.out xf V0 HXF.out).mono ?_
                rintro e w6 ⟨rfl, hb6⟩
                have s1 := cellB hb6 c0
                have HXA6 := Lib.hid (HXA.out.later hb6)
                have HXF6 := Lib.hid (HXF.out.later hb6)
                have HPS6 := Lib.hid (HPS.out.later hb6)
                have HB6 := Lib.hid (HB.out.trans (hb6.mono HB.out.size))
                clear hb6
                obtain ⟨q1, q2, q3, hqv⟩ : ∃ (q1 : ByteArray) (q2 q3 : Bool), gtV OA = .tuple #[.string q1, .bool q2, .bool q3] := by
                  rcases OA with _ | _ | ⟨y, l⟩ <;> exact ⟨_, _, _, rfl⟩
                rw [hqv] at HGa
                clear hqv HG2
                go_wp2_with fail
                refine (HGa.out xa w6 HXA6.out).mono ?_
                rintro e w7 ⟨rfl, hb7⟩
                have HXA7 := Lib.hid (HXA6.out.later hb7)
                have HXF7 := Lib.hid (HXF6.out.later hb7)
                have HPS7 := Lib.hid (HPS6.out.later hb7)
                have HB7 := Lib.hid (HB6.out.trans (hb7.mono HB6.out.size))
                clear hb7 s1
                go_wp2_with fail
                go_roundw
                case rel => exact ⟨j + 1, by go_num, by omega, HXA7, HXF7, HPS7, HB7.out⟩
                case measure => simp [intOf]; omega
              | some lf =>
                obtain ⟨e1, e2⟩ := HG2.out (by simp)
                rw [e1] at HGf
                rw [e2] at HGa
                unfold gtPart at HGf HGa
                clear e1 e2 HG2
                go_wp2_with fail
                rw [← HV0.out]
                refine (HGf.out xf V0 HXF.out).mono ?_
                rintro e w6 ⟨rfl, hb6⟩
                have s1 := cellB hb6 c0
                have HXA6 := Lib.hid (HXA.out.later hb6)
                have HXF6 := Lib.hid (HXF.out.later hb6)
                have HPS6 := Lib.hid (HPS.out.later hb6)
                have HB6 := Lib.hid (HB.out.trans (hb6.mono HB.out.size))
                clear hb6
                go_wp2_with fail
                refine (HGa.out xa w6 HXA6.out).mono ?_
                rintro e w7 ⟨rfl, hb7⟩
                have HXA7 := Lib.hid (HXA6.out.later hb7)
                have HXF7 := Lib.hid (HXF6.out.later hb7)
                have HPS7 := Lib.hid (HPS6.out.later hb7)
                have HB7 := Lib.hid (HB6.out.trans (hb7.mono HB6.out.size))
                clear hb7 s1
                go_wp2_with fail
                go_roundw
                case rel => exact ⟨j + 1, by go_num, by omega, HXA7, HXF7, HPS7, HB7.out⟩
                case measure => simp [intOf]; omega
            · have hltI : ¬ (j : Int) < (P.length : Int) := by omega
              go_wp2_with fail
              go_ret
              exact ⟨rfl, hb⟩
        · go_wp2_with fail
          refine (HSA.out x _ _ w4 X.out KV4.out UV4.out).mono ?_
          rintro e w_1 ⟨rfl, hb1⟩
          have X_1 := Lib.hid (X.out.later hb1)
          have KV4_1 := Lib.hid (KV4.out.later hb1)
          have UV4_1 := Lib.hid (UV4.out.later hb1)
          have FW_1 := Lib.hid (FW.out.later hb1)
          have B_1 := Lib.hid (B4.out.trans (hb1.mono B4.out.size))
          clear hb1
          go_wp2_with fail
          refine (HSF.out x _ w_1 X_1.out (by first | exact FW_1.out | exact ⟨_, _, rfl, fun h => absurd rfl h⟩)).mono ?_
          rintro e w_2 ⟨rfl, hb2⟩
          have X_2 := Lib.hid (X_1.out.later hb2)
          have FW_2 := Lib.hid (FW_1.out.later hb2)
          have B_2 := Lib.hid (B_1.out.trans (hb2.mono B_1.out.size))
          clear hb2
          go_wp2_with fail
          refine (HRM.out x w_2 X_2.out).mono ?_
          rintro e w_3 ⟨rfl, hb3⟩
          have X_3 := Lib.hid (X_2.out.later hb3)
          have B_3 := Lib.hid (B_2.out.trans (hb3.mono B_2.out.size))
          clear hb3
          go_wp2_with fail
          refine (HOA.out w_3 (HS.out.later B_3.out)).mono ?_
          rintro e w_4 ⟨xa, rfl, hm4, hb4⟩
          have X_4 := Lib.hid (X_3.out.later hb4)
          have B_4 := Lib.hid (B_3.out.trans (hb4.mono B_3.out.size))
          have PA := Lib.hid hm4
          clear hm4
          clear hb4
          go_wp2_with fail
          refine (HRM.out x w_4 X_4.out).mono ?_
          rintro e w_5 ⟨rfl, hb5⟩
          have X_5 := Lib.hid (X_4.out.later hb5)
          have PA_5 := Lib.hid (PA.out.later hb5)
          have B_5 := Lib.hid (B_4.out.trans (hb5.mono B_4.out.size))
          clear hb5
          go_wp2_with fail
          refine (HOF.out w_5 (HS.out.later B_5.out)).mono ?_
          rintro e w_6 ⟨xf, rfl, hm6, hb6⟩
          have X_6 := Lib.hid (X_5.out.later hb6)
          have PA_6 := Lib.hid (PA_5.out.later hb6)
          have B_6 := Lib.hid (B_5.out.trans (hb6.mono B_5.out.size))
          have PF := Lib.hid hm6
          clear hm6
          clear hb6
          go_wp2_with fail
          refine (HALL2.out x w_6 X_6.out).mono ?_
          rintro e w_7 ⟨pv, rfl, hp, hb7⟩
          have PA_7 := Lib.hid (PA_6.out.later hb7)
          have PF_7 := Lib.hid (PF.out.later hb7)
          have B_7 := Lib.hid (B_6.out.trans (hb7.mono B_6.out.size))
          have PS := Lib.hid (POwn.sl hp)
          clear hb7 hp
          obtain ⟨pa, pc, rfl, _, _⟩ := PS.out
          go_wp2_with fail
          clear HSA HSF HRM HOA HOF HALL2 X KV4 UV4 FW B4
          have hp1' : (P.length : Int) ≤ 25 := hp1
          go_loopw [107] (MoRel P Ca Cf xa xf (.slice pa P.length pc) w) (fun i _ => 26 - (intOf i).toNat)
          case atStart => exact ⟨0, rfl, by omega, PA_7, PF_7, PS, B_7.out⟩
          case round =>
            obtain ⟨j, rfl, hj, hxa, hxf, hps, hb⟩ := hrel
            have hj0 : (0 : Int) ≤ (j : Int) := by omega
            have hj1 : (j : Int) ≤ 25 := by omega
            have hsz := hb.size
            by_cases hlt : j < P.length
            · have hltI : (j : Int) < (P.length : Int) := by omega
              obtain ⟨q, hq⟩ : ∃ q, q = P[j] := ⟨_, rfl⟩
              have hqj : P[j]? = some q := by rw [hq]; exact List.getElem?_eq_getElem hlt
              obtain ⟨_, _, he, _, hne⟩ := hps.out
              injection he with ee1 _ ee3
              subst ee1 ee3
              obtain ⟨g, o, rfl, hg, hcs⟩ := hne (by intro e; rw [e] at hlt; simp at hlt)
              obtain ⟨z0, z1⟩ := hcs j q hqj
              have hk32 := HKEY.out j q hqj
              obtain ⟨k, v⟩ := q
              simp only at z0 z1 hk32
              obtain ⟨V0, hV0⟩ : ∃ V, V = wr.alloc (.cells #[.string k, .string v] 69) := ⟨_, rfl⟩
              obtain ⟨c0, c1⟩ := two_cells (w := V0) (b := wr.heap.size) (by rw [hV0]; exact heap_alloc_new _ _)
              have hbV : Below wr.heap.size wr V0 := by rw [hV0]; exact (Below.refl _ _).alloc (Nat.le_refl _) _
              have hsV : wr.heap.size < V0.heap.size := by rw [hV0]; simp
              have s0 := c0
              rw [hV0] at s0
              have HV0 := Lib.hid hV0
              have HXA := Lib.hid (hxa.out.later hbV)
              have HXF := Lib.hid (hxf.out.later hbV)
              have HPS := Lib.hid (hps.out.later hbV)
              have HB := Lib.hid (hb.trans (hbV.mono hsz))
              have HG2 := Lib.hid (HGM.out k hk32)
              obtain ⟨r, hr⟩ : ∃ r, r = getL k P := ⟨_, rfl⟩
              rw [← hr] at HG2
              obtain ⟨OF, hOF⟩ : ∃ O, O = MP.und k 256 Cf := ⟨_, rfl⟩
              obtain ⟨OA, hOA⟩ : ∃ O, O = MP.und k 256 Ca := ⟨_, rfl⟩
              have HGa := Lib.hid (HGA.out k)
              have HGf := Lib.hid (HGF.out k)
              rw [← hOA, ← hOF] at HG2
              rw [← hOA] at HGa
              rw [← hOF] at HGf
              clear hV0 hbV hxa hxf hps hb hr hOF hOA hq hqj hcs hne hk32 c1
              cases OF with
              | none =>
                rw [gtV] at HGf
                go_wp2_with fail
                rw [← HV0.out]
                refine (HGf.out xf V0 HXF.out).mono ?_
                rintro e w6 ⟨rfl, hb6⟩
                have s1 := cellB hb6 c0
                have HXA6 := Lib.hid (HXA.out.later hb6)
                have HXF6 := Lib.hid (HXF.out.later hb6)
                have HPS6 := Lib.hid (HPS.out.later hb6)
                have HB6 := Lib.hid (HB.out.trans (hb6.mono HB.out.size))
                clear hb6
                obtain ⟨q1, q2, q3, hqv⟩ : ∃ (q1 : ByteArray) (q2 q3 : Bool), gtV OA = .tuple #[.string q1, .bool q2, .bool q3] := by
                  rcases OA with _ | _ | ⟨y, l⟩ <;> exact ⟨_, _, _, rfl⟩
                rw [hqv] at HGa
                clear hqv HG2
                go_wp2_with fail
                refine (HGa.out xa w6 HXA6.out).mono ?_
                rintro e w7 ⟨rfl, hb7⟩
                have HXA7 := Lib.hid (HXA6.out.later hb7)
                have HXF7 := Lib.hid (HXF6.out.later hb7)
                have HPS7 := Lib.hid (HPS6.out.later hb7)
                have HB7 := Lib.hid (HB6.out.trans (hb7.mono HB6.out.size))
                clear hb7 s1
                go_wp2_with fail
                go_roundw
                case rel => exact ⟨j + 1, by go_num, by omega, HXA7, HXF7, HPS7, HB7.out⟩
                case measure => simp [intOf]; omega
              | some lf =>
                obtain ⟨e1, e2⟩ := HG2.out (by simp)
                rw [e1] at HGf
                rw [e2] at HGa
                unfold gtPart at HGf HGa
                clear e1 e2 HG2
                go_wp2_with fail
                rw [← HV0.out]
                refine (HGf.out xf V0 HXF.out).mono ?_
                rintro e w6 ⟨rfl, hb6⟩
                have s1 := cellB hb6 c0
                have HXA6 := Lib.hid (HXA.out.later hb6)
                have HXF6 := Lib.hid (HXF.out.later hb6)
                have HPS6 := Lib.hid (HPS.out.later hb6)
                have HB6 := Lib.hid (HB.out.trans (hb6.mono HB.out.size))
                clear hb6
                go_wp2_with fail
                refine (HGa.out xa w6 HXA6.out).mono ?_
                rintro e w7 ⟨rfl, hb7⟩
                have HXA7 := Lib.hid (HXA6.out.later hb7)
                have HXF7 := Lib.hid (HXF6.out.later hb7)
                have HPS7 := Lib.hid (HPS6.out.later hb7)
                have HB7 := Lib.hid (HB6.out.trans (hb7.mono HB6.out.size))
                clear hb7 s1
                go_wp2_with fail
                go_roundw
                case rel => exact ⟨j + 1, by go_num, by omega, HXA7, HXF7, HPS7, HB7.out⟩
                case measure => simp [intOf]; omega
            · have hltI : ¬ (j : Int) < (P.length : Int) := by omega
              go_wp2_with fail
              go_ret
              exact ⟨rfl, hb⟩
end Go.Proofs.YtmpjpaomgifpcaaDoor
