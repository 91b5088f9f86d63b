/- The reference's Texts of a fork's pairs. The reference's Root. -/
import Derived.Test.YtmpjpaomgifpcaaGreatDoorBRefB
import Derived.Test.YtmpjpaomgifpcaaGreatDoorBShaP
import Derived.Deep.DeepCutAuto
namespace Go.Proofs.YtmpjpaomgifpcaaGreatDoor
open Go.RowKit

theorem texts_len : ∀ t : Tr, t.texts.length + 1 = 3 * t.pairs.length
  | .leaf _ _ => rfl
  | .fork _ _ z o => by
    have h1 := texts_len z
    have h2 := texts_len o
    simp only [Tr.texts, Tr.pairs, List.length_append, List.length_cons, List.length_nil]
    omega
theorem texts_last (t : Tr) : ∃ r, t.texts = r ++ [t.last] := by
  cases t with
  | leaf k v => exact ⟨[ks v], rfl⟩
  | fork p k z o => exact ⟨z.texts ++ o.texts, rfl⟩
theorem txs_last (t : Tr) (m : Nat) (hm : t.txs.length = m + 1) : t.txs[m]? = some (bs t.last) := by
  obtain ⟨r, hr⟩ := texts_last t
  have hl : r.length = m := by
    have : t.txs.length = r.length + 1 := by unfold Tr.txs; rw [hr]; simp
    omega
  unfold Tr.txs
  rw [hr, List.map_append, List.getElem?_append_right (by simp [hl])]
  simp [hl]
theorem last_size : ∀ (t : Tr), t.sz → t.last.length ≤ 1000
  | .leaf k v, h => by rw [Tr.last, leafT_length, h.1]; omega
  | .fork p k z o, h => by rw [Tr.last, forkT_length, h.2.1, Tr.hash_size, Tr.hash_size]; omega
theorem PSl.take {w : World} {l r : List Pr} {a : Option Addr} {n c : Nat} (h : PSl w (.slice a n c) (l ++ r)) : PSl w (.slice a l.length c) l := by
  obtain ⟨a', c', he, hc, hcells⟩ := h
  injection he with e1 e2 e3
  subst e1; subst e3
  refine ⟨a, c, rfl, by rw [List.length_append] at hc; omega, fun hne => ?_⟩
  obtain ⟨g, o, h1, h2, h3⟩ := hcells (by simp [hne])
  refine ⟨g, o, h1, h2, fun i x hx => h3 i x ?_⟩
  rw [List.getElem?_append_left (List.getElem?_eq_some_iff.1 hx).1]; exact hx
theorem PSl.rest {w : World} {l r : List Pr} {g o n c : Nat} (h : PSl w (.slice (some ⟨g, o, none⟩) n c) (l ++ r)) : PSl w (.slice (some ⟨g, o + l.length * 2, none⟩) r.length (c - l.length)) r := by
  obtain ⟨a', c', he, hc, hcells⟩ := h
  injection he with e1 e2 e3
  subst e1; subst e3
  refine ⟨_, _, rfl, by rw [List.length_append] at hc; omega, fun hne => ?_⟩
  obtain ⟨g', o', h1, h2, h3⟩ := hcells (by simp [hne])
  injection h1 with h1
  injection h1 with e4 e5 _
  subst e4; subst e5
  refine ⟨g, _, rfl, h2, fun i x hx => ?_⟩
  have := h3 (l.length + i) x (by rw [List.getElem?_append_right (by omega)]; simpa using hx)
  rw [Nat.add_mul, ← Nat.add_assoc] at this
  exact this
theorem wpAnyH_mono {P : Program} {md : Region.Mode} {ops : Array Oper} {Q : Exit → Act → World → Prop} {S S' : World → Prop} (hS : ∀ w, S' w → S w) : ∀ {fuel : Nat} {listed : Array Bool} {a : Act} {w : World}, wpAnyH P md ops Q S' fuel listed a w → wpAnyH P md ops Q S fuel listed a w
  | 0, _, _, _, h => h
  | _ + 1, _, _, _, h => ⟨h.1, fun i hi => wpOp_mono (fun _ _ h' => ⟨hS _ h'.1, wpAnyH_mono hS h'.2⟩) (h.2 i hi)⟩
theorem SOwn.cellsAt {w : World} {B g n c : Nat} {l : List ByteArray} (h : SOwn w B (.slice (some ⟨g, 0, none⟩) n c) l) (i : Nat) (u : Value) (hi : (l.map Value.string)[i]? = some u) : w.cell? ⟨g, 0 + i, none⟩ = some u := by
  rw [Nat.zero_add]
  rw [List.getElem?_map] at hi
  cases hl : l[i]? with
  | none => rw [hl] at hi; cases hi
  | some s =>
    rw [hl] at hi
    have hne : l ≠ [] := fun e => by rw [e] at hl; cases hl
    obtain ⟨g', c', he, _, _, _, hcs⟩ := SOwn.at h hne
    injection he with e1 _ _
    injection e1 with e1
    injection e1 with e1 _ _
    subst e1
    have : u = .string s := by simpa using hi.symm
    rw [this]; exact hcs i s hl
theorem strs_one (l : List ByteArray) : ∀ u ∈ l.map Value.string, u.oneCell' = true := by
  intro u hu
  obtain ⟨s, _, rfl⟩ := List.mem_map.1 hu
  rfl
theorem one_cell (w : World) (x : Value) (i : Nat) (u : Value) (hi : [x][i]? = some u) : (w.alloc (.cells #[x] 9)).cell? ⟨w.heap.size, i, none⟩ = some u := by
  have h := heap_at_alloc w (.cells #[x] 9)
  have h0 : i = 0 := by
    have := (List.getElem?_eq_some_iff.1 hi).1
    simpa using this
  subst h0
  simp at hi
  unfold World.cell?
  rw [h, ← hi]; rfl
def KkRel (nz : Nat) (w : World) (i : Value) (wr : World) : Prop := ∃ j : Nat, i = .int .i64 j ∧ j ≤ nz ∧ Same w wr
/-- A fork's text. -/
theorem fork_five (p : Nat) (k z o : ByteArray) (hp : p < 256) : (⟨#[1]⟩ : ByteArray) ++ ⟨[UInt8.ofNat 0, UInt8.ofNat p].toArray⟩ ++ k ++ z ++ o = bs (forkT p k z o) := by
  apply ks_inj
  rw [ks_bs]
  have e1 : p / 256 = 0 := by omega
  have e2 : p % 256 = p := by omega
  simp [forkT, ks, e1, e2]

set_option maxRecDepth 30000 in
set_option maxHeartbeats 4000000 in
theorem texts_ref (t : Tr) : ∀ (lv : Value) (w : World), t.wf → t.pairs.length ≤ 100 → PSl w lv t.pairs → Calls Tryz.prog 23 #[lv] w (TxRes w t.txs) := by
  induction t with
  | leaf k v => exact fun lv w hw _ h => texts_leaf k v lv w hw.1 hw.2 h
  | fork p k z o iz io =>
    intro lv w hw hlen h
    obtain ⟨f1, f2, f3, f4, f5, f6⟩ := fork_place hw
    obtain ⟨va, ra, ea⟩ := (Tr.fork p k z o).head_pairs
    obtain ⟨vb, rb, eb⟩ := (Tr.fork p k z o).tail_pairs
    have hN2 := @Tr.pairs_two p k z o
    obtain ⟨m, hm⟩ : ∃ m, (Tr.fork p k z o).pairs.length = m + 1 := ⟨(Tr.fork p k z o).pairs.length - 1, by omega⟩
    have hPL := Lib.hid (fun (W : World) (h : PSl W lv (Tr.fork p k z o).pairs) => place_ref z.head o.tail _ lv p W hw.1 f5 f6 f1 (by rw [f2, f3]; simp) m hm (by omega) ⟨va, by rw [ea]; rfl⟩ ⟨vb, by
      have hr : rb.length = m := by rw [eb] at hm; simpa using hm
      rw [eb, List.getElem?_append_right (by omega), hr]; simp; rfl⟩ h)
    have HW := Lib.hid hw
    have HP := Lib.hid h
    have hzl := List.length_pos_iff.2 z.pairs_ne
    have hol := List.length_pos_iff.2 o.pairs_ne
    have hlz : (Tr.fork p k z o).pairs.length = z.pairs.length + o.pairs.length := by rw [Tr.pairs, List.length_append]
    obtain ⟨nz, hnz⟩ : ∃ n, n = z.pairs.length := ⟨_, rfl⟩
    obtain ⟨no, hno⟩ : ∃ n, n = o.pairs.length := ⟨_, rfl⟩
    obtain ⟨N, hN⟩ : ∃ n, n = (Tr.fork p k z o).pairs.length := ⟨_, rfl⟩
    obtain ⟨aa, c, rfl, hc, hcells⟩ := h
    obtain ⟨g, o0, rfl, hg, hcs⟩ := hcells (by rw [ea]; simp)
    have HCS := Lib.hid hcs
    have hkey0 : w.cell? ⟨g, o0, none⟩ = some (.string z.head) := by
      have := (hcs 0 (z.head, va) (by rw [ea]; rfl)).1
      simpa using this
    rw [← hN] at hlz hlen hc hm hN2
    have hFI := Lib.hid (fun W => first_ref z.head p W f5 (by have := hw.1; omega))
    rw [← f4] at hFI
    rw [← hN]
    rw [← hN] at hPL HP
    have HN := Lib.hid hN
    have HNZ := Lib.hid hnz
    have HNO := Lib.hid hno
    rw [← hnz, ← hno] at hlz
    rw [← hnz] at hzl
    rw [← hno] at hol
    have HLZ := Lib.hid hlz
    have HZN := Lib.hid (show nz < N by omega)
    have i1 : (2 : Int) ≤ (N : Int) := by omega
    have i2 : (N : Int) ≤ 100 := by omega
    have i3 : ((N : Int) == 0) = false := by simp only [beq_eq_false_iff_ne]; omega
    have i4 : ((N : Int) == 1) = false := by simp only [beq_eq_false_iff_ne]; omega
    have HIZ := Lib.hid (fun (lv : Value) (W : World) (h : PSl W lv z.pairs) => iz lv W hw.2.2.2.2.2.2.2.1 (by omega) h)
    have HIO := Lib.hid (fun (lv : Value) (W : World) (h : PSl W lv o.pairs) => io lv W hw.2.2.2.2.2.2.2.2 (by omega) h)
    have hp0 : (0 : Int) ≤ (p : Int) := by omega
    have hp1 : (p : Int) ≤ 255 := by have := hw.1; omega
    have hz0 : (0 : Int) ≤ (nz : Int) := by omega
    have hz1 : (nz : Int) ≤ (N : Int) := by omega
    have hz2 : (nz : Int) ≤ (c : Int) := by omega
    have hz3 : ¬ (c : Int) = (nz : Int) := by omega
    have hz4 : (N : Int) ≤ (c : Int) := by omega
    have hz5 : ¬ c = nz := by omega
    clear hcells hcs hN hnz hno hlz hm hw f1 f2 f3 f4 f5 f6 ea eb iz io hN2 hlen hzl hol
    go_enter Tryz.func23, Tryz.ntmps23
    go_wp2_with fail
    refine (hPL.out w HP.out).mono ?_
    rintro e w1 ⟨rfl, hs1⟩
    have HS1 := Lib.hid hs1
    clear hs1
    go_wp2_with fail
    go_loopw [4] (KkRel nz w) (fun i _ => 200 - (intOf i).toNat)
    case atStart => exact ⟨0, rfl, by omega, HS1.out⟩
    case round =>
      obtain ⟨j, rfl, hj, hsm⟩ := hrel
      have hj0 : (0 : Int) ≤ (j : Int) := by omega
      have hjN : (j : Int) < (N : Int) := by have := HZN.out; omega
      by_cases hlt : j < nz
      · have hjz : j < z.pairs.length := by rw [← HNZ.out]; exact hlt
        obtain ⟨x, hx⟩ : ∃ x, x = z.pairs[j] := ⟨_, rfl⟩
        have hget : (Tr.fork p k z o).pairs[j]? = some x := by rw [Tr.pairs, List.getElem?_append_left hjz, List.getElem?_eq_getElem hjz, hx]
        have hb := side_z HW.out x (by rw [hx]; exact List.getElem_mem hjz)
        have hxs := (Tr.pairs_ok HW.out x (by rw [Tr.pairs]; exact List.mem_append_left _ (by rw [hx]; exact List.getElem_mem hjz))).1
        have c1 : wr.cell? ⟨g, o0 + j * 2, none⟩ = some (.string x.1) := by rw [(hsm.below w.heap.size).cell (p := ⟨g, o0 + j * 2, none⟩) hg]; exact (HCS.out j x hget).1
        have HB := Lib.hid (fun W => bit_ref x.1 p W HW.out.1 hxs)
        rw [hb] at HB
        have HSM := Lib.hid hsm
        have hz : (bitN false == 0) = true := rfl
        clear hx hget hb hxs hsm hjz
        go_wp2_with fail
        refine (HB.out _).mono ?_
        rintro e w2 ⟨rfl, rfl⟩
        go_wp2_with fail
        go_roundw
        case rel => exact ⟨j + 1, by go_num, by omega, HSM.out⟩
        case measure => simp [intOf]; omega
      · have hjz : j = nz := by omega
        have hno : 0 < o.pairs.length := List.length_pos_iff.2 o.pairs_ne
        obtain ⟨x, hx⟩ : ∃ x, x = o.pairs[0] := ⟨_, rfl⟩
        have hget : (Tr.fork p k z o).pairs[j]? = some x := by
          rw [Tr.pairs, List.getElem?_append_right (by rw [← HNZ.out]; omega), show j - z.pairs.length = 0 by rw [← HNZ.out]; omega, List.getElem?_eq_getElem hno, hx]
        have hb := side_o HW.out x (by rw [hx]; exact List.getElem_mem hno)
        have hxs := (Tr.pairs_ok HW.out x (by rw [Tr.pairs]; exact List.mem_append_right _ (by rw [hx]; exact List.getElem_mem hno))).1
        have c1 : wr.cell? ⟨g, o0 + j * 2, none⟩ = some (.string x.1) := by rw [(hsm.below w.heap.size).cell (p := ⟨g, o0 + j * 2, none⟩) hg]; exact (HCS.out j x hget).1
        have HB := Lib.hid (fun W => bit_ref x.1 p W HW.out.1 hxs)
        rw [hb] at HB
        have HSM := Lib.hid hsm
        have hz : (bitN true == 0) = false := rfl
        have HP2 := Lib.hid (HP.out.later (hsm.below w.heap.size))
        have e0 : wr.cell? ⟨g, o0, none⟩ = some (.string z.head) := by rw [(hsm.below w.heap.size).cell (p := ⟨g, o0, none⟩) hg]; exact hkey0
        clear hx hget hb hxs hsm hno
        subst hjz
        go_wp2_with fail
        refine (HB.out _).mono ?_
        rintro e w2 ⟨rfl, rfl⟩
        have HA := Lib.hid (show PSl wr (.slice (some ⟨g, o0, none⟩) j c) z.pairs by have := PSl.take (l := z.pairs) (r := o.pairs) HP2.out; rw [← HNZ.out] at this; exact this)
        have HBB := Lib.hid (show PSl wr (.slice (some ⟨g, o0 + j * 2, none⟩) (N - j) (c - j)) o.pairs by
          have := PSl.rest (l := z.pairs) (r := o.pairs) HP2.out
          rw [← HNZ.out, ← HNO.out] at this
          rw [show N - j = no by have := HLZ.out; omega]; exact this)
        have HE0 := Lib.hid e0
        have hjc : (j : Int) ≤ (c : Int) := by omega
        have HZL := Lib.hid (texts_len z)
        have HOL := Lib.hid (texts_len o)
        have HBSM := Lib.hid (HSM.out.below w.heap.size)
        go_wp2_with fail
        refine (HIZ.out _ wr HA.out).mono ?_
        rintro e w3 ⟨va3, rfl, ho3, hb3⟩
        have HO3 := Lib.hid ho3
        have HB3 := Lib.hid hb3
        have HBB3 := Lib.hid (HBB.out.later hb3)
        have HE3 := Lib.hid (cellB hb3 HE0.out)
        have HBw3 := Lib.hid (HBSM.out.trans (hb3.mono HBSM.out.size))
        clear hb3 ho3 e0 c1
        go_wp2_with fail
        refine (HIO.out _ w3 HBB3.out).mono ?_
        rintro e w4 ⟨vb4, rfl, ho4, hb4⟩
        have HO4 := Lib.hid ho4
        have HO34 := Lib.hid (HO3.out.later hb4)
        have e4 := cellB hb4 HE3.out
        have HBw4 := Lib.hid (HBw3.out.trans (hb4.mono HBw3.out.size))
        clear hb4 ho4
        obtain ⟨ma, hma⟩ : ∃ m, z.txs.length = m + 1 := ⟨z.txs.length - 1, by unfold Tr.txs; rw [List.length_map]; have := HZL.out; have := HNZ.out; omega⟩
        obtain ⟨mb, hmb⟩ : ∃ m, o.txs.length = m + 1 := ⟨o.txs.length - 1, by unfold Tr.txs; rw [List.length_map]; have := HOL.out; have := HNO.out; have := HLZ.out; have := HZN.out; omega⟩
        obtain ⟨ga, ca, hva, hca, hga, hgl, hac⟩ := SOwn.at HO34.out (by intro e; rw [e] at hma; simp at hma)
        obtain ⟨gb, cb, hvb, hcb, hgb, hgbl, hbc⟩ := SOwn.at HO4.out (by intro e; rw [e] at hmb; simp at hmb)
        have a4 := hac ma _ (txs_last z ma hma)
        have b4 := hbc mb _ (txs_last o mb hmb)
        rw [hma] at hva
        rw [hmb] at hvb
        subst hva
        subst hvb
        obtain ⟨zl, hzl⟩ : ∃ s, s = bs z.last := ⟨_, rfl⟩
        obtain ⟨ol, hol⟩ : ∃ s, s = bs o.last := ⟨_, rfl⟩
        rw [← hzl] at a4
        rw [← hol] at b4
        obtain ⟨zh, hzh⟩ : ∃ s, s = z.hash := ⟨_, rfl⟩
        obtain ⟨oh, hoh⟩ : ∃ s, s = o.hash := ⟨_, rfl⟩
        have HPZ := Lib.hid (fun W => print_at zl zh W (by rw [hzl, ks_bs, hzh, Tr.hash_last]) (by rw [hzl, bs_size]; have := last_size z (Tr.wf_sz HW.out.2.2.2.2.2.2.2.1); omega))
        have HPO := Lib.hid (fun W => print_at ol oh W (by rw [hol, ks_bs, hoh, Tr.hash_last]) (by rw [hol, bs_size]; have := last_size o (Tr.wf_sz HW.out.2.2.2.2.2.2.2.2); omega))
        obtain ⟨D, hD⟩ : ∃ D : ByteArray, D = ⟨[UInt8.ofNat 0, UInt8.ofNat p].toArray⟩ := ⟨_, rfl⟩
        have hDs : D.size = 2 := by rw [hD]; rfl
        have hks : k.size = 32 := Tr.wf_key HW.out
        have hzs : zh.size = 32 := by rw [hzh]; exact Tr.hash_size _
        have hos : oh.size = 32 := by rw [hoh]; exact Tr.hash_size _
        have hpp : p < 256 := HW.out.1
        have HTX := Lib.hid (show (⟨#[1]⟩ : ByteArray) ++ D ++ k ++ zh ++ oh = bs (Tr.fork p k z o).last by rw [hD, hzh, hoh]; exact fork_five p k _ _ hpp)
        have hconv : ∀ (W : World) (gx : Nat), W.heap[gx]? = some (.cells #[.int .u8 0, .int .u8 (p : Int)] 5 (0, 0)) → (convert 99 9 (.slice (some ⟨gx, 0, none⟩) 2 2)).run Tryz.prog W = .ok (.string D) W := fun W gx h => by
          rw [hD]
          refine run_string_block (P := Tryz.prog) (w := W) Tryz.underlying99 Tryz.underlying5 Tryz.underlying9 gx 2 [UInt8.ofNat 0, UInt8.ofNat p] ?_
          rw [h]
          have : p % 256 = p := by omega
          simp [byteV, this]
        have s1 : ¬ 9223372036854775807 < 1 + D.size := by omega
        have s2 : ¬ 9223372036854775807 < 1 + D.size + k.size := by omega
        have s3 : ¬ 9223372036854775807 < 1 + D.size + k.size + zh.size := by omega
        have s4 : ¬ 9223372036854775807 < 1 + D.size + k.size + zh.size + oh.size := by omega
        have t1 : (p : Int) / 256 = 0 := by omega
        have t2 : (p : Int).tmod 256 = (p : Int) := by rw [Int.tmod_eq_emod_of_nonneg hp0]; omega
        have t2b : (p : Int).tdiv 256 = 0 := by rw [Int.tdiv_eq_ediv_of_nonneg hp0]; omega
        have t3 : IntKind.u8.wrap (p : Int) = (p : Int) := by rw [IntKind.wrap_u8]; omega
        have t4 : IntKind.i64.wrap (p : Int) = (p : Int) := IntWalk.i64_in _ (by omega)
        have t5 : IntKind.i64.wrap (((ma + 1 : Nat) : Int) - 1) = (ma : Int) := by
          rw [show ((ma + 1 : Nat) : Int) - 1 = (ma : Int) by omega]; exact IntWalk.i64_in _ (by have := HZL.out; unfold Tr.txs at hma; rw [List.length_map] at hma; have := HNZ.out; have := HZN.out; omega)
        have t6 : IntKind.i64.wrap (((mb + 1 : Nat) : Int) - 1) = (mb : Int) := by
          rw [show ((mb + 1 : Nat) : Int) - 1 = (mb : Int) by omega]; exact IntWalk.i64_in _ (by have := HOL.out; unfold Tr.txs at hmb; rw [List.length_map] at hmb; have := HNO.out; have := HLZ.out; have := HZN.out; omega)
        have u1 : IntKind.i64.wrap 0 = 0 := by decide
        have u2 : IntKind.u8.wrap 0 = 0 := by decide
        have u3 : ¬ N = 0 := by have := HZN.out; omega
        have u4 : IntKind.i64.wrap (ma : Int) = (ma : Int) := IntWalk.i64_in _ (by have := HZL.out; unfold Tr.txs at hma; rw [List.length_map] at hma; have := HNZ.out; have := HZN.out; omega)
        have u5 : IntKind.i64.wrap (mb : Int) = (mb : Int) := IntWalk.i64_in _ (by have := HOL.out; unfold Tr.txs at hmb; rw [List.length_map] at hmb; have := HNO.out; have := HLZ.out; have := HZN.out; omega)
        have u6 : ¬ ((ma : Int) + 1 ≤ (ma : Int)) := by omega
        have u7 : ¬ ((mb : Int) + 1 ≤ (mb : Int)) := by omega
        have hgl4 : g < w4.heap.size := World.block_lt_of_cell? w4 _ e4
        have HMA := Lib.hid hma
        have HMB := Lib.hid hmb
        clear hzl hol hzh hoh hD hDs hks hzs hos hma hmb hac hbc hca hcb hga hgb
        go_upto_region 11 with fail
        go_cut [7] (fun s7 wx => s7 = .string ((⟨#[1]⟩ : ByteArray) ++ D ++ k ++ zh ++ oh) ∧ Below w4.heap.size w4 wx)
        case first =>
          refine wp_region_noPanic ?_
          refine wp_region_held_drew (S := fun w' => Below w4.heap.size w4 w') (by kernel_rfl) ((Below.refl _ _).drew) (fun hHeld => ?_)
          refine wpAnyH_take (i := 0) (v := .int .i64 (p : Int)) rfl (by kernel_rfl) (by kernel_rfl) (by kernel_rfl) (fun _ _ _ h => h) (.inl ⟨rfl, fun (w' : World) (hS : Below w4.heap.size w4 w') => by go_simp⟩) hHeld ?_
          try simp only [Act.put, List.getElem_toArray, List.getElem_cons_zero, List.setIfInBounds_toArray, List.set_cons_zero, List.set_cons_succ]
          refine wpAnyH_take (i := 1) (v := .int .i64 0) rfl (by kernel_rfl) (by kernel_rfl) (by kernel_rfl) (fun _ _ _ h => h) (.inl ⟨rfl, fun (w' : World) (hS : Below w4.heap.size w4 w') => by go_simp⟩) hHeld ?_
          try simp only [Act.put, List.getElem_toArray, List.getElem_cons_zero, List.getElem_cons_succ, List.setIfInBounds_toArray, List.set_cons_zero, List.set_cons_succ]
          refine wpAnyH_take (i := 2) (v := .int .u8 0) rfl (by kernel_rfl) (by kernel_rfl) (by kernel_rfl) (fun _ _ _ h => h) (.inl ⟨rfl, fun (w' : World) (hS : Below w4.heap.size w4 w') => by go_simp⟩) hHeld ?_
          try simp only [Act.put, List.getElem_toArray, List.getElem_cons_zero, List.getElem_cons_succ, List.setIfInBounds_toArray, List.set_cons_zero, List.set_cons_succ]
          refine wpAnyH_take (i := 3) (v := .int .i64 (p : Int)) rfl (by kernel_rfl) (by kernel_rfl) (by kernel_rfl) (fun _ _ _ h => h) (.inl ⟨rfl, fun (w' : World) (hS : Below w4.heap.size w4 w') => by go_simp⟩) hHeld ?_
          try simp only [Act.put, List.getElem_toArray, List.getElem_cons_zero, List.getElem_cons_succ, List.setIfInBounds_toArray, List.set_cons_zero, List.set_cons_succ]
          refine wpAnyH_take (i := 4) (v := .int .i64 (p : Int)) rfl (by kernel_rfl) (by kernel_rfl) (by kernel_rfl) (fun _ _ _ h => h) (.inl ⟨rfl, fun (w' : World) (hS : Below w4.heap.size w4 w') => by go_simp⟩) hHeld ?_
          try simp only [Act.put, List.getElem_toArray, List.getElem_cons_zero, List.getElem_cons_succ, List.setIfInBounds_toArray, List.set_cons_zero, List.set_cons_succ]
          refine wpAnyH_take (i := 5) (v := .int .u8 (p : Int)) rfl (by kernel_rfl) (by kernel_rfl) (by kernel_rfl) (fun _ _ _ h => h) (.inl ⟨rfl, fun (w' : World) (hS : Below w4.heap.size w4 w') => by go_simp⟩) hHeld ?_
          try simp only [Act.put, List.getElem_toArray, List.getElem_cons_zero, List.getElem_cons_succ, List.setIfInBounds_toArray, List.set_cons_zero, List.set_cons_succ]
          refine wpAnyH_take (i := 9) (v := .slice (some ⟨g, o0, none⟩) N c) rfl (by kernel_rfl) (by kernel_rfl) (by kernel_rfl) (fun _ _ _ h => h) (.inl ⟨rfl, fun (w' : World) (hS : Below w4.heap.size w4 w') => by go_simp⟩) hHeld ?_
          try simp only [Act.put, List.getElem_toArray, List.getElem_cons_zero, List.getElem_cons_succ, List.setIfInBounds_toArray, List.set_cons_zero, List.set_cons_succ]
          refine wpAnyH_take (i := 10) (v := .pointer (some ⟨g, o0, none⟩)) rfl (by kernel_rfl) (by kernel_rfl) (by kernel_rfl) (fun _ _ _ h => h) (.inl ⟨rfl, fun (w' : World) (hS : Below w4.heap.size w4 w') => by go_simp⟩) hHeld ?_
          try simp only [Act.put, List.getElem_toArray, List.getElem_cons_zero, List.getElem_cons_succ, List.setIfInBounds_toArray, List.set_cons_zero, List.set_cons_succ]
          refine wpAnyH_take (i := 11) (v := .pointer (some ⟨g, o0, none⟩)) rfl (by kernel_rfl) (by kernel_rfl) (by kernel_rfl) (fun _ _ _ h => h) (.inl ⟨rfl, fun (w' : World) (hS : Below w4.heap.size w4 w') => by go_simp⟩) hHeld ?_
          try simp only [Act.put, List.getElem_toArray, List.getElem_cons_zero, List.getElem_cons_succ, List.setIfInBounds_toArray, List.set_cons_zero, List.set_cons_succ]
          refine wpAnyH_take (i := 12) (v := .string z.head) rfl (by kernel_rfl) (by kernel_rfl) (by kernel_rfl) (fun _ _ _ h => h) (.inl ⟨rfl, fun (w' : World) (hS : Below w4.heap.size w4 w') => by
                              have xx := (hS.cell (p := ⟨g, o0, none⟩) hgl4).trans e4
                              go_simp⟩) hHeld ?_
          try simp only [Act.put, List.getElem_toArray, List.getElem_cons_zero, List.getElem_cons_succ, List.setIfInBounds_toArray, List.set_cons_zero, List.set_cons_succ]
          refine wpAnyH_take (i := 13) (v := .int .i64 (p : Int)) rfl (by kernel_rfl) (by kernel_rfl) (by kernel_rfl) (fun _ _ _ h => h) (.inl ⟨rfl, fun (w' : World) (hS : Below w4.heap.size w4 w') => by go_simp⟩) hHeld ?_
          try simp only [Act.put, List.getElem_toArray, List.getElem_cons_zero, List.getElem_cons_succ, List.setIfInBounds_toArray, List.set_cons_zero, List.set_cons_succ]
          refine wpAnyH_take (i := 16) (v := .slice (some ⟨ga, 0, none⟩) (ma + 1) ca) rfl (by kernel_rfl) (by kernel_rfl) (by kernel_rfl) (fun _ _ _ h => h) (.inl ⟨rfl, fun (w' : World) (hS : Below w4.heap.size w4 w') => by go_simp⟩) hHeld ?_
          try simp only [Act.put, List.getElem_toArray, List.getElem_cons_zero, List.getElem_cons_succ, List.setIfInBounds_toArray, List.set_cons_zero, List.set_cons_succ]
          refine wpAnyH_take (i := 17) (v := .slice (some ⟨ga, 0, none⟩) (ma + 1) ca) rfl (by kernel_rfl) (by kernel_rfl) (by kernel_rfl) (fun _ _ _ h => h) (.inl ⟨rfl, fun (w' : World) (hS : Below w4.heap.size w4 w') => by go_simp⟩) hHeld ?_
          try simp only [Act.put, List.getElem_toArray, List.getElem_cons_zero, List.getElem_cons_succ, List.setIfInBounds_toArray, List.set_cons_zero, List.set_cons_succ]
          refine wpAnyH_take (i := 18) (v := .int .i64 ((ma + 1 : Nat) : Int)) rfl (by kernel_rfl) (by kernel_rfl) (by kernel_rfl) (fun _ _ _ h => h) (.inl ⟨rfl, fun (w' : World) (hS : Below w4.heap.size w4 w') => by go_simp⟩) hHeld ?_
          try simp only [Act.put, List.getElem_toArray, List.getElem_cons_zero, List.getElem_cons_succ, List.setIfInBounds_toArray, List.set_cons_zero, List.set_cons_succ]
          refine wpAnyH_take (i := 19) (v := .int .i64 (ma : Int)) rfl (by kernel_rfl) (by kernel_rfl) (by kernel_rfl) (fun _ _ _ h => h) (.inl ⟨rfl, fun (w' : World) (hS : Below w4.heap.size w4 w') => by go_simp⟩) hHeld ?_
          try simp only [Act.put, List.getElem_toArray, List.getElem_cons_zero, List.getElem_cons_succ, List.setIfInBounds_toArray, List.set_cons_zero, List.set_cons_succ]
          refine wpAnyH_take (i := 20) (v := .pointer (some ⟨ga, ma, none⟩)) rfl (by kernel_rfl) (by kernel_rfl) (by kernel_rfl) (fun _ _ _ h => h) (.inl ⟨rfl, fun (w' : World) (hS : Below w4.heap.size w4 w') => by go_simp⟩) hHeld ?_
          try simp only [Act.put, List.getElem_toArray, List.getElem_cons_zero, List.getElem_cons_succ, List.setIfInBounds_toArray, List.set_cons_zero, List.set_cons_succ]
          refine wpAnyH_take (i := 21) (v := .string zl) rfl (by kernel_rfl) (by kernel_rfl) (by kernel_rfl) (fun _ _ _ h => h) (.inl ⟨rfl, fun (w' : World) (hS : Below w4.heap.size w4 w') => by
                              have xx := (hS.cell (p := ⟨ga, ma, none⟩) hgl).trans a4
                              go_simp⟩) hHeld ?_
          try simp only [Act.put, List.getElem_toArray, List.getElem_cons_zero, List.getElem_cons_succ, List.setIfInBounds_toArray, List.set_cons_zero, List.set_cons_succ]
          refine wpAnyH_take (i := 24) (v := .slice (some ⟨gb, 0, none⟩) (mb + 1) cb) rfl (by kernel_rfl) (by kernel_rfl) (by kernel_rfl) (fun _ _ _ h => h) (.inl ⟨rfl, fun (w' : World) (hS : Below w4.heap.size w4 w') => by go_simp⟩) hHeld ?_
          try simp only [Act.put, List.getElem_toArray, List.getElem_cons_zero, List.getElem_cons_succ, List.setIfInBounds_toArray, List.set_cons_zero, List.set_cons_succ]
          refine wpAnyH_take (i := 25) (v := .slice (some ⟨gb, 0, none⟩) (mb + 1) cb) rfl (by kernel_rfl) (by kernel_rfl) (by kernel_rfl) (fun _ _ _ h => h) (.inl ⟨rfl, fun (w' : World) (hS : Below w4.heap.size w4 w') => by go_simp⟩) hHeld ?_
          try simp only [Act.put, List.getElem_toArray, List.getElem_cons_zero, List.getElem_cons_succ, List.setIfInBounds_toArray, List.set_cons_zero, List.set_cons_succ]
          refine wpAnyH_take (i := 26) (v := .int .i64 ((mb + 1 : Nat) : Int)) rfl (by kernel_rfl) (by kernel_rfl) (by kernel_rfl) (fun _ _ _ h => h) (.inl ⟨rfl, fun (w' : World) (hS : Below w4.heap.size w4 w') => by go_simp⟩) hHeld ?_
          try simp only [Act.put, List.getElem_toArray, List.getElem_cons_zero, List.getElem_cons_succ, List.setIfInBounds_toArray, List.set_cons_zero, List.set_cons_succ]
          refine wpAnyH_take (i := 27) (v := .int .i64 (mb : Int)) rfl (by kernel_rfl) (by kernel_rfl) (by kernel_rfl) (fun _ _ _ h => h) (.inl ⟨rfl, fun (w' : World) (hS : Below w4.heap.size w4 w') => by go_simp⟩) hHeld ?_
          try simp only [Act.put, List.getElem_toArray, List.getElem_cons_zero, List.getElem_cons_succ, List.setIfInBounds_toArray, List.set_cons_zero, List.set_cons_succ]
          refine wpAnyH_take (i := 28) (v := .pointer (some ⟨gb, mb, none⟩)) rfl (by kernel_rfl) (by kernel_rfl) (by kernel_rfl) (fun _ _ _ h => h) (.inl ⟨rfl, fun (w' : World) (hS : Below w4.heap.size w4 w') => by go_simp⟩) hHeld ?_
          try simp only [Act.put, List.getElem_toArray, List.getElem_cons_zero, List.getElem_cons_succ, List.setIfInBounds_toArray, List.set_cons_zero, List.set_cons_succ]
          refine wpAnyH_take (i := 29) (v := .string ol) rfl (by kernel_rfl) (by kernel_rfl) (by kernel_rfl) (fun _ _ _ h => h) (.inl ⟨rfl, fun (w' : World) (hS : Below w4.heap.size w4 w') => by
                              have xx := (hS.cell (p := ⟨gb, mb, none⟩) hgbl).trans b4
                              go_simp⟩) hHeld ?_
          try simp only [Act.put, List.getElem_toArray, List.getElem_cons_zero, List.getElem_cons_succ, List.setIfInBounds_toArray, List.set_cons_zero, List.set_cons_succ]
          generalize w4.drew = V0 at hHeld ⊢
          have sz0 := hHeld.size
          refine wpAnyH_ready (rs := [6, 14]) (by kernel_rfl) (by simp) ?_
          refine AllReadyH.cons rfl (fun K hK => ?_) ?_
          ·
            try simp only [Act.put, List.getElem_toArray, List.getElem_cons_zero, List.getElem_cons_succ, List.setIfInBounds_toArray, List.set_cons_zero, List.set_cons_succ]
            go_simp
            refine hK.out _ _ (hHeld.alloc hHeld.size _) (fun _ => ?_)
            clear hK K
            try simp only [Act.put, List.getElem_toArray, List.getElem_cons_zero, List.getElem_cons_succ, List.setIfInBounds_toArray, List.set_cons_zero, List.set_cons_succ]
            refine named (M := wpAnyH _ _ _ _ _ _ _ _) ?_
            intro W1 hk3 hb2 sz4
            have H5 := hHeld.trans (hb2.mono hHeld.size)
            refine wpAnyH_mono (S' := fun w' => Below W1.heap.size W1 w') (fun w' h => H5.trans (h.mono H5.size)) ?_
            have G6 := Below.refl W1.heap.size W1
            refine wpAnyH_take (i := 7) (v := .string D) rfl (by kernel_rfl) (by kernel_rfl) (by kernel_rfl) (fun _ _ _ h => h) (.inl ⟨rfl, fun (w' : World) (hS : Below W1.heap.size W1 w') => by
                have xb := (hS.block V0.heap.size (by omega)).trans hk3
                have xc := hconv w' V0.heap.size xb
                go_simp⟩) G6 ?_
            try simp only [Act.put, List.getElem_toArray, List.getElem_cons_zero, List.getElem_cons_succ, List.setIfInBounds_toArray, List.set_cons_zero, List.set_cons_succ]
            clear hk3
            refine wpAnyH_take (i := 8) (v := .string ((⟨#[1]⟩ : ByteArray) ++ D)) rfl (by kernel_rfl) (by kernel_rfl) (by kernel_rfl) (fun _ _ _ h => h) (.inl ⟨rfl, fun (w' : World) (hS : Below W1.heap.size W1 w') => by go_simp⟩) G6 ?_
            try simp only [Act.put, List.getElem_toArray, List.getElem_cons_zero, List.getElem_cons_succ, List.setIfInBounds_toArray, List.set_cons_zero, List.set_cons_succ]
            refine wpAnyH_ready (rs := [14]) (by kernel_rfl) (by simp) ?_
            refine AllReadyH.cons rfl (fun K hK => ?_) AllReadyH.nil
            try simp only [Act.put, List.getElem_toArray, List.getElem_cons_zero, List.getElem_cons_succ, List.setIfInBounds_toArray, List.set_cons_zero, List.set_cons_succ]
            go_simp
            go_at_call 56; refine (hFI.out _).mono ?_; rintro e W7 ⟨rfl, hb8⟩
            go_wp2_with fail
            have H9 := G6.trans (hb8.mono G6.size)
            refine hK.out _ _ H9 (fun _ => ?_)
            clear hK K
            try simp only [Act.put, List.getElem_toArray, List.getElem_cons_zero, List.getElem_cons_succ, List.setIfInBounds_toArray, List.set_cons_zero, List.set_cons_succ]
            refine wpAnyH_take (i := 15) (v := .string ((⟨#[1]⟩ : ByteArray) ++ D ++ k)) rfl (by kernel_rfl) (by kernel_rfl) (by kernel_rfl) (fun _ _ _ h => h) (.inl ⟨rfl, fun (w' : World) (hS : Below W1.heap.size W1 w') => by go_simp⟩) H9 ?_
            try simp only [Act.put, List.getElem_toArray, List.getElem_cons_zero, List.getElem_cons_succ, List.setIfInBounds_toArray, List.set_cons_zero, List.set_cons_succ]
            refine wpAnyH_ready (rs := [22]) (by kernel_rfl) (by simp) ?_
            refine AllReadyH.cons rfl (fun K hK => ?_) AllReadyH.nil
            try simp only [Act.put, List.getElem_toArray, List.getElem_cons_zero, List.getElem_cons_succ, List.setIfInBounds_toArray, List.set_cons_zero, List.set_cons_succ]
            go_simp
            go_at_call 52; refine (HPZ.out _).mono ?_; rintro e W10 ⟨rfl, hb11⟩
            go_wp2_with fail
            have H12 := H9.trans (hb11.mono H9.size)
            refine hK.out _ _ H12 (fun _ => ?_)
            clear hK K
            try simp only [Act.put, List.getElem_toArray, List.getElem_cons_zero, List.getElem_cons_succ, List.setIfInBounds_toArray, List.set_cons_zero, List.set_cons_succ]
            refine wpAnyH_take (i := 23) (v := .string ((⟨#[1]⟩ : ByteArray) ++ D ++ k ++ zh)) rfl (by kernel_rfl) (by kernel_rfl) (by kernel_rfl) (fun _ _ _ h => h) (.inl ⟨rfl, fun (w' : World) (hS : Below W1.heap.size W1 w') => by go_simp⟩) H12 ?_
            try simp only [Act.put, List.getElem_toArray, List.getElem_cons_zero, List.getElem_cons_succ, List.setIfInBounds_toArray, List.set_cons_zero, List.set_cons_succ]
            refine wpAnyH_ready (rs := [30]) (by kernel_rfl) (by simp) ?_
            refine AllReadyH.cons rfl (fun K hK => ?_) AllReadyH.nil
            try simp only [Act.put, List.getElem_toArray, List.getElem_cons_zero, List.getElem_cons_succ, List.setIfInBounds_toArray, List.set_cons_zero, List.set_cons_succ]
            go_simp
            go_at_call 52; refine (HPO.out _).mono ?_; rintro e W13 ⟨rfl, hb14⟩
            go_wp2_with fail
            have H15 := H12.trans (hb14.mono H12.size)
            refine hK.out _ _ H15 (fun _ => ?_)
            clear hK K
            try simp only [Act.put, List.getElem_toArray, List.getElem_cons_zero, List.getElem_cons_succ, List.setIfInBounds_toArray, List.set_cons_zero, List.set_cons_succ]
            refine wpAnyH_take (i := 31) (v := .string ((⟨#[1]⟩ : ByteArray) ++ D ++ k ++ zh ++ oh)) rfl (by kernel_rfl) (by kernel_rfl) (by kernel_rfl) (fun _ _ _ h => h) (.inl ⟨rfl, fun (w' : World) (hS : Below W1.heap.size W1 w') => by go_simp⟩) H15 ?_
            try simp only [Act.put, List.getElem_toArray, List.getElem_cons_zero, List.getElem_cons_succ, List.setIfInBounds_toArray, List.set_cons_zero, List.set_cons_succ]
            refine wpAnyH_take (i := 32) (v := .string ((⟨#[1]⟩ : ByteArray) ++ D ++ k ++ zh ++ oh)) rfl (by kernel_rfl) (by kernel_rfl) (by kernel_rfl) (fun _ _ _ h => h) (.inl ⟨rfl, fun (w' : World) (hS : Below W1.heap.size W1 w') => by go_simp⟩) H15 ?_
            try simp only [Act.put, List.getElem_toArray, List.getElem_cons_zero, List.getElem_cons_succ, List.setIfInBounds_toArray, List.set_cons_zero, List.set_cons_succ]
            refine wpAnyH_done (by kernel_rfl) ?_ _
            refine NoPanic.normal ?_
            go_wp2_with fail
            go_meet
            exact ⟨rfl, (H5.trans (H15.mono H5.size))⟩
          refine AllReadyH.cons rfl (fun K hK => ?_) AllReadyH.nil
          try simp only [Act.put, List.getElem_toArray, List.getElem_cons_zero, List.getElem_cons_succ, List.setIfInBounds_toArray, List.set_cons_zero, List.set_cons_succ]
          go_simp
          go_at_call 56; refine (hFI.out _).mono ?_; rintro e W16 ⟨rfl, hb17⟩
          go_wp2_with fail
          have H18 := hHeld.trans (hb17.mono hHeld.size)
          refine hK.out _ _ H18 (fun _ => ?_)
          clear hK K
          try simp only [Act.put, List.getElem_toArray, List.getElem_cons_zero, List.getElem_cons_succ, List.setIfInBounds_toArray, List.set_cons_zero, List.set_cons_succ]
          refine wpAnyH_ready (rs := [6, 22]) (by kernel_rfl) (by simp) ?_
          refine AllReadyH.cons rfl (fun K hK => ?_) ?_
          ·
            try simp only [Act.put, List.getElem_toArray, List.getElem_cons_zero, List.getElem_cons_succ, List.setIfInBounds_toArray, List.set_cons_zero, List.set_cons_succ]
            go_simp
            refine hK.out _ _ (H18.alloc H18.size _) (fun _ => ?_)
            clear hK K
            try simp only [Act.put, List.getElem_toArray, List.getElem_cons_zero, List.getElem_cons_succ, List.setIfInBounds_toArray, List.set_cons_zero, List.set_cons_succ]
            refine named (M := wpAnyH _ _ _ _ _ _ _ _) ?_
            intro W19 hk21 hb20 sz22
            have H23 := H18.trans (hb20.mono H18.size)
            refine wpAnyH_mono (S' := fun w' => Below W19.heap.size W19 w') (fun w' h => H23.trans (h.mono H23.size)) ?_
            have G24 := Below.refl W19.heap.size W19
            refine wpAnyH_take (i := 7) (v := .string D) rfl (by kernel_rfl) (by kernel_rfl) (by kernel_rfl) (fun _ _ _ h => h) (.inl ⟨rfl, fun (w' : World) (hS : Below W19.heap.size W19 w') => by
                have xb := (hS.block W16.heap.size (by omega)).trans hk21
                have xc := hconv w' W16.heap.size xb
                go_simp⟩) G24 ?_
            try simp only [Act.put, List.getElem_toArray, List.getElem_cons_zero, List.getElem_cons_succ, List.setIfInBounds_toArray, List.set_cons_zero, List.set_cons_succ]
            clear hk21
            refine wpAnyH_take (i := 8) (v := .string ((⟨#[1]⟩ : ByteArray) ++ D)) rfl (by kernel_rfl) (by kernel_rfl) (by kernel_rfl) (fun _ _ _ h => h) (.inl ⟨rfl, fun (w' : World) (hS : Below W19.heap.size W19 w') => by go_simp⟩) G24 ?_
            try simp only [Act.put, List.getElem_toArray, List.getElem_cons_zero, List.getElem_cons_succ, List.setIfInBounds_toArray, List.set_cons_zero, List.set_cons_succ]
            refine wpAnyH_take (i := 15) (v := .string ((⟨#[1]⟩ : ByteArray) ++ D ++ k)) rfl (by kernel_rfl) (by kernel_rfl) (by kernel_rfl) (fun _ _ _ h => h) (.inl ⟨rfl, fun (w' : World) (hS : Below W19.heap.size W19 w') => by go_simp⟩) G24 ?_
            try simp only [Act.put, List.getElem_toArray, List.getElem_cons_zero, List.getElem_cons_succ, List.setIfInBounds_toArray, List.set_cons_zero, List.set_cons_succ]
            refine wpAnyH_ready (rs := [22]) (by kernel_rfl) (by simp) ?_
            refine AllReadyH.cons rfl (fun K hK => ?_) AllReadyH.nil
            try simp only [Act.put, List.getElem_toArray, List.getElem_cons_zero, List.getElem_cons_succ, List.setIfInBounds_toArray, List.set_cons_zero, List.set_cons_succ]
            go_simp
            go_at_call 52; refine (HPZ.out _).mono ?_; rintro e W25 ⟨rfl, hb26⟩
            go_wp2_with fail
            have H27 := G24.trans (hb26.mono G24.size)
            refine hK.out _ _ H27 (fun _ => ?_)
            clear hK K
            try simp only [Act.put, List.getElem_toArray, List.getElem_cons_zero, List.getElem_cons_succ, List.setIfInBounds_toArray, List.set_cons_zero, List.set_cons_succ]
            refine wpAnyH_take (i := 23) (v := .string ((⟨#[1]⟩ : ByteArray) ++ D ++ k ++ zh)) rfl (by kernel_rfl) (by kernel_rfl) (by kernel_rfl) (fun _ _ _ h => h) (.inl ⟨rfl, fun (w' : World) (hS : Below W19.heap.size W19 w') => by go_simp⟩) H27 ?_
            try simp only [Act.put, List.getElem_toArray, List.getElem_cons_zero, List.getElem_cons_succ, List.setIfInBounds_toArray, List.set_cons_zero, List.set_cons_succ]
            refine wpAnyH_ready (rs := [30]) (by kernel_rfl) (by simp) ?_
            refine AllReadyH.cons rfl (fun K hK => ?_) AllReadyH.nil
            try simp only [Act.put, List.getElem_toArray, List.getElem_cons_zero, List.getElem_cons_succ, List.setIfInBounds_toArray, List.set_cons_zero, List.set_cons_succ]
            go_simp
            go_at_call 52; refine (HPO.out _).mono ?_; rintro e W28 ⟨rfl, hb29⟩
            go_wp2_with fail
            have H30 := H27.trans (hb29.mono H27.size)
            refine hK.out _ _ H30 (fun _ => ?_)
            clear hK K
            try simp only [Act.put, List.getElem_toArray, List.getElem_cons_zero, List.getElem_cons_succ, List.setIfInBounds_toArray, List.set_cons_zero, List.set_cons_succ]
            refine wpAnyH_take (i := 31) (v := .string ((⟨#[1]⟩ : ByteArray) ++ D ++ k ++ zh ++ oh)) rfl (by kernel_rfl) (by kernel_rfl) (by kernel_rfl) (fun _ _ _ h => h) (.inl ⟨rfl, fun (w' : World) (hS : Below W19.heap.size W19 w') => by go_simp⟩) H30 ?_
            try simp only [Act.put, List.getElem_toArray, List.getElem_cons_zero, List.getElem_cons_succ, List.setIfInBounds_toArray, List.set_cons_zero, List.set_cons_succ]
            refine wpAnyH_take (i := 32) (v := .string ((⟨#[1]⟩ : ByteArray) ++ D ++ k ++ zh ++ oh)) rfl (by kernel_rfl) (by kernel_rfl) (by kernel_rfl) (fun _ _ _ h => h) (.inl ⟨rfl, fun (w' : World) (hS : Below W19.heap.size W19 w') => by go_simp⟩) H30 ?_
            try simp only [Act.put, List.getElem_toArray, List.getElem_cons_zero, List.getElem_cons_succ, List.setIfInBounds_toArray, List.set_cons_zero, List.set_cons_succ]
            refine wpAnyH_done (by kernel_rfl) ?_ _
            refine NoPanic.normal ?_
            go_wp2_with fail
            go_meet
            exact ⟨rfl, (H23.trans (H30.mono H23.size))⟩
          refine AllReadyH.cons rfl (fun K hK => ?_) AllReadyH.nil
          try simp only [Act.put, List.getElem_toArray, List.getElem_cons_zero, List.getElem_cons_succ, List.setIfInBounds_toArray, List.set_cons_zero, List.set_cons_succ]
          go_simp
          go_at_call 52; refine (HPZ.out _).mono ?_; rintro e W31 ⟨rfl, hb32⟩
          go_wp2_with fail
          have H33 := H18.trans (hb32.mono H18.size)
          refine hK.out _ _ H33 (fun _ => ?_)
          clear hK K
          try simp only [Act.put, List.getElem_toArray, List.getElem_cons_zero, List.getElem_cons_succ, List.setIfInBounds_toArray, List.set_cons_zero, List.set_cons_succ]
          refine wpAnyH_ready (rs := [6, 30]) (by kernel_rfl) (by simp) ?_
          refine AllReadyH.cons rfl (fun K hK => ?_) ?_
          ·
            try simp only [Act.put, List.getElem_toArray, List.getElem_cons_zero, List.getElem_cons_succ, List.setIfInBounds_toArray, List.set_cons_zero, List.set_cons_succ]
            go_simp
            refine hK.out _ _ (H33.alloc H33.size _) (fun _ => ?_)
            clear hK K
            try simp only [Act.put, List.getElem_toArray, List.getElem_cons_zero, List.getElem_cons_succ, List.setIfInBounds_toArray, List.set_cons_zero, List.set_cons_succ]
            refine named (M := wpAnyH _ _ _ _ _ _ _ _) ?_
            intro W34 hk36 hb35 sz37
            have H38 := H33.trans (hb35.mono H33.size)
            refine wpAnyH_mono (S' := fun w' => Below W34.heap.size W34 w') (fun w' h => H38.trans (h.mono H38.size)) ?_
            have G39 := Below.refl W34.heap.size W34
            refine wpAnyH_take (i := 7) (v := .string D) rfl (by kernel_rfl) (by kernel_rfl) (by kernel_rfl) (fun _ _ _ h => h) (.inl ⟨rfl, fun (w' : World) (hS : Below W34.heap.size W34 w') => by
                have xb := (hS.block W31.heap.size (by omega)).trans hk36
                have xc := hconv w' W31.heap.size xb
                go_simp⟩) G39 ?_
            try simp only [Act.put, List.getElem_toArray, List.getElem_cons_zero, List.getElem_cons_succ, List.setIfInBounds_toArray, List.set_cons_zero, List.set_cons_succ]
            clear hk36
            refine wpAnyH_take (i := 8) (v := .string ((⟨#[1]⟩ : ByteArray) ++ D)) rfl (by kernel_rfl) (by kernel_rfl) (by kernel_rfl) (fun _ _ _ h => h) (.inl ⟨rfl, fun (w' : World) (hS : Below W34.heap.size W34 w') => by go_simp⟩) G39 ?_
            try simp only [Act.put, List.getElem_toArray, List.getElem_cons_zero, List.getElem_cons_succ, List.setIfInBounds_toArray, List.set_cons_zero, List.set_cons_succ]
            refine wpAnyH_take (i := 15) (v := .string ((⟨#[1]⟩ : ByteArray) ++ D ++ k)) rfl (by kernel_rfl) (by kernel_rfl) (by kernel_rfl) (fun _ _ _ h => h) (.inl ⟨rfl, fun (w' : World) (hS : Below W34.heap.size W34 w') => by go_simp⟩) G39 ?_
            try simp only [Act.put, List.getElem_toArray, List.getElem_cons_zero, List.getElem_cons_succ, List.setIfInBounds_toArray, List.set_cons_zero, List.set_cons_succ]
            refine wpAnyH_take (i := 23) (v := .string ((⟨#[1]⟩ : ByteArray) ++ D ++ k ++ zh)) rfl (by kernel_rfl) (by kernel_rfl) (by kernel_rfl) (fun _ _ _ h => h) (.inl ⟨rfl, fun (w' : World) (hS : Below W34.heap.size W34 w') => by go_simp⟩) G39 ?_
            try simp only [Act.put, List.getElem_toArray, List.getElem_cons_zero, List.getElem_cons_succ, List.setIfInBounds_toArray, List.set_cons_zero, List.set_cons_succ]
            refine wpAnyH_ready (rs := [30]) (by kernel_rfl) (by simp) ?_
            refine AllReadyH.cons rfl (fun K hK => ?_) AllReadyH.nil
            try simp only [Act.put, List.getElem_toArray, List.getElem_cons_zero, List.getElem_cons_succ, List.setIfInBounds_toArray, List.set_cons_zero, List.set_cons_succ]
            go_simp
            go_at_call 52; refine (HPO.out _).mono ?_; rintro e W40 ⟨rfl, hb41⟩
            go_wp2_with fail
            have H42 := G39.trans (hb41.mono G39.size)
            refine hK.out _ _ H42 (fun _ => ?_)
            clear hK K
            try simp only [Act.put, List.getElem_toArray, List.getElem_cons_zero, List.getElem_cons_succ, List.setIfInBounds_toArray, List.set_cons_zero, List.set_cons_succ]
            refine wpAnyH_take (i := 31) (v := .string ((⟨#[1]⟩ : ByteArray) ++ D ++ k ++ zh ++ oh)) rfl (by kernel_rfl) (by kernel_rfl) (by kernel_rfl) (fun _ _ _ h => h) (.inl ⟨rfl, fun (w' : World) (hS : Below W34.heap.size W34 w') => by go_simp⟩) H42 ?_
            try simp only [Act.put, List.getElem_toArray, List.getElem_cons_zero, List.getElem_cons_succ, List.setIfInBounds_toArray, List.set_cons_zero, List.set_cons_succ]
            refine wpAnyH_take (i := 32) (v := .string ((⟨#[1]⟩ : ByteArray) ++ D ++ k ++ zh ++ oh)) rfl (by kernel_rfl) (by kernel_rfl) (by kernel_rfl) (fun _ _ _ h => h) (.inl ⟨rfl, fun (w' : World) (hS : Below W34.heap.size W34 w') => by go_simp⟩) H42 ?_
            try simp only [Act.put, List.getElem_toArray, List.getElem_cons_zero, List.getElem_cons_succ, List.setIfInBounds_toArray, List.set_cons_zero, List.set_cons_succ]
            refine wpAnyH_done (by kernel_rfl) ?_ _
            refine NoPanic.normal ?_
            go_wp2_with fail
            go_meet
            exact ⟨rfl, (H38.trans (H42.mono H38.size))⟩
          refine AllReadyH.cons rfl (fun K hK => ?_) AllReadyH.nil
          try simp only [Act.put, List.getElem_toArray, List.getElem_cons_zero, List.getElem_cons_succ, List.setIfInBounds_toArray, List.set_cons_zero, List.set_cons_succ]
          go_simp
          go_at_call 52; refine (HPO.out _).mono ?_; rintro e W43 ⟨rfl, hb44⟩
          go_wp2_with fail
          have H45 := H33.trans (hb44.mono H33.size)
          refine hK.out _ _ H45 (fun _ => ?_)
          clear hK K
          try simp only [Act.put, List.getElem_toArray, List.getElem_cons_zero, List.getElem_cons_succ, List.setIfInBounds_toArray, List.set_cons_zero, List.set_cons_succ]
          refine wpAnyH_ready (rs := [6]) (by kernel_rfl) (by simp) ?_
          refine AllReadyH.cons rfl (fun K hK => ?_) AllReadyH.nil
          try simp only [Act.put, List.getElem_toArray, List.getElem_cons_zero, List.getElem_cons_succ, List.setIfInBounds_toArray, List.set_cons_zero, List.set_cons_succ]
          go_simp
          refine hK.out _ _ (H45.alloc H45.size _) (fun _ => ?_)
          clear hK K
          try simp only [Act.put, List.getElem_toArray, List.getElem_cons_zero, List.getElem_cons_succ, List.setIfInBounds_toArray, List.set_cons_zero, List.set_cons_succ]
          refine named (M := wpAnyH _ _ _ _ _ _ _ _) ?_
          intro W46 hk48 hb47 sz49
          have H50 := H45.trans (hb47.mono H45.size)
          refine wpAnyH_mono (S' := fun w' => Below W46.heap.size W46 w') (fun w' h => H50.trans (h.mono H50.size)) ?_
          have G51 := Below.refl W46.heap.size W46
          refine wpAnyH_take (i := 7) (v := .string D) rfl (by kernel_rfl) (by kernel_rfl) (by kernel_rfl) (fun _ _ _ h => h) (.inl ⟨rfl, fun (w' : World) (hS : Below W46.heap.size W46 w') => by
              have xb := (hS.block W43.heap.size (by omega)).trans hk48
              have xc := hconv w' W43.heap.size xb
              go_simp⟩) G51 ?_
          try simp only [Act.put, List.getElem_toArray, List.getElem_cons_zero, List.getElem_cons_succ, List.setIfInBounds_toArray, List.set_cons_zero, List.set_cons_succ]
          clear hk48
          refine wpAnyH_take (i := 8) (v := .string ((⟨#[1]⟩ : ByteArray) ++ D)) rfl (by kernel_rfl) (by kernel_rfl) (by kernel_rfl) (fun _ _ _ h => h) (.inl ⟨rfl, fun (w' : World) (hS : Below W46.heap.size W46 w') => by go_simp⟩) G51 ?_
          try simp only [Act.put, List.getElem_toArray, List.getElem_cons_zero, List.getElem_cons_succ, List.setIfInBounds_toArray, List.set_cons_zero, List.set_cons_succ]
          refine wpAnyH_take (i := 15) (v := .string ((⟨#[1]⟩ : ByteArray) ++ D ++ k)) rfl (by kernel_rfl) (by kernel_rfl) (by kernel_rfl) (fun _ _ _ h => h) (.inl ⟨rfl, fun (w' : World) (hS : Below W46.heap.size W46 w') => by go_simp⟩) G51 ?_
          try simp only [Act.put, List.getElem_toArray, List.getElem_cons_zero, List.getElem_cons_succ, List.setIfInBounds_toArray, List.set_cons_zero, List.set_cons_succ]
          refine wpAnyH_take (i := 23) (v := .string ((⟨#[1]⟩ : ByteArray) ++ D ++ k ++ zh)) rfl (by kernel_rfl) (by kernel_rfl) (by kernel_rfl) (fun _ _ _ h => h) (.inl ⟨rfl, fun (w' : World) (hS : Below W46.heap.size W46 w') => by go_simp⟩) G51 ?_
          try simp only [Act.put, List.getElem_toArray, List.getElem_cons_zero, List.getElem_cons_succ, List.setIfInBounds_toArray, List.set_cons_zero, List.set_cons_succ]
          refine wpAnyH_take (i := 31) (v := .string ((⟨#[1]⟩ : ByteArray) ++ D ++ k ++ zh ++ oh)) rfl (by kernel_rfl) (by kernel_rfl) (by kernel_rfl) (fun _ _ _ h => h) (.inl ⟨rfl, fun (w' : World) (hS : Below W46.heap.size W46 w') => by go_simp⟩) G51 ?_
          try simp only [Act.put, List.getElem_toArray, List.getElem_cons_zero, List.getElem_cons_succ, List.setIfInBounds_toArray, List.set_cons_zero, List.set_cons_succ]
          refine wpAnyH_take (i := 32) (v := .string ((⟨#[1]⟩ : ByteArray) ++ D ++ k ++ zh ++ oh)) rfl (by kernel_rfl) (by kernel_rfl) (by kernel_rfl) (fun _ _ _ h => h) (.inl ⟨rfl, fun (w' : World) (hS : Below W46.heap.size W46 w') => by go_simp⟩) G51 ?_
          try simp only [Act.put, List.getElem_toArray, List.getElem_cons_zero, List.getElem_cons_succ, List.setIfInBounds_toArray, List.set_cons_zero, List.set_cons_succ]
          refine wpAnyH_done (by kernel_rfl) ?_ _
          refine NoPanic.normal ?_
          go_wp2_with fail
          go_meet
          exact ⟨rfl, (H50.trans (G51.mono H50.size))⟩
        case rest =>
          obtain ⟨rfl, hbx⟩ := hcut
          have HBX := Lib.hid hbx
          have HBwX := Lib.hid (HBw4.out.trans (hbx.mono HBw4.out.size))
          have SA := Lib.hid (SOwn.base (HO34.out.later hbx) HBSM.out.size)
          have SB := Lib.hid (HO4.out.later hbx)
          rw [HTX.out]
          have hla : z.txs.length + o.txs.length ≤ 1000 := by
            have h1 := HZL.out; have h2 := HOL.out; have h3 := HNZ.out; have h4 := HNO.out; have h5 := HLZ.out
            unfold Tr.txs; rw [List.length_map, List.length_map]; omega
          have HLA := Lib.hid hla
          clear hbx s1 s2 s3 s4 t1 t2 t2b t3 t4 t5 t6 u1 u2 u3 u4 u5 u6 u7 hconv hla e4 a4 b4
          go_wp2_with (at_builtin; first
            | (refine list_appN2 Tryz.strSl rfl _ _ rfl w.heap.size _ (z.txs.length + (mb + 1)) (z.txs.map Value.string ++ o.txs.map Value.string) rfl (World.ownsRow.alloc hown1.out _) (some ⟨w5.heap.size, 0, none⟩) 1 1 [.string (bs (Tr.fork p k z o).last)] rfl rfl (fun _ => ⟨w5.heap.size, 0, rfl, fun i u hi => by rw [Nat.zero_add]; exact one_cell w5 _ i u hi⟩) (by simp [Value.oneCell']) (by have := HLA.out; have := HMB.out; unfold maxLen; omega) (by have := HLA.out; have := HMB.out; omega) (by have := HB5.out.size; simp; omega) ?_; intro v6 w6 hown2' hgr2; have hown2 := Lib.hid hown2'; have HB6 := Lib.hid ((HB5.out.alloc HB5.out.size _).trans (hgr2.below (by have := HB5.out.size; simp; omega) (ownN_low hown1.out))))
            | (refine list_appN2 Tryz.strSl rfl _ _ rfl w.heap.size _ z.txs.length (z.txs.map Value.string) rfl SA.out (some ⟨gb, 0, none⟩) (mb + 1) cb (o.txs.map Value.string) rfl (by rw [List.length_map, HMB.out, Nat.mul_one]) (fun _ => ⟨gb, 0, rfl, fun i u hi => SOwn.cellsAt SB.out i u hi⟩) (strs_one _) (by have := HLA.out; have := HMB.out; unfold maxLen; omega) (by have := HLA.out; have := HMB.out; omega) HBwX.out.size ?_; intro v5 w5 hown1' hgr1; have hown1 := Lib.hid hown1'; have HB5 := Lib.hid (HBwX.out.trans (hgr1.below HBwX.out.size (SOwn.low SA.out)))))
          go_ret
          refine ⟨_, rfl, ?_, HB6.out⟩
          have e1 : (Tr.fork p k z o).txs = z.txs ++ o.txs ++ [bs (Tr.fork p k z o).last] := by
            unfold Tr.txs; rw [Tr.texts, List.map_append, List.map_append]; rfl
          have e2 := hown2.out
          rw [e1]
          unfold SOwn
          rw [List.length_append, List.length_append, HMB.out, List.map_append, List.map_append]
          exact e2
end Go.Proofs.YtmpjpaomgifpcaaGreatDoor
namespace Go.Proofs.YtmpjpaomgifpcaaGreatDoor
open Go.RowKit

set_option maxHeartbeats 1000000 in
theorem root_ref (m : Option Tr) (lv : Value) (w : World) (hm : MT.wf m) (hl : (MT.pairs m).length ≤ 100) (h : PSl w lv (MT.pairs m)) :
    Calls Tryz.prog 53 #[lv] w (StrRes w (MT.root m)) := by
  match m, hm, hl, h with
  | none, _, _, ⟨a, c, e, _, _⟩ => rw [e]; exact root_none a c w
  | some t, hm, hl, h =>
    have HT := Lib.hid (texts_ref t lv w hm hl h)
    obtain ⟨a0, c0, rfl, _, _⟩ := h
    have HTL := Lib.hid (texts_len t)
    have HP := Lib.hid (fun W => print_at (bs t.last) t.hash W (by rw [ks_bs, Tr.hash_last]) (by rw [bs_size]; have := last_size t (Tr.wf_sz hm); omega))
    obtain ⟨mt, hmt⟩ : ∃ m, t.txs.length = m + 1 := ⟨t.txs.length - 1, by unfold Tr.txs; rw [List.length_map]; have := HTL.out; have := List.length_pos_iff.2 t.pairs_ne; omega⟩
    have hmt2 : mt ≤ 400 := by
      have := HTL.out
      have h2 : t.texts.length = mt + 1 := by rw [← hmt]; unfold Tr.txs; rw [List.length_map]
      have h3 : t.pairs.length ≤ 100 := hl
      omega
    have hm0 : (0 : Int) ≤ (mt : Int) := by omega
    have hm1 : (mt : Int) ≤ 400 := by omega
    show Calls _ _ _ _ (StrRes w t.hash)
    obtain ⟨TL, hTL⟩ : ∃ s, s = bs t.last := ⟨_, rfl⟩
    have hlast := txs_last t mt hmt
    rw [← hTL] at HP hlast
    have HLAST := Lib.hid hlast
    have HMT := Lib.hid hmt
    clear hTL hlast hmt hl hm
    go_enter Tryz.func53, Tryz.ntmps53
    go_wp2_with fail
    refine HT.out.mono ?_
    rintro e w1 ⟨va, rfl, ho, hb⟩
    obtain ⟨g, c, rfl, _, _, _, hcs⟩ := SOwn.at ho (by intro e; have := HMT.out; rw [e] at this; cases this)
    have c1 := hcs mt _ HLAST.out
    have HB := Lib.hid hb
    have hi0 : (((mt + 1 : Nat) : Int) == 0) = false := by simp only [beq_eq_false_iff_ne]; omega
    rw [HMT.out]
    clear hcs ho hb
    go_wp2_with fail
    refine (HP.out _).mono ?_
    rintro e w2 ⟨rfl, hb2⟩
    have HB2 := Lib.hid (HB.out.trans (hb2.mono HB.out.size))
    clear hb2
    go_wp2
    go_ret
    exact ⟨rfl, HB2.out⟩
end Go.Proofs.YtmpjpaomgifpcaaGreatDoor
