/- The reference's show and Show: the text that is shown. -/
import Derived.Test.YtmpjpaomgifpcaaGreatDoorPNodes
namespace Go.Proofs.YtmpjpaomgifpcaaGreatDoor
open Go.RowKit
open Cod (F Nd KidsAt Lies nodeV CellsOf)

theorem kids_two {w : World} {S : Nat → Prop} {k1 n1 k2 n2 : Int} {s1 s2 : ByteArray} {g : Nat} (hS : S g)
    (hblk : w.heap[g]? = some (.cells #[.int .i64 k1, .int .u64 n1, .string s1, .slice none 0 0, .int .i64 k2, .int .u64 n2, .string s2, .slice none 0 0] 80 (0, 0))) : KidsAt w S (pairF k1 n1 s1 k2 n2 s2) (.slice (some ⟨g, 0, none⟩) 2 2) := by
  have hc : ∀ j u, (#[.int .i64 k1, .int .u64 n1, .string s1, .slice none 0 0, .int .i64 k2, .int .u64 n2, .string s2, .slice none 0 0] : Array Value)[j]? = some u → w.cell? ⟨g, j, none⟩ = some u := fun j u h => by simp only [World.cell?, hblk]; exact h
  exact .inr ⟨g, 0, 2, rfl, hS, ⟨_, _, hblk⟩, Nat.le_refl 2, ⟨hc 0 _ rfl, hc 1 _ rfl, hc 2 _ rfl, _, hc 3 _ rfl, .inl ⟨rfl, rfl⟩⟩, ⟨hc 4 _ rfl, hc 5 _ rfl, hc 6 _ rfl, _, hc 7 _ rfl, .inl ⟨rfl, rfl⟩⟩, trivial⟩
def NdRes (w : World) (f : F) (e : Ending) (w' : World) : Prop := ∃ v, e = .returned v ∧ NOwn w' w.heap.size v f ∧ Below w.heap.size w w'
theorem NOwn.base {w : World} {B B' : Nat} {v : Value} {f : F} (h : NOwn w B v f) (hB : B' ≤ B) : NOwn w B' v f := by
  obtain ⟨cs, h1, h2⟩ := h
  exact ⟨cs, ownN_base h1 (fun k hk => Nat.le_trans hB (ownN_low h1 k hk)), CellsOf.mono (fun b hb => ⟨⟨Nat.le_trans hB hb.1, hb.2⟩, rfl⟩) f cs h2⟩

set_option maxRecDepth 30000 in
set_option maxHeartbeats 4000000 in
theorem rshow_leaf (k v : ByteArray) (lv kv uv : Value) (w : World) (h : PSl w lv [(k, v)]) :
    Calls Tryz.prog 39 #[lv, kv, uv] w (NdRes w (leafF k v)) := by
  obtain ⟨aa, c, rfl, hc, hcells⟩ := h
  obtain ⟨g, o, rfl, hg, hcs⟩ := hcells (by simp)
  obtain ⟨c1, c2⟩ := hcs 0 (k, v) rfl
  rw [Nat.zero_mul, Nat.add_zero] at c1 c2
  simp only at c1 c2
  have hl : [(k, v)].length = 1 := rfl
  rw [hl]
  clear hcells hcs hc hl
  go_enter Tryz.func39, Tryz.ntmps39
  go_wp2_with fail
  go_region_held3 (fun X => X.cell? ⟨g, o, none⟩ = some (.string k) ∧ X.cell? ⟨g, o + 1, none⟩ = some (.string v))
    (first | exact ⟨c1, c2⟩ | exact hcs6 | exact hcs5 | exact hcs4 | exact ⟨cellA _ hcs6.1, cellA _ hcs6.2⟩ | exact ⟨cellA _ hcs5.1, cellA _ hcs5.2⟩)
    (first
      | (go_at_call 75; (with_reducible refine (s_ref k _).mono ?_); rintro e w4 ⟨rfl, hb4⟩; have hcs4 := And.intro (cellD hb4 c1) (cellD hb4 c2); have HB4 := Lib.hid ((Below.refl _ w).drew.trans hb4))
      | (go_at_call 75; (with_reducible refine (s_ref v _).mono ?_); rintro e w5 ⟨rfl, hb5⟩; have hcs5 := And.intro (cellB hb5 hcs4.1) (cellB hb5 hcs4.2); have HB5 := Lib.hid (HB4.out.trans (hb5.mono HB4.out.size)))
      | (go_at_call 38; (with_reducible refine (l_ref _ _ _ _).mono ?_); rintro e w6 ⟨rfl, hb6⟩; have hcs6 := And.intro (cellB hb6 (cellA _ hcs5.1)) (cellB hb6 (cellA _ hcs5.2)); have HBL6 := Lib.hid ((hb6.block w5.heap.size (by simp)).trans (heap_alloc_new w5 (.cells #[.int .i64 1, .int .u64 0, .string k, .slice none 0 0, .int .i64 1, .int .u64 0, .string v, .slice none 0 0] 80))); have HB6 := Lib.hid ((HB5.out.alloc HB5.out.size _).trans (hb6.mono (HB5.out.alloc HB5.out.size _).size))))
  · go_wp2
    go_ret
    refine ⟨_, rfl, ?_, HB6.out.alloc HB6.out.size _⟩
    exact NOwn.one HB6.out.size 2 0 ⟨#[]⟩ _ 2 2 (pairF 1 0 k 1 0 v) (kids_two (S := fun b => w.heap.size ≤ b ∧ b < w6.heap.size) ⟨HB5.out.size, (Array.getElem?_eq_some_iff.1 HBL6.out).1⟩ HBL6.out)

def subF (A : List Ask) (k : ByteArray) (p : Nat) (s : Bool) (t : Tr) : F := if sideB A (ks k) p s then shownF A t else hashF t.hash
theorem sub_len (A : List Ask) (k : ByteArray) (p : Nat) (s : Bool) (t : Tr) (ht : t.wf) : (subF A k p s t).len + 1 ≤ 2 * t.pairs.length := by
  unfold subF
  have h0 := List.length_pos_iff.2 t.pairs_ne
  split
  · exact (shown_bytes A t ht).2.1
  · simp [hashF, F.len]; omega
def RsRel (f : F) (S : Nat → F) (B : Nat) (w : World) (v s10 i : Value) (wr : World) : Prop :=
  ∃ j : Nat, i = .int .i64 j ∧ j ≤ 2 ∧ Hid (NOwn wr B s10 (accF f S j)) ∧ Hid (Grew w v wr s10)
/-- What a side's round wants. -/
def RSide (W9 w : World) (K : List ByteArray) (U : List AI) (kv uv : Value) (A : List Ask) (F1 : F) (S : Nat → F) (gs gb i : Nat) : Prop :=
  ∃ (t : Tr) (b : Bool) (ai : Option Addr) (ni ci : Nat), W9.cell? ⟨gs, i, none⟩ = some (.bool b) ∧ W9.cell? ⟨gb, i, none⟩ = some (.slice ai ni ci) ∧ PSl w (.slice ai ni ci) t.pairs ∧
    S i = (if b then shownF A t else hashF t.hash) ∧ (accF F1 S i).len + (S i).len ≤ 100000 ∧
    (∀ (lv : Value) (W : World), PSl W lv t.pairs → StrSl W kv K → ASl W uv U → Calls Tryz.prog 39 #[lv, kv, uv] W (NdRes W (shownF A t))) ∧
    (∀ (lv : Value) (W : World), PSl W lv t.pairs → Calls Tryz.prog 53 #[lv] W (StrRes W (MT.root (some t))))

set_option maxRecDepth 30000 in
set_option maxHeartbeats 8000000 in
theorem rshow_ref (K : List ByteArray) (U : List AI) (kv uv : Value) (hK : K.length ≤ 100) (hU : U.length ≤ 100) (hks : ∀ q ∈ K, q.size = 32) (hus : ∀ q ∈ U, q.1.size = 32) (t : Tr) :
    ∀ (lv : Value) (w : World), t.wf → t.pairs.length ≤ 100 → PSl w lv t.pairs → StrSl w kv K → ASl w uv U → Calls Tryz.prog 39 #[lv, kv, uv] w (NdRes w (shownF (askL K U) t)) := by
  induction t with
  | leaf k v => exact fun lv w _ _ h _ _ => rshow_leaf k v lv kv uv w h
  | fork p k z o iz io =>
    intro lv w hw hlen h hsk hsu
    obtain ⟨f1, f2, f3, f4, f5, f6⟩ := fork_place hw
    obtain ⟨va, ra, ea⟩ := (Tr.fork p k z o).head_pairs
    obtain ⟨vb, rb, eb⟩ := (Tr.fork p k z o).tail_pairs
    have hN2 := @Tr.pairs_two p k z o
    obtain ⟨m, hm⟩ : ∃ m, (Tr.fork p k z o).pairs.length = m + 1 := ⟨(Tr.fork p k z o).pairs.length - 1, by omega⟩
    have hPL := Lib.hid (fun (W : World) (h : PSl W lv (Tr.fork p k z o).pairs) => place_ref z.head o.tail _ lv p W hw.1 f5 f6 f1 (by rw [f2, f3]; simp) m hm (by omega) ⟨va, by rw [ea]; rfl⟩ ⟨vb, by
      have hr : rb.length = m := by rw [eb] at hm; simpa using hm
      rw [eb, List.getElem?_append_right (by omega), hr]; simp; rfl⟩ h)
    have HW := Lib.hid hw
    have HP := Lib.hid h
    have HKV := Lib.hid hsk
    have HUV := Lib.hid hsu
    have hzl := List.length_pos_iff.2 z.pairs_ne
    have hol := List.length_pos_iff.2 o.pairs_ne
    have hlz : (Tr.fork p k z o).pairs.length = z.pairs.length + o.pairs.length := by rw [Tr.pairs, List.length_append]
    obtain ⟨nz, hnz⟩ : ∃ n, n = z.pairs.length := ⟨_, rfl⟩
    obtain ⟨no, hno⟩ : ∃ n, n = o.pairs.length := ⟨_, rfl⟩
    obtain ⟨N, hN⟩ : ∃ n, n = (Tr.fork p k z o).pairs.length := ⟨_, rfl⟩
    obtain ⟨aa, c, rfl, hc, hcells⟩ := h
    obtain ⟨g, o0, rfl, hg, hcs⟩ := hcells (by rw [ea]; simp)
    have HCS := Lib.hid hcs
    have hkey0 : w.cell? ⟨g, o0, none⟩ = some (.string z.head) := by
      have := (hcs 0 (z.head, va) (by rw [ea]; rfl)).1
      simpa using this
    rw [← hN] at hlz hlen hc hm hN2
    have hFI := Lib.hid (fun W => first_ref z.head p W f5 (by have := hw.1; omega))
    rw [← f4] at hFI
    rw [← hN]
    rw [← hN] at hPL HP
    have HN := Lib.hid hN
    have HNZ := Lib.hid hnz
    have HNO := Lib.hid hno
    rw [← hnz, ← hno] at hlz
    rw [← hnz] at hzl
    rw [← hno] at hol
    have HLZ := Lib.hid hlz
    have HZN := Lib.hid (show nz < N by omega)
    have i1 : (2 : Int) ≤ (N : Int) := by omega
    have i2 : (N : Int) ≤ 100 := by omega
    have i3 : ((N : Int) == 0) = false := by simp only [beq_eq_false_iff_ne]; omega
    have i4 : ((N : Int) == 1) = false := by simp only [beq_eq_false_iff_ne]; omega
    have HIZ := Lib.hid (fun (lv : Value) (W : World) (h : PSl W lv z.pairs) (h1 : StrSl W kv K) (h2 : ASl W uv U) => iz lv W hw.2.2.2.2.2.2.2.1 (by omega) h h1 h2)
    have HIO := Lib.hid (fun (lv : Value) (W : World) (h : PSl W lv o.pairs) (h1 : StrSl W kv K) (h2 : ASl W uv U) => io lv W hw.2.2.2.2.2.2.2.2 (by omega) h h1 h2)
    have HRZ := Lib.hid (fun (lv : Value) (W : World) (h : PSl W lv z.pairs) => root_ref (some z) lv W hw.2.2.2.2.2.2.2.1 (show z.pairs.length ≤ 100 by omega) h)
    have HRO := Lib.hid (fun (lv : Value) (W : World) (h : PSl W lv o.pairs) => root_ref (some o) lv W hw.2.2.2.2.2.2.2.2 (show o.pairs.length ≤ 100 by omega) h)
    have HSD := Lib.hid (fun (W : World) (h1 : StrSl W kv K) (h2 : ASl W uv U) => sides_ref K U kv uv k p W hK hU hks hus (Tr.wf_key hw) hw.1 h1 h2)
    obtain ⟨A, hA⟩ : ∃ A, A = askL K U := ⟨_, rfl⟩
    rw [← hA] at HIZ HIO HSD ⊢
    have hlenZ := sub_len A k p false z hw.2.2.2.2.2.2.2.1
    have hlenO := sub_len A k p true o hw.2.2.2.2.2.2.2.2
    have HLZF : Hid ((subF A k p false z).len ≤ 1000) := Lib.hid (by omega)
    have HLOF : Hid ((subF A k p true o).len ≤ 1000) := Lib.hid (by omega)
    have HF : Hid (shownF A (.fork p k z o) = (forkF p k .nil).app ((subF A k p false z).app (subF A k p true o))) := Lib.hid rfl
    have hp0 : (0 : Int) ≤ (p : Int) := by omega
    have hp1 : (p : Int) ≤ 255 := by have := hw.1; omega
    have hcvp : IntKind.u64.wrap (p : Int) = (p : Int) := by rw [IntKind.wrap_u64]; omega
    have hz0 : (0 : Int) ≤ (nz : Int) := by omega
    have hz1 : (nz : Int) ≤ (N : Int) := by omega
    have hz2 : (nz : Int) ≤ (c : Int) := by omega
    have hz3 : ¬ (c : Int) = (nz : Int) := by omega
    have hz4 : (N : Int) ≤ (c : Int) := by omega
    have hz5 : ¬ c = nz := by omega
    clear hcells hcs hN hnz hno hlz hm hw f1 f2 f3 f4 f5 f6 ea eb iz io hN2 hlen hzl hol hsk hsu hlenZ hlenO hA hks hus
    go_enter Tryz.func39, Tryz.ntmps39
    go_wp2_with fail
    refine (hPL.out w HP.out).mono ?_
    rintro e w1 ⟨rfl, hs1⟩
    have e1 : w1.cell? ⟨g, o0, none⟩ = some (.string z.head) := by rw [(hs1.below w.heap.size).cell (p := ⟨g, o0, none⟩) hg]; exact hkey0
    have HB1 := Lib.hid (hs1.below w.heap.size)
    clear hs1
    go_wp2_with fail
    refine (hFI.out w1).mono ?_
    rintro e w2 ⟨rfl, hb2⟩
    have HB2 := Lib.hid (HB1.out.trans (hb2.mono HB1.out.size))
    clear hb2 e1
    obtain ⟨w0, hw0⟩ : ∃ x, x = w2 := ⟨_, rfl⟩
    subst hw0
    go_wp2_with fail
    go_loopw [9] (KkRel nz w0) (fun i _ => 200 - (intOf i).toNat)
    case atStart => exact ⟨0, rfl, by omega, Same.refl w0⟩
    case round =>
      obtain ⟨j, rfl, hj, hsm⟩ := hrel
      have hj0 : (0 : Int) ≤ (j : Int) := by omega
      have hjN : (j : Int) < (N : Int) := by have := HZN.out; omega
      by_cases hlt : j < nz
      · have hjz : j < z.pairs.length := by rw [← HNZ.out]; exact hlt
        obtain ⟨x, hx⟩ : ∃ x, x = z.pairs[j] := ⟨_, rfl⟩
        have hget : (Tr.fork p k z o).pairs[j]? = some x := by rw [Tr.pairs, List.getElem?_append_left hjz, List.getElem?_eq_getElem hjz, hx]
        have hb := side_z HW.out x (by rw [hx]; exact List.getElem_mem hjz)
        have hxs := (Tr.pairs_ok HW.out x (by rw [Tr.pairs]; exact List.mem_append_left _ (by rw [hx]; exact List.getElem_mem hjz))).1
        have c1 : wr.cell? ⟨g, o0 + j * 2, none⟩ = some (.string x.1) := by rw [(HB2.out.trans ((hsm.below w0.heap.size).mono HB2.out.size)).cell (p := ⟨g, o0 + j * 2, none⟩) hg]; exact (HCS.out j x hget).1
        have HB := Lib.hid (fun W => bit_ref x.1 p W HW.out.1 hxs)
        rw [hb] at HB
        have HSM := Lib.hid hsm
        have hz : (bitN false == 0) = true := rfl
        clear hx hget hb hxs hsm hjz
        go_wp2_with fail
        refine (HB.out _).mono ?_
        rintro e w2 ⟨rfl, rfl⟩
        go_wp2_with fail
        go_roundw
        case rel => exact ⟨j + 1, by go_num, by omega, HSM.out⟩
        case measure => simp [intOf]; omega
      · have hjz : j = nz := by omega
        have hno : 0 < o.pairs.length := List.length_pos_iff.2 o.pairs_ne
        obtain ⟨x, hx⟩ : ∃ x, x = o.pairs[0] := ⟨_, rfl⟩
        have hget : (Tr.fork p k z o).pairs[j]? = some x := by
          rw [Tr.pairs, List.getElem?_append_right (by rw [← HNZ.out]; omega), show j - z.pairs.length = 0 by rw [← HNZ.out]; omega, List.getElem?_eq_getElem hno, hx]
        have hb := side_o HW.out x (by rw [hx]; exact List.getElem_mem hno)
        have hxs := (Tr.pairs_ok HW.out x (by rw [Tr.pairs]; exact List.mem_append_right _ (by rw [hx]; exact List.getElem_mem hno))).1
        have HBW := Lib.hid (HB2.out.trans ((hsm.below w0.heap.size).mono HB2.out.size))
        have c1 : wr.cell? ⟨g, o0 + j * 2, none⟩ = some (.string x.1) := by rw [HBW.out.cell (p := ⟨g, o0 + j * 2, none⟩) hg]; exact (HCS.out j x hget).1
        have HB := Lib.hid (fun W => bit_ref x.1 p W HW.out.1 hxs)
        rw [hb] at HB
        have hz : (bitN true == 0) = false := rfl
        clear hx hget hb hxs hsm hno
        subst hjz
        go_wp2_with fail
        refine (HB.out _).mono ?_
        rintro e wk ⟨rfl, rfl⟩
        have HA := Lib.hid (show PSl w (.slice (some ⟨g, o0, none⟩) j c) z.pairs by have := PSl.take (l := z.pairs) (r := o.pairs) HP.out; rw [← HNZ.out] at this; exact this)
        have HBB := Lib.hid (show PSl w (.slice (some ⟨g, o0 + j * 2, none⟩) (N - j) (c - j)) o.pairs by
          have := PSl.rest (l := z.pairs) (r := o.pairs) HP.out
          rw [← HNZ.out, ← HNO.out] at this
          rw [show N - j = no by have := HLZ.out; omega]; exact this)
        have hjc : (j : Int) ≤ (c : Int) := by omega
        clear c1 hPL hFI HCS HB hkey0 hz HP
        go_wp2_with fail
        refine (n_ref p wr).mono ?_
        rintro e w3 ⟨rfl, hb3⟩
        have HBW3 := Lib.hid (HBW.out.trans (hb3.mono HBW.out.size))
        clear hb3
        go_wp2_with fail
        refine (s_ref k w3).mono ?_
        rintro e w4 ⟨rfl, hb4⟩
        have HBW4 := Lib.hid (HBW3.out.trans (hb4.mono HBW3.out.size))
        clear hb4
        obtain ⟨W5, hW5⟩ : ∃ W, W = w4.alloc (.cells #[.int .i64 0, .int .u64 (p : Int), .string ⟨#[]⟩, .slice none 0 0, .int .i64 1, .int .u64 0, .string k, .slice none 0 0] 80) := ⟨_, rfl⟩
        have hb5 : Below w4.heap.size w4 W5 := by rw [hW5]; exact (Below.refl _ _).alloc (Nat.le_refl _) _
        have HBLK5 := Lib.hid (show W5.heap[w4.heap.size]? = some (.cells #[.int .i64 0, .int .u64 (p : Int), .string ⟨#[]⟩, .slice none 0 0, .int .i64 1, .int .u64 0, .string k, .slice none 0 0] 80 (0, 0)) by rw [hW5]; exact heap_alloc_new _ _)
        have HBW5 := Lib.hid (HBW4.out.trans (hb5.mono HBW4.out.size))
        have HW5 := Lib.hid hW5
        have HLT5 : Hid (w4.heap.size < W5.heap.size) := Lib.hid (by rw [hW5]; simp)
        clear hb5 hW5
        go_wp2_with fail
        rw [← HW5.out]
        refine (l_ref _ _ _ W5).mono ?_
        rintro e w6 ⟨rfl, hb6⟩
        have HBLK6 := Lib.hid ((hb6.block w4.heap.size HLT5.out).trans HBLK5.out)
        have HBW6 := Lib.hid (HBW5.out.trans (hb6.mono HBW5.out.size))
        have HLT6 := Lib.hid (Nat.lt_of_lt_of_le HLT5.out hb6.size)
        clear hb6
        obtain ⟨W7, hW7⟩ : ∃ W, W = w6.alloc (.cells #[.int .i64 2, .int .u64 0, .string ⟨#[]⟩, .slice (some ⟨w4.heap.size, 0, none⟩) 2 2] 80) := ⟨_, rfl⟩
        have hb7 : Below w6.heap.size w6 W7 := by rw [hW7]; exact (Below.refl _ _).alloc (Nat.le_refl _) _
        have HOWN7 : Hid (NOwn W7 w.heap.size (.slice (some ⟨w6.heap.size, 0, none⟩) 1 1) (forkF p k .nil)) := Lib.hid (by
          rw [hW7]
          exact NOwn.one HBW6.out.size 2 0 ⟨#[]⟩ _ 2 2 (pairF 0 p ⟨#[]⟩ 1 0 k) (kids_two (S := fun b => w.heap.size ≤ b ∧ b < w6.heap.size) ⟨HBW4.out.size, HLT6.out⟩ HBLK6.out))
        have HBW7 := Lib.hid (HBW6.out.trans (hb7.mono HBW6.out.size))
        have HW7 := Lib.hid hW7
        clear hb7 hW7
        go_wp2_with fail
        rw [← HW7.out]
        refine (HSD.out W7 (HKV.out.later HBW7.out) (HUV.out.later HBW7.out)).mono ?_
        rintro e w8 ⟨sv, sb, rfl, htw, hb8⟩
        obtain ⟨gs, rfl, hgs, hbls⟩ := htw
        have HTB8 := Lib.hid hbls
        have HOWN8 := Lib.hid (HOWN7.out.later hb8)
        have HBW8 := Lib.hid (HBW7.out.trans (hb8.mono HBW7.out.size))
        have HGS : Hid (w6.heap.size < gs ∧ gs < w8.heap.size) := Lib.hid (by
          have h1 : W7.heap.size = w6.heap.size + 1 := by rw [HW7.out]; simp
          have h2 := block_lt hbls
          omega)
        clear hb8 hbls hgs
        go_wp2_with fail
        go_region
        obtain ⟨W9, hW9⟩ : ∃ W, W = (w8.alloc (.cells #[.slice (some ⟨g, o0, none⟩) j c, .slice (some ⟨g, o0 + j * 2, none⟩) (N - j) (c - j)] 32)).drew := ⟨_, rfl⟩
        have hb9 : Below w8.heap.size w8 W9 := by rw [hW9]; exact ((Below.refl _ _).alloc (Nat.le_refl _) _).drew
        have hbl9 : W9.heap[w8.heap.size]? = some (.cells #[.slice (some ⟨g, o0, none⟩) j c, .slice (some ⟨g, o0 + j * 2, none⟩) (N - j) (c - j)] 32 (0, 0)) := by rw [hW9]; exact heap_alloc_new _ _
        obtain ⟨p0, p1⟩ := two_cells hbl9
        obtain ⟨q0, q1⟩ := two_cells ((hb9.block gs HGS.out.2).trans HTB8.out)
        have HW9 := Lib.hid hW9
        have HOWN9 := Lib.hid (HOWN8.out.later hb9)
        have HBW9 := Lib.hid (HBW8.out.trans (hb9.mono HBW8.out.size))
        obtain ⟨F1, hF1⟩ : ∃ F1, F1 = forkF p k .nil := ⟨_, rfl⟩
        obtain ⟨S, hS⟩ : ∃ S : Nat → F, S = fun j => if j = 0 then subF A k p false z else subF A k p true o := ⟨_, rfl⟩
        have HEND : Hid (accF F1 S 2 = shownF A (.fork p k z o)) := Lib.hid (by
          rw [HF.out, accF, accF, accF, hF1, hS, Cod.F.app_assoc]; rfl)
        have hF1l : F1.len = 1 := by rw [hF1]; rfl
        have hround : ∀ i, i < 2 → RSide W9 w K U kv uv A F1 S gs w8.heap.size i := by
          intro i hi
          have l0 := HLZF.out
          have l1 := HLOF.out
          rcases Nat.eq_zero_or_pos i with h0 | h0
          · subst h0
            refine ⟨z, _, _, _, _, q0, p0, HA.out, by rw [hS]; rfl, ?_, HIZ.out, HRZ.out⟩
            rw [hS]; show F1.len + (subF A k p false z).len ≤ 100000; omega
          · obtain rfl : i = 1 := by omega
            refine ⟨o, _, _, _, _, q1, p1, HBB.out, by rw [hS]; rfl, ?_, HIO.out, HRO.out⟩
            rw [hS]; show (F1.app (subF A k p false z)).len + (subF A k p true o).len ≤ 100000
            rw [Cod.F.app_len]; omega
        have HR := Lib.hid hround
        rw [← hF1] at HOWN9
        have HNG : Hid (∀ b, w6.heap.size < b → (Value.slice (some ⟨w6.heap.size, 0, none⟩) 1 1).ownBlock ≠ some b) := Lib.hid (fun b hb e => by
          have : w6.heap.size = b := by simpa [Value.ownBlock] using e
          omega)
        have HGS2 : Hid (w6.heap.size < w8.heap.size) := Lib.hid (Nat.lt_trans HGS.out.1 HGS.out.2)
        clear hb9 hbl9 p0 p1 q0 q1 hW9 hF1 hS hround HIZ HIO HRZ HRO HSD HF HLZF HLOF hF1l HA HBB HOWN8 HTB8 HOWN7 HBLK6 HBLK5
        go_wp2_with fail
        rw [← HW9.out]
        go_loopw [10, 14] (RsRel F1 S w.heap.size W9 (.slice (some ⟨w6.heap.size, 0, none⟩) 1 1)) (fun _ i _ => 2 - (intOf i).toNat)
        case atStart => exact ⟨0, rfl, by omega, HOWN9, Lib.hid (Grew.refl _ _)⟩
        case round =>
          obtain ⟨i, rfl, hi, hown, hgr⟩ := hrel
          have hi0 : (0 : Int) ≤ (i : Int) := by omega
          have hi1 : (i : Int) ≤ 2 := by omega
          by_cases hlt : i < 2
          · have hltI : (i : Int) < 2 := by omega
            obtain ⟨ti, b, ai, ni, ci, y1, y2, hpi, hSi, hli, hrec, hroot⟩ := HR.out i hlt
            have HBR : Hid (Below w.heap.size w _) := Lib.hid (HBW9.out.trans (hgr.out.below HBW9.out.size HOWN9.out.low))
            have z1 := Grew.cell hgr.out y1 (HNG.out _ HGS.out.1)
            have z2 := Grew.cell hgr.out y2 (HNG.out _ HGS2.out)
            have hP := Lib.hid (hpi.later HBR.out)
            have hKV := Lib.hid (HKV.out.later HBR.out)
            have hUV := Lib.hid (HUV.out.later HBR.out)
            have hbr := HBR.out.size
            have HREC := Lib.hid (hrec _ _ hP.out hKV.out hUV.out)
            have HROOT := Lib.hid (hroot _ _ hP.out)
            have HSEP := Lib.hid (hown.out.lt)
            clear y1 y2 hpi hrec hroot
            cases b with
            | true =>
              have hnext : Hid (accF F1 S (i + 1) = (accF F1 S i).app (shownF A ti)) := Lib.hid (by rw [accF, hSi]; rfl)
              have hll : (accF F1 S i).len + (shownF A ti).len ≤ 100000 := by rw [hSi] at hli; exact hli
              clear hSi hli
              go_wp2_with fail
              refine HREC.out.mono ?_
              rintro e w5 ⟨v5, rfl, hown5, hb5⟩
              have HO5 := Lib.hid (hown.out.later hb5)
              have HG5 := Lib.hid (hgr.out.trans (Grew.ofBelow _ hb5))
              have HV5 := Lib.hid hown5
              have hs5 := Nat.le_trans hbr hb5.size
              clear hb5 hown5 z1 z2
              go_wp2_with (refine list_appNN rfl _ _ rfl w.heap.size _ u10 v5 (accF F1 S i) (shownF A ti) rfl HO5.out rfl HV5.out hbr HSEP.out hll hs5 ?_)
              intro v8 w8' hown8 hgr8
              have HG8 := Lib.hid (HG5.out.trans hgr8)
              have HO8 : Hid (NOwn w8' w.heap.size v8 (accF F1 S (i + 1))) := Lib.hid (by rw [hnext.out]; exact hown8)
              clear hown8 hgr8
              go_wp2_with fail
              go_roundw
              case rel => exact ⟨i + 1, by go_num, by omega, HO8, HG8⟩
              case measure => simp [intOf]; omega
            | false =>
              have hnext : Hid (accF F1 S (i + 1) = (accF F1 S i).app (.cons 1 0 ti.hash .nil .nil)) := Lib.hid (by rw [accF, hSi]; rfl)
              have hll : (accF F1 S i).len + 1 ≤ 100000 := by rw [hSi] at hli; exact hli
              clear hSi hli
              go_wp2_with fail
              refine HROOT.out.mono ?_
              rintro e w5 ⟨rfl, hb5⟩
              have HO5 := Lib.hid (hown.out.later hb5)
              have HG5 := Lib.hid (hgr.out.trans (Grew.ofBelow _ hb5))
              have hs5 := Nat.le_trans hbr hb5.size
              clear hb5 z1 z2
              go_wp2_with fail
              refine (s_ref ti.hash w5).mono ?_
              rintro e w6' ⟨rfl, hb6⟩
              have HO6 := Lib.hid (HO5.out.later hb6)
              have HG6 := Lib.hid (HG5.out.trans (Grew.ofBelow _ hb6))
              have hs6 := Nat.le_trans hs5 hb6.size
              clear hb6
              go_wp2_with (refine list_appNode rfl _ _ rfl w.heap.size u10 (accF F1 S i) rfl (HO6.out.later ((Below.refl _ w6').alloc (Nat.le_refl _) _)) w6'.heap.size 1 1 0 ti.hash (.slice none 0 0) .nil rfl (heap_alloc_new w6' _) rfl (Cod.KidsAt.nil _ _) hll (by simp; omega) ?_)
              intro v8 w8' hown8 hgr8
              have HG8 := Lib.hid (HG6.out.trans ((Grew.alloc w6' _ u10).trans hgr8))
              have HO8 : Hid (NOwn w8' w.heap.size v8 (accF F1 S (i + 1))) := Lib.hid (by rw [hnext.out]; exact hown8)
              clear hown8 hgr8
              go_wp2_with fail
              go_roundw
              case rel => exact ⟨i + 1, by go_num, by omega, HO8, HG8⟩
              case measure => simp [intOf]; omega
          · have hltI : ¬ (i : Int) < 2 := by omega
            obtain rfl : i = 2 := by omega
            have HOUT : Hid (NOwn _ w.heap.size u10 (shownF A (.fork p k z o))) := Lib.hid (by have := hown.out; rw [HEND.out] at this; exact this)
            have HBR := Lib.hid (HBW9.out.trans (hgr.out.below HBW9.out.size HOWN9.out.low))
            clear hlt
            go_wp2_with fail
            go_ret
            exact ⟨_, rfl, HOUT.out, HBR.out⟩
end Go.Proofs.YtmpjpaomgifpcaaGreatDoor
