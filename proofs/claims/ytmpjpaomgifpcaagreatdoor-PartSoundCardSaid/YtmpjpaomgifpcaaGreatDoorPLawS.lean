/- part's promise of soundness: the law. -/
import Derived.Test.YtmpjpaomgifpcaaGreatDoorPAwk
import Derived.Test.YtmpjpaomgifpcaaGreatDoorPArg
import Derived.Test.YtmpjpaomgifpcaaGreatDoorPAgree
import Derived.Test.YtmpjpaomgifpcaaGreatDoorPTexts
import Derived.Test.YtmpjpaomgifpcaaGreatDoorBClash
import Derived.Test.YtmpjpaomgifpcaaGreatDoorBRefF
import Derived.Test.YtmpjpaomgifpcaaGreatDoorBRefA
namespace Go.Proofs.YtmpjpaomgifpcaaGreatDoor
open Go.RowKit
open Cod (F Nd readO)

def MT.txs (m : Option Tr) : List ByteArray := (MT.texts m).map bs
theorem texts_any (m : Option Tr) (lv : Value) (w : World) (hm : MT.wf m) (hl : (MT.pairs m).length ≤ 100) (h : PSl w lv (MT.pairs m)) : Calls Tryz.prog 23 #[lv] w (TxRes w (MT.txs m)) := by
  match m, hm, hl, h with
  | none, _, _, ⟨a, c, e, _, _⟩ =>
    rw [e]
    refine (texts_none a c w).mono ?_
    rintro e w' ⟨rfl, rfl⟩
    exact ⟨_, rfl, SOwn.nil _ _, Below.refl _ _⟩
  | some t, hm, hl, h => exact texts_ref t lv w hm hl h
theorem texts_size : ∀ (t : Tr), t.sz → ∀ x ∈ t.texts, x.length ≤ 10000
  | .leaf k v, h, x, hx => by
    simp only [Tr.texts, List.mem_cons, List.not_mem_nil, or_false] at hx
    rcases hx with rfl | rfl
    · rw [ks_length]; have := h.2; omega
    · exact Nat.le_trans (last_size (.leaf k v) h) (by decide)
  | .fork p k z o, h, x, hx => by
    simp only [Tr.texts, List.mem_append, List.mem_singleton] at hx
    rcases hx with (hx | hx) | rfl
    · exact texts_size z h.2.2.1 x hx
    · exact texts_size o h.2.2.2 x hx
    · exact Nat.le_trans (last_size (.fork p k z o) h) (by decide)
theorem MT.txs_size {m : Option Tr} (hm : MT.wf m) : ∀ x ∈ MT.txs m, x.size ≤ 100000 := by
  intro x hx
  obtain ⟨y, hy, rfl⟩ := List.mem_map.1 hx
  rw [bs_size]
  match m, hm, hy with
  | none, _, hy => cases hy
  | some t, hm, hy => have := texts_size t (Tr.wf_sz hm) y hy; omega
theorem MT.txs_length {m : Option Tr} : (MT.txs m).length ≤ 3 * (MT.pairs m).length := by
  unfold MT.txs
  rw [List.length_map]
  match m with
  | none => exact Nat.zero_le _
  | some t => have := texts_len t; show t.texts.length ≤ 3 * t.pairs.length; omega
def MP.txs (m : Option PT) : List ByteArray := (MP.texts m).map bs
theorem ptexts_size : ∀ (t : PT), t.ok → ∀ x ∈ t.texts, x.length ≤ 10000
  | .stub _, _, x, hx => by cases hx
  | .leaf k v, h, x, hx => by
    simp only [PT.texts, List.mem_cons, List.not_mem_nil, or_false] at hx
    rcases hx with rfl | rfl
    · rw [ks_length]; have := h.2; omega
    · rw [leafT_length, h.1]; omega
  | .fork p k z o, h, x, hx => by
    simp only [PT.texts, List.mem_append, List.mem_singleton] at hx
    rcases hx with (hx | hx) | rfl
    · exact ptexts_size z h.2.2.1 x hx
    · exact ptexts_size o h.2.2.2 x hx
    · rw [forkT_length, h.2.1, PT.hash_size z h.2.2.1, PT.hash_size o h.2.2.2]; omega
theorem MP.txs_size {m : Option PT} (hm : MP.ok m) : ∀ x ∈ MP.txs m, x.size ≤ 100000 := by
  intro x hx
  obtain ⟨y, hy, rfl⟩ := List.mem_map.1 hx
  rw [bs_size]
  match m, hm, hy with
  | none, _, hy => cases hy
  | some t, hm, hy => have := ptexts_size t hm y hy; omega
/-- A part of the map's root goes with the map, or two unlike texts have one hash. -/
theorem part_or {X : Option PT} {M : Option Tr} (hx : MP.ok X) (hm : MT.wf M) (h : MP.root X = MT.root M) : SoundM X M ∨ ClB (MT.txs M ++ MP.txs X) := by
  have hh : ∀ x, hB (bs x) = sumB x := fun x => by unfold hB; rw [ks_bs]
  have inM : ∀ x, x ∈ MT.texts M → bs x ∈ MT.txs M ++ MP.txs X := fun x hx => List.mem_append_left _ (List.mem_map_of_mem hx)
  have inX : ∀ x, x ∈ MP.texts X → bs x ∈ MT.txs M ++ MP.txs X := fun x hx => List.mem_append_right _ (List.mem_map_of_mem hx)
  match X, M, hx, hm, h, inM, inX with
  | none, none, _, _, _, _, _ => exact .inl (.inl trivial)
  | none, some t, _, _, h, inM, _ => exact .inr (.inl ⟨bs t.last, inM _ (Tr.last_mem t), by rw [hh, ← Tr.hash_last]; exact h.symm⟩)
  | some (.stub u), none, _, _, _, _, _ => exact .inl (.inr ⟨u, rfl⟩)
  | some (.leaf k v), none, _, _, h, _, inX => exact .inr (.inl ⟨bs (leafT k v), inX _ (by simp [MP.texts, PT.texts]), by rw [hh]; exact h⟩)
  | some (.fork p k z o), none, _, _, h, _, inX => exact .inr (.inl ⟨bs (forkT p k z.hash o.hash), inX _ (by simp [MP.texts, PT.texts]), by rw [hh]; exact h⟩)
  | some x, some t, hx, hm, h, inM, inX =>
    rcases prune_or x t hx (Tr.wf_sz hm) h with e | ⟨a, ha, b, hb, hne, e⟩
    · exact .inl (.inl e)
    · refine .inr (.inr ⟨bs a, inX a ha, bs b, inM b hb, fun h => hne ?_, ?_⟩)
      · rw [← ks_bs a, ← ks_bs b, h]
      · rw [hh, hh]; unfold sumB; rw [e]
theorem rtexts_any {B : Nat} {w : World} {m : Option PT} {x : Value} (h : RTM B w m x) (hok : MP.ok m) (hl : (MP.texts m).length ≤ 10000) : Calls Tryz.prog 24 #[x] w (TxRes w (MP.txs m)) := by
  match m, h, hok, hl with
  | none, h, _, _ => rw [show x = tv0 from h]; exact rtexts_stub ⟨#[]⟩ w
  | some t, h, hok, hl => exact rtexts_prog t x B w hok hl h
theorem open_fit {l : List UInt8} {m : Option PT} (hl : l.length ≤ 4000) (h : openX l = some m) : MP.ok m ∧ MP.fit m ∧ (MP.texts m).length ≤ 240 := by
  have hok := openX_fit (shortX_of (by omega)) (by omega) h
  match m, hok, h with
  | none, _, _ => exact ⟨trivial, trivial, Nat.zero_le _⟩
  | some t, hok, h =>
    obtain ⟨h1, h2⟩ := open_len hl h
    exact ⟨hok, ⟨hok, by omega⟩, h2⟩
theorem keys_32 (K : List ByteArray) : ∀ k ∈ K.map keyB, k.size = 32 := by
  intro k hk
  obtain ⟨y, _, rfl⟩ := List.mem_map.1 hk
  exact keyB_size y
theorem askd_32 (U : List AI) : ∀ q ∈ U.map keyI, q.1.size = 32 := by
  intro q hq
  obtain ⟨y, _, rfl⟩ := List.mem_map.1 hq
  exact keyB_size y.1
theorem PAt.ptr {w : World} {m : Option PT} {x : Value} (h : PAt w m x) : ∃ d, x = pp d := by
  obtain ⟨b, _, e, _⟩ := h
  exact ⟨b, e⟩

set_option maxRecDepth 30000 in
set_option maxHeartbeats 8000000 in
theorem sound_law (la : Option Addr) (ln lc : Nat) (text : ByteArray) (av : Value) (w : World) (hst : Start w) (hl : ln ≤ maxLen) (hu : ActsAt w la ln) (_ : text.size ≤ maxLen) (ha : AskAt w av) :
    Calls Tryz.prog 4 #[.slice la ln lc, .string text, av] w fun e w' => e = .returned (.bool true) ∧ Below w.heap.size w w' := by
  obtain ⟨L, rfl, hL⟩ := acts_list hu
  obtain ⟨K, U, kv, uv, rfl, hK, hU, hKs, hUs, hks, hus⟩ := ha
  obtain ⟨W0, hW0⟩ : ∃ W, W = w.alloc (.cells #[kv, uv] 26) := ⟨_, rfl⟩
  have hbW : Below w.heap.size w W0 := by rw [hW0]; exact (Below.refl _ _).alloc (Nat.le_refl _) _
  obtain ⟨c0, c1⟩ := two_cells (w := W0) (b := w.heap.size) (by rw [hW0]; exact heap_alloc_new _ _)
  have hgW : w.heap.size < W0.heap.size := by rw [hW0]; simp
  have HL := Lib.hid hL
  have HS := Lib.hid hst
  have HA := Lib.hid (awake_prog W0 (hst.later hbW))
  have HKY := Lib.hid (fun (W : World) (hb : Below w.heap.size w W) => keys_prog K U kv uv W hK hU hKs hUs (hks.later hb) (hus.later hb))
  have HSM := Lib.hid (fun (W : World) (hb : Below w.heap.size w W) => small_prog L 25 la lc W hl (by omega) (by omega) (HL.out.later hb))
  have HBW := Lib.hid hbW
  have HW0 := Lib.hid hW0
  obtain ⟨ka, kc, rfl, _⟩ := hks
  obtain ⟨ua, uc, rfl, _, _⟩ := hus
  clear hst hu hL hl hK hU hKs hUs hbW hW0
  go_enter Tryz.func4, Tryz.ntmps4
  go_wp2_with fail
  rw [← HW0.out]
  refine HA.out.mono ?_
  rintro e w1 ⟨rfl, hb1⟩
  have B1 := Lib.hid (HBW.out.trans (hb1.mono HBW.out.size))
  have d0 : w1.cell? ⟨w.heap.size, 0, none⟩ = some (.slice ka K.length kc) := by rw [hb1.cell (p := ⟨w.heap.size, 0, none⟩) hgW]; exact c0
  have d1 : w1.cell? ⟨w.heap.size, 1, none⟩ = some (.slice ua U.length uc) := by rw [hb1.cell (p := ⟨w.heap.size, 1, none⟩) hgW]; exact c1
  clear hb1 c0 c1 hgW HBW
  go_wp2_with fail
  refine (HKY.out w1 B1.out).mono ?_
  rintro e w2 ⟨kv2, uv2, b, rfl, hb2, hky⟩
  have B2 := Lib.hid (B1.out.trans (hb2.mono B1.out.size))
  clear hb2 d0 d1
  go_wp2_with fail
  refine (HSM.out w2 B2.out).mono ?_
  rintro e w3 ⟨bs, rfl, hsm, hb3⟩
  have B3 := Lib.hid (B2.out.trans (hb3.mono B2.out.size))
  cases bs with
  | false =>
    clear hsm hky hb3
    go_wp2_with fail
    go_ret
    exact ⟨rfl, B3.out⟩
  | true =>
  cases b with
  | false =>
    clear hsm hky hb3
    go_wp2_with fail
    go_ret
    exact ⟨rfl, B3.out⟩
  | true =>
  by_cases ht : ¬ text.size ≤ 4000
  · have htI : (4000 : Int) < (text.size : Int) := by omega
    clear hsm hky hb3 ht
    go_wp2_with fail
    go_ret
    exact ⟨rfl, B3.out⟩
  · have htI : ¬ (4000 : Int) < (text.size : Int) := by omega
    have hts : text.size ≤ 4000 := by omega
    have hkl : (ks text).length ≤ 4000 := by rw [ks_length]; exact hts
    obtain ⟨hlen, hsmall⟩ := hsm rfl
    obtain ⟨hka, hua, hK8, hU4, hshK, hshU, qa, qc, rfl, hqc⟩ := hky rfl
    have HKV := Lib.hid (hka.later hb3)
    have HUV := Lib.hid (hua.later hb3)
    have HM := Lib.hid (fun (W : World) (hb : Below w.heap.size w W) => made_prog L la lc W (by omega) hsmall (HL.out.later hb) (HS.out.later hb))
    obtain ⟨hwf, hml⟩ := made_ok L hsmall
    obtain ⟨M, hM⟩ : ∃ M, M = madeT L := ⟨_, rfl⟩
    rw [← hM] at HM hwf hml
    have hMn : (MT.pairs M).length ≤ 25 := by omega
    obtain ⟨KK, hKK⟩ : ∃ x, x = K.map keyB := ⟨_, rfl⟩
    obtain ⟨UU, hUU⟩ : ∃ x, x = U.map keyI := ⟨_, rfl⟩
    have hKKl : KK.length = K.length := by rw [hKK, List.length_map]
    have hUUl : UU.length = U.length := by rw [hUU, List.length_map]
    have hks32 : ∀ k ∈ KK, k.size = 32 := by rw [hKK]; exact keys_32 K
    have hus32 : ∀ q ∈ UU, q.1.size = 32 := by rw [hUU]; exact askd_32 U
    rw [← hKK] at HKV
    rw [← hUU] at HUV
    have hshort : shortX (ks text) := shortX_of (by omega)
    have HRM := Lib.hid (fun (x : Value) (W : World) (h : MAt W M x) => root_prog h)
    have HOP := Lib.hid (fun (r : ByteArray) (W : World) (hb : Below w.heap.size w W) => open_prog r text W (by omega) hshort (HS.out.later hb))
    have HOR := Lib.hid (fun (W : World) => open_ref text W (by omega) hshort)
    have hOO : openO (MT.root M) (ks text) = (match openX (ks text) with | some m => if MP.root m = MT.root M then some m else none | none => none) := rfl
    have HOP1 := Lib.hid (fun (W : World) (hb : Below w.heap.size w W) => HOP.out (MT.root M) W hb)
    rw [hOO] at HOP1
    obtain ⟨X, hX⟩ : ∃ X, X = openX (ks text) := ⟨_, rfl⟩
    have HX := Lib.hid hX
    rw [← hX] at HOP1 HOR
    clear hsm hky hka hua hlen hM hKK hUU hshK hshU hb3 hml hqc hX hOO hshort HOP
    go_wp2_with fail
    refine (HM.out w3 B3.out).mono ?_
    rintro e w4 ⟨x, wv, rfl, hx4, hw4, hb4⟩
    have XT := Lib.hid hx4
    have PW := Lib.hid (POwn.sl hw4)
    have B4 := Lib.hid (B3.out.trans (hb4.mono B3.out.size))
    have KV4 := Lib.hid (HKV.out.later hb4)
    have UV4 := Lib.hid (HUV.out.later hb4)
    clear hx4 hw4 hb4
    go_wp2_with fail
    refine (HRM.out x w4 XT.out).mono ?_
    rintro e w5 ⟨rfl, hb5⟩
    have XT5 := Lib.hid (XT.out.later hb5)
    have PW5 := Lib.hid (PW.out.later hb5)
    have B5 := Lib.hid (B4.out.trans (hb5.mono B4.out.size))
    have KV5 := Lib.hid (KV4.out.later hb5)
    have UV5 := Lib.hid (UV4.out.later hb5)
    clear hb5
    cases X with
    | none =>
      simp only at HOP1
      unfold EdRes at HOP1
      unfold OrRes tv0 tv at HOR
      go_wp2_with fail
      refine (HOP1.out w5 B5.out).mono ?_
      rintro e w6 ⟨rfl, hb6⟩
      have B6 := Lib.hid (B5.out.trans (hb6.mono B5.out.size))
      clear hb6
      go_wp2_with fail
      refine (HOR.out w6).mono ?_
      rintro e w7 ⟨rfl, hb7⟩
      have B7 := Lib.hid (B6.out.trans (hb7.mono B6.out.size))
      have BA := Lib.hid (B7.out.alloc B7.out.size zTree)
      clear hb7
      go_wp2_with fail
      go_ret
      exact ⟨rfl, BA.out⟩
    | some m =>
      obtain ⟨hok, hfit, htl⟩ := open_fit hkl HX.out.symm
      have HORM : Hid (∀ W, Calls Tryz.prog 19 #[.string text] W (fun e w' => ∃ xv, e = .returned (.tuple #[xv, .bool true]) ∧ RTM W.heap.size w' m xv ∧ Below W.heap.size W w')) := Lib.hid (fun W => by
        refine (HOR.out W).mono ?_
        intro e w' hr
        match m, hr with
        | none, ⟨e1, hb⟩ => exact ⟨tv0, e1, rfl, hb⟩
        | some t, ⟨kd, p, k, v, s, e1, hrt, hb⟩ => exact ⟨_, e1, hrt, hb⟩)
      have HRR := Lib.hid (fun (B : Nat) (w : World) (x : Value) (h : RTM B w m x) => root_refM h hok)
      have HTX := Lib.hid (fun (B : Nat) (w : World) (x : Value) (h : RTM B w m x) => rtexts_any h hok (by omega))
      have HTM := Lib.hid (fun (v : Value) (W : World) (h : PSl W v (MT.pairs M)) => texts_any M v W hwf (by omega) h)
      have HAG := Lib.hid (fun (d : Nat) (t kv uv : Value) (W : World) (hb : Below w.heap.size w W) (h1 : PAt W m (pp d)) (h2 : MAt W M t) (h3 : StrSl W kv KK) (h4 : ASl W uv UU) => agrees_prog KK UU m M d t kv uv W (by omega) (by omega) hks32 hus32 hfit hwf (by omega) (HS.out.later hb) h1 h2 h3 h4)
      have hor := part_or hok hwf (M := M) (X := m)
      have hag := fun h => sound_agree (KK := KK) (UU := UU) (X := m) h hwf hks32
      have hsz : ∀ x ∈ MT.txs M ++ MP.txs m, x.size ≤ 100000 := fun x hx => by
        rcases List.mem_append.1 hx with hx | hx
        · exact MT.txs_size hwf x hx
        · exact MP.txs_size hok x hx
      have hln : (MT.txs M).length + (MP.txs m).length ≤ 1000 := by
        have h1 := @MT.txs_length M
        have h2 : (MP.txs m).length = (MP.texts m).length := List.length_map ..
        omega
      have HSZ := Lib.hid hsz
      have HLN := Lib.hid hln
      obtain ⟨RM, hRM⟩ : ∃ R, R = MT.root M := ⟨_, rfl⟩
      obtain ⟨RX, hRX⟩ : ∃ R, R = MP.root m := ⟨_, rfl⟩
      simp only at HOP1
      rw [← hRM, ← hRX] at hor
      rw [← hRM] at HRM ⊢
      rw [← hRX] at HRR
      rw [← hRM, ← hRX] at HOP1
      have HOR2 := Lib.hid hor
      have HAG2 := Lib.hid hag
      clear HOR hok hfit htl hwf hor hag hsz hln hRM hRX hks32 hus32 hKKl hUUl hMn hkl hts hsmall hK8 hU4 ht
      by_cases hR : RX = RM
      · have hI : RX.toList = RM.toList := by rw [hR]
        rw [if_pos hR] at HOP1
        unfold EdRes at HOP1
        have hor := HOR2.out hR
        go_wp2_with fail
        refine (HOP1.out w5 B5.out).mono ?_
        rintro e w6 ⟨y, rfl, hp6, hb6⟩
        obtain ⟨yd, rfl⟩ := hp6.ptr
        have P6 := Lib.hid hp6
        have XT6 := Lib.hid (XT5.out.later hb6)
        have PW6 := Lib.hid (PW5.out.later hb6)
        have B6 := Lib.hid (B5.out.trans (hb6.mono B5.out.size))
        have KV6 := Lib.hid (KV5.out.later hb6)
        have UV6 := Lib.hid (UV5.out.later hb6)
        clear hb6 hp6
        unfold pp
        go_wp2_with fail
        refine (HORM.out w6).mono ?_
        rintro e w7 ⟨xv, rfl, hrt, hb7⟩
        obtain ⟨kd, p, k, v, hh, a, n, c, rfl⟩ := hrt.shape
        unfold tv at hrt ⊢
        have hbl := heap_alloc_new w7 (.cells #[.int .i64 kd, .string k, .string v, .int .i64 p, .slice a n c, .string hh] 54)
        obtain ⟨W2, hW2⟩ : ∃ W, W = w7.alloc (.cells #[.int .i64 kd, .string k, .string v, .int .i64 p, .slice a n c, .string hh] 54) := ⟨_, rfl⟩
        rw [← hW2] at hbl
        have hb22 : Below w7.heap.size w7 W2 := by rw [hW2]; exact (Below.refl _ _).alloc (Nat.le_refl _) _
        have B7 := Lib.hid (B6.out.trans (hb7.mono B6.out.size))
        have B_2 := Lib.hid (B7.out.trans (hb22.mono B7.out.size))
        have RT2 := Lib.hid (hrt.later hb22)
        have RT_2 := Lib.hid (hrt.later hb22)
        have XT_2 := Lib.hid ((XT6.out.later hb7).later hb22)
        have PW_2 := Lib.hid ((PW6.out.later hb7).later hb22)
        have P_2 := Lib.hid ((P6.out.later hb7).later hb22)
        have KV_2 := Lib.hid ((KV6.out.later hb7).later hb22)
        have UV_2 := Lib.hid ((UV6.out.later hb7).later hb22)
        have BL_2 := Lib.hid hbl
        have HW2 := Lib.hid hW2
        clear hb7 hW2 hbl hrt hb22
        go_wp2_with fail
        rw [← HW2.out]
        refine (HRR.out _ _ _ RT2.out W2).mono ?_
        rintro e w8 ⟨rfl, hb8⟩
        have RT_8 := Lib.hid (RT_2.out.later hb8)
        have XT_8 := Lib.hid (XT_2.out.later hb8)
        have PW_8 := Lib.hid (PW_2.out.later hb8)
        have P_8 := Lib.hid (P_2.out.later hb8)
        have KV_8 := Lib.hid (KV_2.out.later hb8)
        have UV_8 := Lib.hid (UV_2.out.later hb8)
        have BL_8 := Lib.hid (block_kept BL_2.out (World.lt_of_block BL_2.out) hb8)
        have B_8 := Lib.hid (B_2.out.trans (hb8.mono B_2.out.size))
        clear hb8
        go_wp2_with fail
        refine (HRM.out _ w8 XT_8.out).mono ?_
        rintro e w9 ⟨rfl, hb9⟩
        have RT_9 := Lib.hid (RT_8.out.later hb9)
        have XT_9 := Lib.hid (XT_8.out.later hb9)
        have PW_9 := Lib.hid (PW_8.out.later hb9)
        have P_9 := Lib.hid (P_8.out.later hb9)
        have KV_9 := Lib.hid (KV_8.out.later hb9)
        have UV_9 := Lib.hid (UV_8.out.later hb9)
        have BL_9 := Lib.hid (block_kept BL_8.out (World.lt_of_block BL_8.out) hb9)
        have B_9 := Lib.hid (B_8.out.trans (hb9.mono B_8.out.size))
        clear hb9
        have z := six_cells BL_9.out
        by_cases hA : Agree KK UU m M
        · have HAGT : Hid (∀ (W : World) (hb : Below w.heap.size w W) (h1 : PAt W m (pp yd)) (h2 : MAt W M x) (h3 : StrSl W (.slice qa K.length qc) KK) (h4 : ASl W uv2 UU), Calls Tryz.prog 21 #[pp yd, x, .slice qa K.length qc, uv2] W fun e w' => e = .returned (.bool true) ∧ Below W.heap.size W w') := Lib.hid (fun W hb h1 h2 h3 h4 => by
            refine (HAG.out yd x _ _ W hb h1 h2 h3 h4).mono ?_
            rintro e w' ⟨b, rfl, hb, hbe⟩
            exact ⟨by rw [hb.2 hA], hbe⟩)
          clear hor HAG hA
          have P9 := P_9
          unfold pp at HAGT P9
          go_wp2_with fail
          first
            | (go_region_with (first | (go_at_call 21; (with_reducible refine (HAGT.out _ B_9.out.drew (P9.out.later ((Below.refl _ _).drew)) (XT_9.out.later ((Below.refl _ _).drew)) (KV_9.out.later ((Below.refl _ _).drew)) (UV_9.out.later ((Below.refl _ _).drew))).mono ?_); rintro e w10 ⟨rfl, hb10⟩; have B_10 := Lib.hid (B_9.out.drew.trans (hb10.mono B_9.out.drew.size)); have BL_10 := Lib.hid (block_kept (show w9.drew.heap[w7.heap.size]? = _ from BL_9.out) (World.lt_of_block BL_9.out) hb10); have z10 := six_cells BL_10.out; clear hb10)))
            | fail
          all_goals (go_wp2; go_ret; exact ⟨rfl, B_10.out⟩)
        · have hcb : ClB (MT.txs M ++ MP.txs m) := hor.resolve_left (fun h => hA (HAG2.out h))
          have HCB := Lib.hid hcb
          have HAGT : Hid (∀ (W : World) (hb : Below w.heap.size w W) (h1 : PAt W m (pp yd)) (h2 : MAt W M x) (h3 : StrSl W (.slice qa K.length qc) KK) (h4 : ASl W uv2 UU), Calls Tryz.prog 21 #[pp yd, x, .slice qa K.length qc, uv2] W fun e w' => e = .returned (.bool false) ∧ Below W.heap.size W w') := Lib.hid (fun W hb h1 h2 h3 h4 => by
            refine (HAG.out yd x _ _ W hb h1 h2 h3 h4).mono ?_
            rintro e w' ⟨b, rfl, hb, hbe⟩
            cases b with
            | false => exact ⟨rfl, hbe⟩
            | true => exact absurd (hb.1 rfl) hA)
          clear hor HAG hA hcb
          have P9 := P_9
          unfold pp at HAGT P9
          go_wp2_with fail
          go_region_held3 (fun X => X.cell? ⟨w7.heap.size, 0, none⟩ = some (.int .i64 kd) ∧ X.cell? ⟨w7.heap.size, 1, none⟩ = some (.string k) ∧ X.cell? ⟨w7.heap.size, 2, none⟩ = some (.string v) ∧ X.cell? ⟨w7.heap.size, 3, none⟩ = some (.int .i64 p) ∧ X.cell? ⟨w7.heap.size, 4, none⟩ = some (.slice a n c) ∧ X.cell? ⟨w7.heap.size, 5, none⟩ = some (.string hh))
            (first | with_reducible exact z | with_reducible exact z10 | with_reducible exact z11 | with_reducible exact z12 | with_reducible exact z13 | with_reducible exact z14 | exact (show _ ∧ _ from z))
            (first
              | (go_at_call 21; (with_reducible refine (HAGT.out _ B_9.out.drew (P9.out.later ((Below.refl _ _).drew)) (XT_9.out.later ((Below.refl _ _).drew)) (KV_9.out.later ((Below.refl _ _).drew)) (UV_9.out.later ((Below.refl _ _).drew))).mono ?_); rintro e w10 ⟨rfl, hb10⟩; have B_10 := Lib.hid (B_9.out.drew.trans (hb10.mono B_9.out.drew.size)); have BL_10 := Lib.hid (block_kept (show w9.drew.heap[w7.heap.size]? = _ from BL_9.out) (World.lt_of_block BL_9.out) hb10); have z10 := six_cells BL_10.out; have PW_10 := Lib.hid ((PW_9.out.later ((Below.refl _ _).drew)).later hb10); have RT_10 := Lib.hid ((RT_9.out.later ((Below.refl _ _).drew)).later hb10); clear hb10)
              | (go_at_call 23; (with_reducible refine (HTM.out _ w10 PW_10.out).mono ?_); rintro e w11 ⟨va, rfl, ho11, hb11⟩; have SA := Lib.hid ho11; obtain ⟨aa, ac, hva⟩ := SOwn.shape ho11; subst hva; have B_11 := Lib.hid (B_10.out.trans (hb11.mono B_10.out.size)); have BL_11 := Lib.hid (block_kept BL_10.out (World.lt_of_block BL_10.out) hb11); have z11 := six_cells BL_11.out; have RT_11 := Lib.hid (RT_10.out.later hb11); clear ho11 hb11)
              | (go_at_call 24; (with_reducible refine (HTX.out _ _ _ RT_11.out).mono ?_); rintro e w12 ⟨vb, rfl, ho12, hb12⟩; have SB := Lib.hid ho12; obtain ⟨ba, bc, hvb⟩ := SOwn.shape ho12; subst hvb; have SA_12 := Lib.hid (SA.out.later hb12); have B_12 := Lib.hid (B_11.out.trans (hb12.mono B_11.out.size)); have BL_12 := Lib.hid (block_kept BL_11.out (World.lt_of_block BL_11.out) hb12); have z12 := six_cells BL_12.out; have hal : Below w12.heap.size w12 (w12.alloc (.cells #[.slice aa (MT.txs M).length ac, .slice ba (MP.txs m).length bc] 23)) := (Below.refl _ w12).alloc (Nat.le_refl _) _; obtain ⟨q0, q1⟩ := two_cells (heap_at_alloc w12 (.cells #[.slice aa (MT.txs M).length ac, .slice ba (MP.txs m).length bc] 23)); have HCLR := Lib.hid (clash_ref (MT.txs M) (MP.txs m) _ _ w12.heap.size _ _ _ (by simp) q0 q1 (SA_12.out.later hal) (SB.out.later hal) HLN.out HSZ.out); have BA := Lib.hid (B_12.out.trans (hal.mono B_12.out.size)); have BL_13 := Lib.hid (block_kept BL_12.out (World.lt_of_block BL_12.out) hal); have z13 := six_cells BL_13.out; clear hal q0 q1 ho12 hb12)
              | (go_at_call 22; (with_reducible refine HCLR.out.mono ?_); rintro e wz ⟨b, rfl, hcb, hbz⟩; obtain rfl := hcb HCB.out; have BZ := Lib.hid (BA.out.trans (hbz.mono BA.out.size)); have BL_14 := Lib.hid (block_kept BL_13.out (World.lt_of_block BL_13.out) hbz); have z14 := six_cells BL_14.out; clear hcb hbz))
          · go_wp2
            go_ret
            exact ⟨rfl, BZ.out⟩
      · have hI : (RX.toList == RM.toList) = false := str_ne hR
        rw [if_neg hR] at HOP1
        unfold EdRes at HOP1
        clear HOR2 HAG2 HAG HTM HTX HSZ HLN hR
        go_wp2_with fail
        refine (HOP1.out w5 B5.out).mono ?_
        rintro e w6 ⟨rfl, hb6⟩
        have XT6 := Lib.hid (XT5.out.later hb6)
        have B6 := Lib.hid (B5.out.trans (hb6.mono B5.out.size))
        clear hb6
        go_wp2_with fail
        refine (HORM.out w6).mono ?_
        rintro e w7 ⟨xv, rfl, hrt, hb7⟩
        obtain ⟨kd, p, k, v, hh, a, n, c, rfl⟩ := hrt.shape
        unfold tv at hrt ⊢
        have hbl := heap_alloc_new w7 (.cells #[.int .i64 kd, .string k, .string v, .int .i64 p, .slice a n c, .string hh] 54)
        obtain ⟨W2, hW2⟩ : ∃ W, W = w7.alloc (.cells #[.int .i64 kd, .string k, .string v, .int .i64 p, .slice a n c, .string hh] 54) := ⟨_, rfl⟩
        have hb22 : Below w7.heap.size w7 W2 := by rw [hW2]; exact (Below.refl _ _).alloc (Nat.le_refl _) _
        have B7 := Lib.hid (B6.out.trans (hb7.mono B6.out.size))
        have B_2 := Lib.hid (B7.out.trans (hb22.mono B7.out.size))
        have RT2 := Lib.hid (hrt.later hb22)
        have XT_2 := Lib.hid ((XT6.out.later hb7).later hb22)
        have HW2 := Lib.hid hW2
        clear hb7 hW2 hbl hrt hb22
        go_wp2_with fail
        rw [← HW2.out]
        refine (HRR.out _ _ _ RT2.out W2).mono ?_
        rintro e w8 ⟨rfl, hb8⟩
        have XT_8 := Lib.hid (XT_2.out.later hb8)
        have B_8 := Lib.hid (B_2.out.trans (hb8.mono B_2.out.size))
        clear hb8
        go_wp2_with fail
        refine (HRM.out _ w8 XT_8.out).mono ?_
        rintro e w9 ⟨rfl, hb9⟩
        have B_9 := Lib.hid (B_8.out.trans (hb9.mono B_8.out.size))
        clear hb9
        go_wp2_with fail
        go_ret
        exact ⟨rfl, B_9.out⟩
end Go.Proofs.YtmpjpaomgifpcaaGreatDoor
