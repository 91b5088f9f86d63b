/- part's promise of what is shown: the law. -/
import Derived.Test.YtmpjpaomgifpcaaGreatDoorPAwk
import Derived.Test.YtmpjpaomgifpcaaGreatDoorPArg
import Derived.Test.YtmpjpaomgifpcaaGreatDoorPShowR
import Derived.Test.YtmpjpaomgifpcaaGreatDoorPSound
import Derived.Test.YtmpjpaomgifpcaaGreatDoorBRefU
import Derived.Test.YtmpjpaomgifpcaaGreatDoorBRefA
namespace Go.Proofs.YtmpjpaomgifpcaaGreatDoor
open Go.RowKit
open Cod (F Nd KidsAt Lies nodeV CellsOf)

theorem askW_32 (U : List AI) : ∀ q ∈ U.map keyI, q.1.size = 32 := by
  intro q hq
  obtain ⟨y, _, rfl⟩ := List.mem_map.1 hq
  exact keyB_size y.1
theorem keysW_32 (K : List ByteArray) : ∀ k ∈ K.map keyB, k.size = 32 := by
  intro k hk
  obtain ⟨y, _, rfl⟩ := List.mem_map.1 hk
  exact keyB_size y
theorem pairW {m : Option Tr} (hm : MT.wf m) : ∀ x ∈ MT.pairs m, x.1.size = 32 := by
  intro x hx
  cases m with
  | none => cases hx
  | some t => exact (Tr.pairs_ok hm x hx).1
theorem right_256W {k : ByteArray} (hk : k.size = 32) : rightB k 256 = true := decide_eq_true ⟨hk, by decide, by decide⟩
theorem key_asked {K : List ByteArray} {U : List AI} {k : ByteArray} (h : k ∈ K) (hk : k.size = 32) : (k, 256) ∈ askL K U :=
  List.mem_map.2 ⟨(k, 256), List.mem_filter.2 ⟨List.mem_append_left _ (List.mem_map.2 ⟨k, h, rfl⟩), right_256W hk⟩, rfl⟩
theorem und_asked {K : List ByteArray} {U : List AI} {k : ByteArray} {n : Int} (h : (k, n) ∈ U) (hr : rightB k n = true) : (k, n.toNat) ∈ askL K U :=
  List.mem_map.2 ⟨(k, n), List.mem_filter.2 ⟨List.mem_append_right _ h, hr⟩, rfl⟩
theorem cut_pruneM (A : List Ask) (m : Option Tr) : PruneM (cutM A m) m := by
  cases m with
  | none => trivial
  | some t => exact cut_prune A t
theorem und_len2 {m : Option Tr} (k : ByteArray) (n : Int) (h : (MT.pairs m).length ≤ 100) : (undL k n (MT.pairs m)).length ≤ 50000 := by
  have : (undL k n (MT.pairs m)).length ≤ (MT.pairs m).length := by
    unfold undL
    split
    · exact List.length_filter_le _ _
    · exact Nat.zero_le _
  omega
theorem pat_ptr {w : World} {m : Option PT} {x : Value} (h : PAt w m x) : ∃ d, x = pp d := by
  obtain ⟨b, _, e, _⟩ := h
  exact ⟨b, e⟩
def LpRel (n : Nat) (w : World) (i : Value) (wr : World) : Prop := ∃ j : Nat, i = .int .i64 j ∧ j ≤ n ∧ Below w.heap.size w wr

set_option maxRecDepth 30000 in
set_option maxHeartbeats 4000000 in
theorem showr_prog (K : List ByteArray) (U : List AI) (M : Option Tr) (lv kv uv : Value) (w : World) (hK : K.length ≤ 100) (hU : U.length ≤ 100) (hks : ∀ q ∈ K, q.size = 32) (hus : ∀ q ∈ U, q.1.size = 32) (hm : MT.wf M) (hl : (MT.pairs M).length ≤ 100) (h : PSl w lv (MT.pairs M)) (h1 : StrSl w kv K) (h2 : ASl w uv U) :
    Calls Tryz.prog 10 #[lv, kv, uv] w fun e w' => e = .returned (.tuple #[.string (showT (askL K U) M), .bool true]) ∧ Below w.heap.size w w' := by
  obtain ⟨A, hA⟩ : ∃ A, A = askL K U := ⟨_, rfl⟩
  have hdeep := showN_deep A M hm (by omega)
  have hlen := showL_len A M hm (by omega)
  have hWW := Lib.hid (fun (nv : Value) (W : World) (h : KidsAt W (fun b => b < W.heap.size) (showN A M) nv) => Cod.write_ref ⟨2, 0, ⟨#[]⟩, showN A M⟩ nv W (showNd_ok A M hm (by omega)) (by show (showN A M).deep ≤ 1000000; omega) h (by show (showL A M).length ≤ 16777216; omega) true (showT A M) (showNd_right A M hm (by omega)) rfl)
  unfold nodeV at hWW
  rw [← hA]
  have HK := Lib.hid h1
  have HU := Lib.hid h2
  have HP := Lib.hid h
  obtain ⟨kc1, kc2, rfl, _⟩ := h1
  obtain ⟨uc1, uc2, rfl, _, _⟩ := h2
  obtain ⟨la, lc, rfl, _, _⟩ := h
  clear hlen hdeep
  cases M with
  | none =>
    have hl0 : (((MT.pairs none).length : Nat) : Int) = 0 := rfl
    obtain ⟨N, hN⟩ : ∃ N, N = (MT.pairs none).length := ⟨_, rfl⟩
    rw [← hN] at hl0 HP ⊢
    clear hN hA hks hus hK hU hm hl HP HK HU
    go_enter Tryz.func10, Tryz.ntmps10
    go_wp2_with fail
    refine (l_ref none 0 0 _).mono ?_
    rintro e w2 ⟨rfl, hb2⟩
    have HB2 := Lib.hid hb2
    clear hb2
    go_wp2_with fail
    refine (hWW.out _ w2 (Cod.KidsAt.nil _ _)).mono ?_
    rintro e w3 ⟨rfl, hb3⟩
    have HB3 := Lib.hid (HB2.out.trans (hb3.mono HB2.out.size))
    clear hb3 hWW
    go_wp2
    go_ret2
    exact ⟨rfl, HB3.out⟩
  | some t =>
    have hsh := Lib.hid (rshow_ref K U (.slice kc1 K.length kc2) (.slice uc1 U.length uc2) hK hU hks hus t _ w hm hl HP.out HK.out HU.out)
    rw [← hA] at hsh
    obtain ⟨N, hN⟩ : ∃ N, N = (MT.pairs (some t)).length := ⟨_, rfl⟩
    have hl0 : ¬ ((N : Int) = 0) := by
      have := List.length_pos_iff.2 t.pairs_ne
      have e : N = t.pairs.length := hN
      omega
    have hl1 : ((N : Int) == 0) = false := by simp only [beq_eq_false_iff_ne]; exact hl0
    rw [← hN] at hsh ⊢
    clear hN hA hks hus hK hU hm hl HP HK HU
    go_enter Tryz.func10, Tryz.ntmps10
    go_wp2_with fail
    refine hsh.out.mono ?_
    rintro e w1 ⟨nv, rfl, hown, hb1⟩
    have HB1 := Lib.hid hb1
    have HKN : Hid (KidsAt w1 (fun b => b < w1.heap.size) (showN A (some t)) nv) := Lib.hid hown.kids
    obtain ⟨na, nc, rfl⟩ := hown.shape
    clear hown hb1 hsh
    go_wp2_with fail
    refine (l_ref na _ nc _).mono ?_
    rintro e w2 ⟨rfl, hb2⟩
    have HB2 := Lib.hid (HB1.out.trans (hb2.mono HB1.out.size))
    have HKN2 := Lib.hid (HKN.out.mono (S' := fun b => b < w2.heap.size) (fun b hb => Nat.lt_of_lt_of_le hb hb2.size) (fun b hb => hb2.block b hb))
    clear hb2
    go_wp2_with fail
    refine (hWW.out _ w2 HKN2.out).mono ?_
    rintro e w3 ⟨rfl, hb3⟩
    have HB3 := Lib.hid (HB2.out.trans (hb3.mono HB2.out.size))
    clear hb3 hWW
    go_wp2
    go_ret2
    exact ⟨rfl, HB3.out⟩

set_option maxRecDepth 30000 in
set_option maxHeartbeats 8000000 in
theorem shows_law (la : Option Addr) (ln lc : Nat) (av : Value) (w : World) (hst : Start w) (hl : ln ≤ maxLen) (hu : ActsAt w la ln) (ha : AskAt w av) :
    Calls Tryz.prog 3 #[.slice la ln lc, av] w fun e w' => e = .returned (.bool true) ∧ Below w.heap.size w w' := by
  obtain ⟨L, rfl, hL⟩ := acts_list hu
  obtain ⟨K, U, kv, uv, rfl, hK, hU, hKs, hUs, hks, hus⟩ := ha
  obtain ⟨W0, hW0⟩ : ∃ W, W = w.alloc (.cells #[kv, uv] 26) := ⟨_, rfl⟩
  have hbW : Below w.heap.size w W0 := by rw [hW0]; exact (Below.refl _ _).alloc (Nat.le_refl _) _
  obtain ⟨c0, c1⟩ := two_cells (w := W0) (b := w.heap.size) (by rw [hW0]; exact heap_alloc_new _ _)
  have hgW : w.heap.size < W0.heap.size := by rw [hW0]; simp
  have HL := Lib.hid hL
  have HS := Lib.hid hst
  have HA := Lib.hid (awake_prog W0 (hst.later hbW))
  have HKY := Lib.hid (fun (W : World) (hb : Below w.heap.size w W) => keys_prog K U kv uv W hK hU hKs hUs (hks.later hb) (hus.later hb))
  have HSM := Lib.hid (fun (W : World) (hb : Below w.heap.size w W) => small_prog L 25 la lc W hl (by omega) (by omega) (HL.out.later hb))
  have HBW := Lib.hid hbW
  have HW0 := Lib.hid hW0
  obtain ⟨ka, kc, rfl, _⟩ := hks
  obtain ⟨ua, uc, rfl, _, _⟩ := hus
  clear hst hu hL hl hK hU hKs hUs hbW hW0
  go_enter Tryz.func3, Tryz.ntmps3
  go_wp2_with fail
  rw [← HW0.out]
  refine HA.out.mono ?_
  rintro e w1 ⟨rfl, hb1⟩
  have B1 := Lib.hid (HBW.out.trans (hb1.mono HBW.out.size))
  have d0 : w1.cell? ⟨w.heap.size, 0, none⟩ = some (.slice ka K.length kc) := by rw [hb1.cell (p := ⟨w.heap.size, 0, none⟩) hgW]; exact c0
  have d1 : w1.cell? ⟨w.heap.size, 1, none⟩ = some (.slice ua U.length uc) := by rw [hb1.cell (p := ⟨w.heap.size, 1, none⟩) hgW]; exact c1
  clear hb1 c0 c1 hgW HBW
  go_wp2_with fail
  refine (HKY.out w1 B1.out).mono ?_
  rintro e w2 ⟨kv2, uv2, b, rfl, hb2, hky⟩
  have B2 := Lib.hid (B1.out.trans (hb2.mono B1.out.size))
  clear hb2 d0 d1
  go_wp2_with fail
  refine (HSM.out w2 B2.out).mono ?_
  rintro e w3 ⟨bs, rfl, hsm, hb3⟩
  have B3 := Lib.hid (B2.out.trans (hb3.mono B2.out.size))
  cases bs with
  | false =>
    clear hsm hky hb3
    go_wp2_with fail
    go_ret
    exact ⟨rfl, B3.out⟩
  | true =>
  cases b with
  | false =>
    clear hsm hky hb3
    go_wp2_with fail
    go_ret
    exact ⟨rfl, B3.out⟩
  | true =>
    obtain ⟨hlen, hsmall⟩ := hsm rfl
    obtain ⟨hka, hua, hK8, hU4, hshK, hshU, qa, qc, rfl, hqc⟩ := hky rfl
    have HKV := Lib.hid (hka.later hb3)
    have HUV := Lib.hid (hua.later hb3)
    have HM := Lib.hid (fun (W : World) (hb : Below w.heap.size w W) => made_prog L la lc W (by omega) hsmall (HL.out.later hb) (HS.out.later hb))
    obtain ⟨hwf, hml⟩ := made_ok L hsmall
    obtain ⟨M, hM⟩ : ∃ M, M = madeT L := ⟨_, rfl⟩
    rw [← hM] at HM hwf hml
    have hMn : (MT.pairs M).length ≤ 25 := by omega
    obtain ⟨KK, hKK⟩ : ∃ x, x = K.map keyB := ⟨_, rfl⟩
    obtain ⟨UU, hUU⟩ : ∃ x, x = U.map keyI := ⟨_, rfl⟩
    have hKKl : KK.length = K.length := by rw [hKK, List.length_map]
    have hUUl : UU.length = U.length := by rw [hUU, List.length_map]
    have hks32 : ∀ k ∈ KK, k.size = 32 := by rw [hKK]; exact keysW_32 K
    have hus32 : ∀ q ∈ UU, q.1.size = 32 := by rw [hUU]; exact askW_32 U
    rw [← hKK] at HKV
    rw [← hUU] at HUV
    obtain ⟨A, hA⟩ : ∃ A, A = askL KK UU := ⟨_, rfl⟩
    obtain ⟨T, hT⟩ : ∃ T, T = showT A M := ⟨_, rfl⟩
    obtain ⟨R, hR⟩ : ∃ R, R = MT.root M := ⟨_, rfl⟩
    obtain ⟨C, hC⟩ : ∃ C, C = cutM A M := ⟨_, rfl⟩
    have hpm : PruneM C M := by rw [hC]; exact cut_pruneM A M
    have hfit : MP.fit C := by rw [hC]; exact cutM_fit A M hwf (by omega)
    have hTl : T.size ≤ 10000000 := by
      have := showL_len A M hwf (by omega)
      rw [hT, ← ks_length, ks_showT]; omega
    have HSH := Lib.hid (fun (x kv uv : Value) (W : World) (h : MAt W M x) (hk : StrSl W kv KK) (hu : ASl W uv UU) => show_prog KK UU M x kv uv W (by omega) (by omega) hwf (by omega) h hk hu)
    have HSR := Lib.hid (fun (lv kv uv : Value) (W : World) (h : PSl W lv (MT.pairs M)) (hk : StrSl W kv KK) (hu : ASl W uv UU) => showr_prog KK UU M lv kv uv W (by omega) (by omega) hks32 hus32 hwf (by omega) h hk hu)
    rw [← hA, ← hT] at HSH HSR
    have HRM := Lib.hid (fun (x : Value) (W : World) (h : MAt W M x) => root_prog h)
    rw [← hR] at HRM
    have HOP := Lib.hid (fun (W : World) (hs : Start W) => open_prog R T W hTl (by rw [hT, ks_showT]; exact (open_shown A M hwf (by omega)).2) hs)
    rw [show openO R (ks T) = some C by rw [hR, hT, hC]; exact open_shown_root A M hwf (by omega)] at HOP
    unfold EdRes at HOP
    have hRP : MP.root C = R := by rw [hR]; exact pruneM_root hpm
    have HRP := Lib.hid (fun (y : Value) (W : World) (h : PAt W C y) => root_part h)
    rw [hRP] at HRP
    obtain ⟨P, hP⟩ : ∃ P, P = MT.pairs M := ⟨_, rfl⟩
    have HGP : Hid (∀ (k : ByteArray) (y : Value) (W : World), k ∈ KK → PAt W C y → Calls Tryz.prog 14 #[y, .string k] W fun e w' => e = .returned (.tuple #[.string ((getL k P).getD ⟨#[]⟩), .bool (getL k P).isSome, .bool true]) ∧ Below W.heap.size W w') := Lib.hid (fun k y W hk h => by
      have hk32 := hks32 k hk
      have hn : MP.und k 256 C ≠ none := by
        obtain ⟨a, ha⟩ := asked_known (A := A) (m := M) k 256 (fun _ => by rw [hA]; exact key_asked hk hk32)
        rw [hC, ha]; simp
      have := get_part k C y W hfit h
      rw [gtV_sound hpm hwf k hk32 hn, ← hP] at this
      exact this)
    have HUP : Hid (∀ (k : ByteArray) (n : Int) (y : Value) (W : World), (k, n) ∈ UU → PAt W C y → Calls Tryz.prog 16 #[y, .string k, .int .i64 n] W (UdRes W (some (undL k n P)))) := Lib.hid (fun k n y W hk h => by
      obtain ⟨a, ha⟩ := asked_known (A := A) (m := M) k n (fun hr => by rw [hA]; exact und_asked hk hr)
      rw [← hC] at ha
      have := under_part k n C y W hfit h
      rw [ha, und_sound hpm hwf k n ha, ← hP] at this
      exact this)
    have HGR := Lib.hid (fun (k : ByteArray) (lv : Value) (W : World) (h : PSl W lv P) => get_ref k P lv W (by rw [hP]; omega) h)
    have HUR := Lib.hid (fun (k : ByteArray) (n : Int) (lv : Value) (W : World) (h : PSl W lv P) => under_ref k n P lv W (by rw [hP]; exact pairW hwf) (by rw [hP]; omega) h)
    have HSS : Hid (∀ (k : ByteArray) (n : Int) (va vb : Value) (W : World), PSl W va (undL k n P) → PSl W vb (undL k n P) → Calls Tryz.prog 17 #[va, vb] W fun e w' => e = .returned (.bool true) ∧ Same W w') := Lib.hid (fun k n va vb W h1 h2 => by
      have := same_ref (undL k n P) (undL k n P) va vb W (by rw [hP]; exact und_len2 k n (by omega)) h1 h2
      rw [show sameB (undL k n P) (undL k n P) = true from decide_eq_true rfl] at this
      exact this)
    have hkk0 : (0 : Int) ≤ (KK.length : Int) := by omega
    have hkk8 : KK.length ≤ 8 := by omega
    have huu0 : (0 : Int) ≤ (UU.length : Int) := by omega
    have huu4 : UU.length ≤ 4 := by omega
    rw [← hP] at HSR
    have HPQ := Lib.hid hP
    have HKL := Lib.hid hKKl
    obtain ⟨ub, uc2, hue, _, _⟩ := HUV.out
    rw [hUUl] at hue
    subst hue
    have HUL := Lib.hid hUUl
    have hu4 : U.length ≤ 4 := by omega
    have hu00 : (0 : Int) ≤ (U.length : Int) := by omega
    have hk00 : (0 : Int) ≤ (K.length : Int) := by omega
    clear hUUl hKKl hkk0 hkk8 huu0 huu4
    have hk8 : K.length ≤ 8 := by omega
    clear hsm hky hka hua hlen hKK hUU hshK hshU hb3 hml hqc hM hP hA hT hR hC hpm hfit hTl hwf hMn hRP hks32 hus32 hsmall hK8 hU4
    go_wp2_with fail
    (with_reducible refine (HM.out w3 B3.out).mono ?_)
    rintro e w4 ⟨x, wv, rfl, hx4, hw4, hb4⟩
    have XT4 := Lib.hid hx4
    have PW4 : Hid (PSl w4 wv P) := Lib.hid (by rw [HPQ.out]; exact POwn.sl hw4)
    have KV4 := Lib.hid (HKV.out.later hb4)
    have UV4 := Lib.hid (HUV.out.later hb4)
    have B4 := Lib.hid (B3.out.trans (hb4.mono B3.out.size))
    clear hx4 hw4 hb4 HM HKV HUV
    go_wp2_with fail
    (with_reducible refine (HSH.out x _ _ w4 XT4.out KV4.out UV4.out).mono ?_)
    rintro e w5 ⟨rfl, hb5⟩
    have XT5 := Lib.hid (XT4.out.later hb5)
    have PW5 := Lib.hid (PW4.out.later hb5)
    have KV5 := Lib.hid (KV4.out.later hb5)
    have UV5 := Lib.hid (UV4.out.later hb5)
    have B5 := Lib.hid (B4.out.trans (hb5.mono B4.out.size))
    clear hb5
    go_wp2_with fail
    (with_reducible refine (HSR.out wv _ _ w5 PW5.out KV5.out UV5.out).mono ?_)
    rintro e w6 ⟨rfl, hb6⟩
    have XT6 := Lib.hid (XT5.out.later hb6)
    have PW6 := Lib.hid (PW5.out.later hb6)
    have KV6 := Lib.hid (KV5.out.later hb6)
    have UV6 := Lib.hid (UV5.out.later hb6)
    have B6 := Lib.hid (B5.out.trans (hb6.mono B5.out.size))
    clear hb6
    go_wp2_with fail
    (with_reducible refine (HRM.out x w6 XT6.out).mono ?_)
    rintro e w7 ⟨rfl, hb7⟩
    have XT7 := Lib.hid (XT6.out.later hb7)
    have PW7 := Lib.hid (PW6.out.later hb7)
    have KV7 := Lib.hid (KV6.out.later hb7)
    have UV7 := Lib.hid (UV6.out.later hb7)
    have B7 := Lib.hid (B6.out.trans (hb7.mono B6.out.size))
    clear hb7
    go_wp2_with fail
    (with_reducible refine (HOP.out w7 (HS.out.later B7.out)).mono ?_)
    rintro e w8 ⟨y, rfl, hy, hb8⟩
    have Y8 := Lib.hid hy
    obtain ⟨yd, rfl⟩ := pat_ptr hy
    unfold pp at Y8 ⊢
    clear hy
    have XT8 := Lib.hid (XT7.out.later hb8)
    have PW8 := Lib.hid (PW7.out.later hb8)
    have KV8 := Lib.hid (KV7.out.later hb8)
    have UV8 := Lib.hid (UV7.out.later hb8)
    have B8 := Lib.hid (B7.out.trans (hb8.mono B7.out.size))
    clear hb8
    go_wp2_with fail
    (with_reducible refine (HRP.out _ w8 Y8.out).mono ?_)
    rintro e w9 ⟨rfl, hb9⟩
    have XT9 := Lib.hid (XT8.out.later hb9)
    have PW9 := Lib.hid (PW8.out.later hb9)
    have KV9 := Lib.hid (KV8.out.later hb9)
    have UV9 := Lib.hid (UV8.out.later hb9)
    have Y9 := Lib.hid (Y8.out.later hb9)
    have B9 := Lib.hid (B8.out.trans (hb9.mono B8.out.size))
    clear hb9
    go_wp2_with fail
    (with_reducible refine (HRM.out x w9 XT9.out).mono ?_)
    rintro e w10 ⟨rfl, hb10⟩
    have PW10 := Lib.hid (PW9.out.later hb10)
    have KV10 := Lib.hid (KV9.out.later hb10)
    have UV10 := Lib.hid (UV9.out.later hb10)
    have Y10 := Lib.hid (Y9.out.later hb10)
    have B10 := Lib.hid (B9.out.trans (hb10.mono B9.out.size))
    clear hb10
    clear HSH HSR HRM HOP HRP
    go_wp2_with fail
    go_loopw [92] (LpRel K.length w10) (fun i _ => 9 - (intOf i).toNat)
    case atStart => exact ⟨0, rfl, by omega, Below.refl _ _⟩
    case round =>
      obtain ⟨j, rfl, hj, hb⟩ := hrel
      have hj0 : (0 : Int) ≤ (j : Int) := by omega
      have hj1 : (j : Int) ≤ 8 := by omega
      have HB := Lib.hid hb
      by_cases hlt : j < K.length
      · have hltI : (j : Int) < (K.length : Int) := by omega
        have hltK : j < KK.length := by rw [HKL.out]; exact hlt
        obtain ⟨q, hq⟩ : ∃ q, q = KK[j] := ⟨_, rfl⟩
        have hqj : KK[j]? = some q := by rw [hq]; exact List.getElem?_eq_getElem hltK
        have HIN : Hid (q ∈ KK) := Lib.hid (by rw [hq]; exact List.getElem_mem hltK)
        obtain ⟨a2, c2, he2, hne2⟩ := KV10.out
        injection he2 with ee1 ee2 ee3
        clear ee2
        subst ee1 ee3
        obtain ⟨g, o, rfl, hg, hcs⟩ := hne2 (by intro e; rw [e] at hltK; simp at hltK)
        have x0 : wr.cell? ⟨g, o + j, none⟩ = some (.string q) := cellB hb (hcs j q hqj)
        have PWr := Lib.hid (PW10.out.later hb)
        have Yr := Lib.hid (Y10.out.later hb)
        have hget := Lib.hid (HGP.out q _ wr HIN.out Yr.out)
        have hgr := Lib.hid (fun W (h : PSl W wv P) => HGR.out q wv W h)
        unfold GetRes at hgr
        obtain ⟨v, hv⟩ : ∃ v, v = (getL q P).getD ⟨#[]⟩ := ⟨_, rfl⟩
        obtain ⟨f, hf⟩ : ∃ f, f = (getL q P).isSome := ⟨_, rfl⟩
        rw [← hv, ← hf] at hget hgr
        clear hq hqj hcs hne2 hb hv hf hlt hltK
        go_wp2_with fail
        refine hget.out.mono ?_
        rintro e w11 ⟨rfl, hb11⟩
        have PW11 := Lib.hid (PWr.out.later hb11)
        have HB11 := Lib.hid (HB.out.trans (hb11.mono HB.out.size))
        clear hb11 x0
        go_wp2_with fail
        (with_reducible refine (hgr.out w11 PW11.out).mono ?_)
        rintro e w12 ⟨rfl, hs12⟩
        have HB12 := Lib.hid (HB11.out.trans ((hs12.below w11.heap.size).mono HB11.out.size))
        clear hs12
        go_wp2_with fail
        go_roundw
        case rel => exact ⟨j + 1, by go_num, by omega, HB12.out⟩
        case measure => simp [intOf]; omega
      · have hltI : ¬ (j : Int) < (K.length : Int) := by omega
        obtain ⟨wo, hwo⟩ : ∃ x, x = wr := ⟨_, rfl⟩
        subst hwo
        clear hlt hj hb
        go_wp2_with fail
        clear hltI hj0 hj1
        go_loopw [124] (LpRel U.length wo) (fun i _ => 5 - (intOf i).toNat)
        case atStart => exact ⟨0, rfl, by omega, Below.refl _ _⟩
        case round =>
          obtain ⟨i, rfl, hi, hb⟩ := hrel
          have hi0 : (0 : Int) ≤ (i : Int) := by omega
          have hi1 : (i : Int) ≤ 4 := by omega
          have HB2 := Lib.hid (HB.out.trans (hb.mono HB.out.size))
          have HBo := Lib.hid hb
          by_cases hlt : i < U.length
          · have hltI : (i : Int) < (U.length : Int) := by omega
            have hltU : i < UU.length := by rw [HUL.out]; exact hlt
            obtain ⟨q, hq⟩ : ∃ q, q = UU[i] := ⟨_, rfl⟩
            have hqj : UU[i]? = some q := by rw [hq]; exact List.getElem?_eq_getElem hltU
            have hin : q ∈ UU := by rw [hq]; exact List.getElem_mem hltU
            obtain ⟨a2, c2, he2, _, hne2⟩ := UV10.out
            injection he2 with ee1 ee2 ee3
            clear ee2
            subst ee1 ee3
            obtain ⟨g, o, rfl, hg, hcs⟩ := hne2 (by intro e; rw [e] at hltU; simp at hltU)
            obtain ⟨d0, d1⟩ := hcs i q hqj
            obtain ⟨qk, qn⟩ := q
            have x0 : wr.cell? ⟨g, o + i * 2, none⟩ = some (.string qk) := cellB HB2.out d0
            have x1 : wr.cell? ⟨g, o + i * 2 + 1, none⟩ = some (.int .i64 qn) := cellB HB2.out d1
            obtain ⟨W1, hW1⟩ : ∃ W1, W1 = wr.alloc (.cells #[.string qk, .int .i64 qn] 46) := ⟨_, rfl⟩
            have hb1 : Below wr.heap.size wr W1 := by rw [hW1]; exact (Below.refl _ _).alloc (Nat.le_refl _) _
            obtain ⟨q0, q1⟩ := ask_cells (w := W1) (b := wr.heap.size) (k := qk) (n := qn) (by rw [hW1]; exact heap_alloc_new _ _)
            have t0 := q0
            have t1 := q1
            rw [hW1] at t0 t1
            have HBm := Lib.hid (HB2.out.trans (hb1.mono HB2.out.size))
            have HBn := Lib.hid (HBo.out.trans (hb1.mono HBo.out.size))
            have HW1 := Lib.hid hW1
            have Y1 := Lib.hid (Y10.out.later HBm.out)
            have PW1 := Lib.hid (PW10.out.later HBm.out)
            have hun := Lib.hid (HUP.out qk qn _ W1 hin Y1.out)
            have hur := Lib.hid (fun W (h : PSl W wv P) => HUR.out qk qn wv W h)
            have hss := Lib.hid (fun va vb W h1 h2 => HSS.out qk qn va vb W h1 h2)
            unfold UdRes at hun
            unfold PRes at hur
            clear hq hqj hcs hne2 hb d0 d1 hb1 hW1 hin hlt hltU
            go_wp2_with fail
            rw [← HW1.out]
            refine hun.out.mono ?_
            rintro e w11 ⟨lv, rfl, hgp, hb11⟩
            have r0 := cellB hb11 q0
            have r1 := cellB hb11 q1
            have L11 := Lib.hid (POwn.sl (show POwn w11 W1.heap.size lv ([] ++ undL qk qn P) from hgp))
            rw [List.nil_append] at L11
            have PW11 := Lib.hid (PW1.out.later hb11)
            have HB11 := Lib.hid (HBn.out.trans (hb11.mono HBn.out.size))
            clear hb11 hgp q0 q1 t0 t1 x0 x1
            have hsm : (some (undL qk qn P)).isSome = true := rfl
            go_wp2_with fail
            (with_reducible refine (hur.out w11 PW11.out).mono ?_)
            rintro e w12 ⟨uv3, rfl, hm12, hb12⟩
            have L12 := Lib.hid (L11.out.later hb12)
            have M12 := Lib.hid (POwn.sl hm12)
            have HB12 := Lib.hid (HB11.out.trans (hb12.mono HB11.out.size))
            clear hb12 hm12 r0 r1
            go_wp2_with fail
            (with_reducible refine (hss.out lv uv3 w12 L12.out M12.out).mono ?_)
            rintro e w13 ⟨rfl, hs13⟩
            have HB13 := Lib.hid (HB12.out.trans ((hs13.below w12.heap.size).mono HB12.out.size))
            clear hs13
            go_wp2_with fail
            go_roundw
            case rel => exact ⟨i + 1, by go_num, by omega, HB13.out⟩
            case measure => simp [intOf]; omega
          · have hltI : ¬ (i : Int) < (U.length : Int) := by omega
            clear hb
            go_wp2_with fail
            go_ret
            exact ⟨rfl, B10.out.trans (HB2.out.mono B10.out.size)⟩
end Go.Proofs.YtmpjpaomgifpcaaGreatDoor
