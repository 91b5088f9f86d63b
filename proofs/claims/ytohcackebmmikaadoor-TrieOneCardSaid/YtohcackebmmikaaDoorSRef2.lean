import Derived.Test.YtohcackebmmikaaDoorShaRef
import Derived.Test.YtohcackebmmikaaDoorSRefA
namespace Go.Proofs.YtohcackebmmikaaDoor
open Go.RowKit

theorem Tryd.u64Sl : Sl Tryd.prog 83 92 (.int .u64 0) 8 := ⟨Tryd.underlying83, by kernel_rfl, rfl⟩

theorem cellBelow {B g k : Nat} {w0 w' : World} {v : Value} (h : Below B w0 w') (hg : g < B) (c : w0.cell? ⟨g, k, none⟩ = some v) : w'.cell? ⟨g, k, none⟩ = some v := (h.cell (p := ⟨g, k, none⟩) hg).trans c

/-- A slice of n numbers at the head of a block. -/
def At64 (w : World) (g : Nat) (l : List Int) : Prop := ∀ j, j < l.length → w.cell? ⟨g, j, none⟩ = some (u64V (l.getD j 0))
def At32 (w : World) (g : Nat) (l : List Int) : Prop := ∀ j, j < l.length → w.cell? ⟨g, j, none⟩ = some (u32V (l.getD j 0))

set_option maxHeartbeats 400000 in
theorem squares_ref (w : World) : Calls Tryd.prog 48 #[] w fun e w' => e = .returned (.slice (some ⟨w.heap.size, 0, none⟩) 4 4) ∧ w.heap.size < w'.heap.size ∧ At64 w' w.heap.size sqr ∧ Below w.heap.size w w' := by
  go_enter Tryd.func48, Tryd.ntmps48
  go_wp2
  go_ret
  refine ⟨rfl, by simp, fun j hj => ?_, (Below.refl _ _).alloc (Nat.le_refl _) _⟩
  rw [cell_of_row _ _ _ _ _ _ (heap_at_alloc w _)]
  have : j < 4 := hj
  match j, this with
  | 0, _ => rfl | 1, _ => rfl | 2, _ => rfl | 3, _ => rfl

set_option maxHeartbeats 1000000 in
set_option maxRecDepth 100000 in
theorem cubes_ref (w : World) : Calls Tryd.prog 49 #[] w fun e w' => e = .returned (.slice (some ⟨w.heap.size, 0, none⟩) 32 32) ∧ w.heap.size < w'.heap.size ∧ At64 w' w.heap.size cub ∧ Below w.heap.size w w' := by
  go_enter Tryd.func49, Tryd.ntmps49
  go_wp2
  go_ret
  refine ⟨rfl, by simp, fun j hj => ?_, (Below.refl _ _).alloc (Nat.le_refl _) _⟩
  rw [cell_of_row _ _ _ _ _ _ (heap_at_alloc w _)]
  have h : cub.map u64V = _ := rfl
  have h2 : (cub.map u64V)[j]? = some (u64V (cub.getD j 0)) := by simp [List.getD, hj]
  rw [← h2]
  simp only [List.getElem?_toArray]
  rfl

set_option maxHeartbeats 1000000 in
theorem halves_ref (g n c : Nat) (L : List Int) (w : World) (hn : L.length = n) (hg : g < w.heap.size) (hn2 : n ≤ 1000) (hc : At64 w g L) (hL : ∀ x ∈ L, 0 ≤ x ∧ x < 18446744073709551616) :
    Calls Tryd.prog 47 #[.slice (some ⟨g, 0, none⟩) n c] w fun e w' => ∃ v, e = .returned v ∧ Owns w' w.heap.size 94 v ((hv L).map u32V) ∧ Below w.heap.size w w' := by
  have HN := Lib.hid hn
  have hn3 : n ≤ L.length := by omega
  clear hn
  go_enter Tryd.func47, Tryd.ntmps47
  go_wp2_with fail
  go_loopw [3, 4] (fun v i wr => ∃ k : Nat, k ≤ n ∧ i = .int .i64 k ∧ Owns wr w.heap.size 94 v ((hv (L.take k)).map u32V) ∧ Below w.heap.size w wr) (fun _ i _ => n - (intOf i).toNat)
  case atStart => exact ⟨0, by omega, rfl, Owns.nil _ _ _, Below.refl _ _⟩
  case round =>
    obtain ⟨k, hk, rfl, hw, hb⟩ := hrel
    by_cases hlt : k < n
    · have c0 := cellBelow hb hg (hc k (by omega))
      have hx : 0 ≤ L.getD k 0 ∧ L.getD k 0 < 18446744073709551616 := hL _ (by
        have : k < L.length := by omega
        simp [List.getD, this])
      have hst := hv_take L k (by omega)
      obtain ⟨x, hxe⟩ : ∃ x, x = L.getD k 0 := ⟨_, rfl⟩
      rw [← hxe] at c0 hx hst
      have HX := Lib.hid hxe; clear hxe
      have HST := Lib.hid hst; clear hst
      obtain ⟨x0, x1⟩ := hx
      simp only [u64V] at c0
      have i0 : (0 : Int) ≤ (k : Int) := by omega
      have i1 : (k : Int) < (n : Int) := by omega
      have e0 : x.tmod 4294967296 = x % 4294967296 := Int.tmod_eq_emod_of_nonneg x0
      have hl : (hv (L.take k)).length ≤ 2000 := by rw [hv_length, List.length_take]; omega
      go_wp2_with fail
      go_region_held3 (fun w' => w'.cell? ⟨g, k, none⟩ = some (.int .u64 x))
        (first | exact c0 | exact cellBelow (((Below.refl _ _).alloc hb.size _).drew) hg c0 | exact cellBelow ((((Below.refl _ _).alloc hb.size _).drew).trans hb2) hg c0)
        ((refine step_app Tryd.u32Sl rfl _ _ rfl w.heap.size _ _ (by rfl) ((hw.alloc _).drew) wr.heap.size _ (by rfl) (heap_at_alloc wr _) (by simp [Value.oneCell']) (by simp) (by simp; unfold maxLen; omega) (by simp; omega) (by have := hb.size; simp [World.drew]; omega) ?_; intro v2 w2 hown2 hb2))
      all_goals
        have hcells : (hv (L.take k)).map u32V ++ [.int .u32 (IntKind.u32.wrap (IntKind.u64.wrap (x.tdiv 4294967296))), .int .u32 (IntKind.u32.wrap (x % 4294967296))] = (hv (L.take (k + 1))).map u32V := by
          have q1 : x.tdiv 4294967296 = x / 4294967296 := Int.tdiv_eq_ediv_of_nonneg x0
          have q2 : IntKind.u64.wrap (x / 4294967296) = x / 4294967296 := by rw [IntKind.wrap_u64]; omega
          have q3 : IntKind.u32.wrap (x / 4294967296) = x / 4294967296 := by rw [IntKind.wrap_u32]; omega
          have q4 : IntKind.u32.wrap (x % 4294967296) = x % 4294967296 := by rw [IntKind.wrap_u32]; omega
          rw [HST.out, q1, q2, q3, q4]; simp [u32V]
        rw [hcells] at hown2
        have hb3 : Below w.heap.size w w2 := ((hb.alloc hb.size _).drew).trans hb2
        clear hb2 hw hb hcells
        go_wp2
        go_roundw
        case rel => exact ⟨k + 1, by omega, by go_num, hown2, hb3⟩
        case measure => simp [intOf]; omega
    · obtain rfl : n = k := by omega
      go_wp2
      go_ret
      rw [List.take_of_length_le (by rw [HN.out]; omega)] at hw
      exact ⟨_, rfl, hw, hb⟩

theorem bytes_at (m c' : Int) (n c : Nat) (bb : List UInt8) (w : World) (hbb : bb = beB n c) (h : n < 18446744073709551616) (hc : c ≤ 8) (hm : m = n) (hc' : c' = c) :
    Calls Tryd.prog 57 #[.int .u64 m, .int .i64 c'] w fun e w' => e = .returned (.string ⟨bb.toArray⟩) ∧ Below w.heap.size w w' := by
  subst hm hc' hbb; exact bytes_ref n c w h hc

theorem pad_eq (s : ByteArray) : (s.data.toList ++ [128]) ++ List.replicate (zeros s.size) 0 ++ beB (8 * s.size) 8 = pad s.data.toList := by
  unfold pad; rw [Array.length_toList]; rfl

theorem head64 (p : List UInt8) : (⟨p.toArray⟩ : ByteArray).extract 0 64 = ⟨(p.take 64).toArray⟩ := by
  apply ByteArray.ext; apply Array.toList_inj.1; simp
theorem head64_size (p : List UInt8) (h : 64 ≤ p.length) : ((⟨p.toArray⟩ : ByteArray).extract 0 64).size = 64 := by
  rw [head64, ByteArray.size_mk']; simp; omega
theorem tail64 (p : List UInt8) : (⟨p.toArray⟩ : ByteArray).extract 64 p.length = ⟨(p.drop 64).toArray⟩ := by
  apply ByteArray.ext; apply Array.toList_inj.1; simp; rw [List.take_of_length_le (by simp)]
theorem stOf_ok (F : List Int) (h : ∀ j, inU (F.getD j 0)) : (stOf F).ok := ⟨h 0, h 1, h 2, h 3, h 4, h 5, h 6, h 7⟩

theorem drop64 (q : ByteArray) (n : Nat) (h : q.size = n) (hn : 64 ≤ n) : (q.extract 64 n).data.toList = q.data.toList.drop 64 := by
  subst h; simp; rw [List.take_of_length_le (by simp)]
theorem take64 (q : ByteArray) : q.extract 0 64 = ⟨(q.data.toList.take 64).toArray⟩ := by
  apply ByteArray.ext; apply Array.toList_inj.1; simp

set_option maxRecDepth 100000 in
set_option maxHeartbeats 4000000 in
theorem by_ref (gf gk cf ck : Nat) (F : List Int) (K : Nat → Int) (s : ByteArray) (w : World) (hs : s.size ≤ 100000) (hF : F.length = 8)
    (hf : At32 w gf F) (hk : ∀ j, j < 64 → w.cell? ⟨gk, j, none⟩ = some (u32V (K j))) (hgf : gf < w.heap.size) (hgk : gk < w.heap.size) (hFu : ∀ j, inU (F.getD j 0)) :
    Calls Tryd.prog 46 #[.string s, .slice (some ⟨gf, 0, none⟩) 8 cf, .slice (some ⟨gk, 0, none⟩) 64 ck] w fun e w' =>
      e = .returned (.string ⟨(sumBy K (stOf F) s.data.toList).toArray⟩) ∧ Below w.heap.size w w' := by
  obtain ⟨l0, hl0⟩ : ∃ l0, l0 = s.data.toList ++ [128] := ⟨_, rfl⟩
  have hl1 : l0.length ≤ s.size + 1 := by rw [hl0]; simp
  have hl2 : s.size + 1 ≤ l0.length := by rw [hl0]; simp
  have hstart : s ++ ⟨#[128]⟩ = ⟨l0.toArray⟩ := by rw [hl0]; apply ByteArray.ext; apply Array.toList_inj.1; simp
  have HL0 := Lib.hid hl0
  have HST := Lib.hid hstart
  clear hl0 hstart
  go_enter Tryd.func46, Tryd.ntmps46
  go_wp2_with fail
  go_loopw [7] (fun v wr => ∃ (k : Nat) (q : List UInt8), k ≤ zeros s.size ∧ v = .string ⟨q.toArray⟩ ∧ Hid (q = l0 ++ List.replicate k 0) ∧ q.length ≤ s.size + 1 + k ∧ s.size + 1 + k ≤ q.length ∧ Below w.heap.size w wr)
    (fun v _ => s.size + 200 - strLen v)
  case atStart => exact ⟨0, l0, by omega, congrArg Value.string HST.out, Lib.hid (by simp), by omega, by omega, Below.refl _ _⟩
  case round =>
    obtain ⟨k, q, hkk, rfl, hq, hq1, hq2, hb0⟩ := hrel
    by_cases hkz : k < zeros s.size
    · have ht : (0 : Int) < ((q.length : Int) + 8) % 64 := by unfold zeros at hkz; omega
      have hz : k < 64 := by unfold zeros at hkz; omega
      have HK : Hid (k < zeros s.size) := Lib.hid hkz
      clear hkz hkk
      go_wp2
      go_roundw
      case rel => exact ⟨k + 1, q ++ [0], HK.out, congrArg Value.string (ByteArray.mk_append_mk q [0]), Lib.hid (by rw [hq.out, List.append_assoc, List.replicate_succ']), by simp; omega, by simp; omega, hb0⟩
      case measure => simp only [strLen, ByteArray.size_append', ByteArray.size_mk', List.size_toArray, List.length_cons, List.length_nil]; simp; omega
    · have ht : ((q.length : Int) + 8) % 64 = 0 := by unfold zeros at hkz hkk; omega
      have hz : k < 64 := by unfold zeros at hkk; omega
      have HK : Hid (k = zeros s.size) := Lib.hid (by omega)
      clear hkz hkk
      obtain ⟨bb, hbb⟩ : ∃ bb, bb = beB (8 * s.size) 8 := ⟨_, rfl⟩
      have hbl := beB_length (8 * s.size) 8
      rw [← hbb] at hbl
      have hbl1 : bb.length ≤ 8 := by omega
      have HBB := Lib.hid hbb
      clear hbl hbb
      go_wp2_with (first
        | (go_at_call 57; refine (bytes_at _ _ (8 * s.size) 8 bb _ HBB.out (by omega) (by omega) (by omega) rfl).mono ?_; rintro e w1 ⟨rfl, hb1⟩)
        | (at_make; refine list_makeN Tryd.u32Sl rfl _ _ rfl 8 _ _ rfl rfl rfl rfl (by omega) (by unfold maxLen; omega) rfl ?_))
      intro w2 hy hb2
      have hbs0 := hb0.size
      have hbs1 := hb1.size
      have hb01 : Below w.heap.size w w1 := hb0.trans (hb1.mono hbs0)
      have hgf2 : gf < w1.heap.size := by omega
      have hsrc : ∀ j, j < 8 → w2.cell? ⟨gf, j, none⟩ = some (u32V (F.getD j 0)) := fun j hj => cellBelow hb2 hgf2 (cellBelow hb01 hgf (hf j (by omega)))
      go_wp2_with (first
        | (refine list_copy_row Tryd.u32Sl rfl _ _ rfl w1.heap.size 8 rfl _ hy gf cf rfl (fun j => u32V (F.getD j 0)) hsrc (fun _ => rfl) ?_))
      intro w3 hy3 hb3
      have hb4 : Below w.heap.size w w3 := hb01.trans ((hb2.trans hb3).mono (by omega))
      have hy4 : w3.rowIs w1.heap.size 94 8 (fun j => u32V ((stOf F).at j)) := hy3.congr (fun j hj => by rw [stOf_at _ _ hj]; rfl)
      obtain ⟨P, hP⟩ : ∃ P, P = pad s.data.toList := ⟨_, rfl⟩
      have hpad : q ++ bb = P := by
        rw [hP, hq.out, HK.out, HBB.out, HL0.out]; exact pad_eq s
      have hpl := pad_length s.data.toList
      rw [← hP] at hpl
      have hsum : Hid (sumBy K (stOf F) s.data.toList = outL (hashB K (P.length / 64) (stOf F) P) 8) := Lib.hid (by rw [hP]; rfl)
      have hpl2 : P.length ≤ 200000 := by have := hpl.2; simp at this; omega
      have hpl1 := hpl.1
      have HP := Lib.hid hpad
      have HQ : Hid ((⟨q.toArray⟩ : ByteArray) ++ ⟨bb.toArray⟩ = ⟨P.toArray⟩) := Lib.hid (by rw [ByteArray.mk_append_mk, hpad])
      clear hpl hP hpad hsrc hy3 hb1 hb2 hb3 hy hf hb01 hb0
      go_wp2_with fail
      go_loopw [7, 8] (fun v x wr => ∃ (p : List UInt8) (Z : St) (g : Nat), v = .string ⟨p.toArray⟩ ∧ x = .slice (some ⟨g, 0, none⟩) 8 8 ∧ wr.rowIs g 94 8 (fun j => u32V (Z.at j)) ∧ p.length % 64 = 0 ∧ p.length ≤ 200000 ∧ Hid Z.ok ∧
          Hid (hashB K (p.length / 64) Z p = hashB K (P.length / 64) (stOf F) P) ∧ Below w.heap.size w wr) (fun v _ _ => strLen v)
      case atStart => exact ⟨P, stOf F, _, congrArg Value.string HQ.out, rfl, hy4, hpl1, hpl2, Lib.hid (stOf_ok F hFu), Lib.hid rfl, hb4⟩
      case round =>
        obtain ⟨p, Z, g, rfl, rfl, hZ, hp1, hp2, hok, hh, hb⟩ := hrel
        by_cases hp0 : 0 < p.length
        · have hp64 : 64 ≤ p.length := by omega
          have hsz := head64_size p hp64
          have hk2 : ∀ j, j < 64 → wr.cell? ⟨gk, j, none⟩ = some (u32V (K j)) := fun j hj => cellBelow hb hgk (hk j hj)
          have hgk2 := Nat.lt_of_lt_of_le hgk hb.size
          go_wp2_with (first
            | (go_at_call 58; refine (block_ref _ _ _ _ Z K _ _ hsz (fun j hj => hZ.cell hj) hk2 hZ.lt hgk2).mono ?_; rintro e w5 ⟨g2, rfl, hZ2, hb5⟩))
          go_roundw
          case rel =>
            rw [head64] at hZ2
            refine ⟨p.drop 64, _, g2, congrArg Value.string (tail64 p), rfl, hZ2, by simp; omega, by simp; omega, Lib.hid (comp_ok _ _ _), Lib.hid ?_, hb.trans (hb5.mono hb.size)⟩
            rw [← hh.out]
            have e : p.length / 64 = (p.drop 64).length / 64 + 1 := by simp; omega
            rw [e]; rfl
          case measure =>
            rw [tail64]
            simp only [strLen, ByteArray.size_mk', List.size_toArray, List.length_drop]; omega
        · obtain rfl : p = [] := List.eq_nil_of_length_eq_zero (by omega)
          have hZf : Hid (Z = hashB K (P.length / 64) (stOf F) P) := Lib.hid hh.out
          clear hh hp0 hp1 hp2
          have hbz := hb.size
          obtain ⟨wB, hwB⟩ : ∃ wB : World, wB = wr := ⟨_, rfl⟩
          subst hwB
          go_wp2_with fail
          go_loopw [9, 10] (fun o i wx => ∃ k : Nat, k ≤ 8 ∧ i = .int .i64 k ∧ o = .string ⟨(outL Z k).toArray⟩ ∧ Below wB.heap.size wB wx) (fun _ i _ => 8 - (intOf i).toNat)
          case atStart => exact ⟨0, by omega, rfl, rfl, Below.refl _ _⟩
          case round =>
            obtain ⟨k, hk8, rfl, rfl, hbx⟩ := hrel
            by_cases hlt : k < 8
            · have c0 := (rowIs_below hZ hbx hZ.lt).cell hlt
              have hu := Z.at_ok hok.out k
              have hos := outL_succ Z k
              have hol := outL_length Z k
              obtain ⟨y, hy⟩ : ∃ y, y = Z.at k := ⟨_, rfl⟩
              rw [← hy] at c0 hu hos
              simp only [u32V] at c0
              obtain ⟨y0, y1⟩ := hu
              obtain ⟨l, hl⟩ : ∃ l, l = outL Z k := ⟨_, rfl⟩
              rw [← hl] at hol hos ⊢
              have hll : l.length ≤ 32 := by omega
              obtain ⟨bb, hbb⟩ : ∃ bb, bb = beB y.toNat 4 := ⟨_, rfl⟩
              have hbl := beB_length y.toNat 4
              rw [← hbb] at hbl hos
              have hbl1 : bb.length ≤ 4 := by omega
              have HOS := Lib.hid hos
              have HBB := Lib.hid hbb
              clear hos hol hl hy hbb hbl
              go_wp2_with (first
                | (go_at_call 57; refine (bytes_at _ _ y.toNat 4 bb _ HBB.out (by omega) (by omega) (by omega) rfl).mono ?_; rintro e w6 ⟨rfl, hb6⟩))
              go_roundw
              case rel => exact ⟨k + 1, by omega, by go_num, by rw [HOS.out]; exact congrArg Value.string (ByteArray.mk_append_mk _ _), hbx.trans (hb6.mono hbx.size)⟩
              case measure => simp [intOf]; omega
            · have hk9 : Hid (k = 8) := Lib.hid (by omega)
              go_wp2
              go_ret
              exact ⟨by rw [hsum.out, ← hZf.out, hk9.out]; rfl, hb.trans (hbx.mono hbz)⟩
end Go.Proofs.YtohcackebmmikaaDoor
