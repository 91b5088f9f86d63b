/- The reference's sides: where what is asked leads below a fork. -/
import Derived.Test.YtmpjpaomgifpcaaGreatDoorPRef
import Derived.Test.YtmpjpaomgifpcaaGreatDoorPShowP
import Derived.Test.YtmpjpaomgifpcaaGreatDoorPKeys
namespace Go.Proofs.YtmpjpaomgifpcaaGreatDoor
open Go.RowKit

theorem sideB_app (A B : List Ask) (k : List UInt8) (p : Nat) (s : Bool) : sideB (A ++ B) k p s = (sideB A k p s || sideB B k p s) := List.any_append ..
def keyA (K : List ByteArray) : List Ask := K.map fun k => (k, 256)
def undA (U : List AI) : List Ask := (U.filter fun x => rightB x.1 x.2).map toN
theorem askL_two (K : List ByteArray) (U : List AI) (hK : ∀ k ∈ K, k.size = 32) : askL K U = keyA K ++ undA U := by
  unfold askL rightL keyA undA
  rw [List.filter_append, List.map_append]
  have h1 : (K.map fun k => (k, (256 : Int))).filter (fun x => rightB x.1 x.2) = K.map fun k => (k, (256 : Int)) := by
    rw [List.filter_eq_self]
    intro x hx
    obtain ⟨k, hk, rfl⟩ := List.mem_map.1 hx
    exact decide_eq_true ⟨hK k hk, show (0 : Int) ≤ 256 by decide, show (256 : Int) ≤ 256 by decide⟩
  rw [h1, List.map_map]
  rfl
/-- One key, one prefix. -/
def keyS (q k : ByteArray) (p : Nat) (s : Bool) : Bool := leadB (ks q) 256 (ks k) p s
theorem keyS_eq {q k : ByteArray} {p : Nat} {s : Bool} (hq : q.size = 32) (hk : k.size = 32) (hp : p < 256) : keyS q k p s = (hasL (ks q) (ks k) p && (bitL (ks q) p == s)) := by
  unfold keyS leadB
  rw [has_com (ks q) (ks k) p (by rw [ks_length, ks_length, hq, hk]) (by rw [ks_length]; omega)]
  rw [show min 256 p = p by omega, decide_eq_false (show ¬ 256 ≤ p by omega), Bool.false_or]
  congr 1
  rw [← decide_not]
  exact decide_eq_decide.2 (by omega)
theorem askS_lo {q k : ByteArray} {n p : Nat} {s : Bool} (hq : q.size = 32) (hk : k.size = 32) (hp : p < 256) (hn : p < n) : leadB (ks q) n (ks k) p s = (hasL (ks q) (ks k) p && (bitL (ks q) p == s)) := by
  unfold leadB
  rw [has_com (ks q) (ks k) p (by rw [ks_length, ks_length, hq, hk]) (by rw [ks_length]; omega)]
  rw [show min n p = p by omega, decide_eq_false (show ¬ n ≤ p by omega), Bool.false_or]
  congr 1
  rw [← decide_not]
  exact decide_eq_decide.2 (by omega)
theorem askS_hi {q k : ByteArray} {n p : Nat} {s : Bool} (hq : q.size = 32) (hk : k.size = 32) (hp : p < 256) (hn : n ≤ p) : leadB (ks q) n (ks k) p s = hasL (ks k) (ks q) n := by
  unfold leadB
  rw [has_com (ks k) (ks q) n (by rw [ks_length, ks_length, hq, hk]) (by rw [ks_length]; omega)]
  rw [show min n p = n by omega, decide_eq_true hn, Bool.true_or, Bool.and_true, comL_sym (ks k) (ks q), ← decide_not]
  exact decide_eq_decide.2 (by omega)
theorem keyA_snoc (K : List ByteArray) (q : ByteArray) : keyA (K ++ [q]) = keyA K ++ [(q, 256)] := List.map_append ..
theorem undA_right (U : List AI) (q : AI) (h : rightB q.1 q.2 = true) : undA (U ++ [q]) = undA U ++ [toN q] := by
  unfold undA; rw [List.filter_append, List.map_append]; simp [h]
theorem undA_wrong (U : List AI) (q : AI) (h : rightB q.1 q.2 = false) : undA (U ++ [q]) = undA U := by
  unfold undA; rw [List.filter_append, List.map_append]; simp [h]

/-- Two bools in a block of their own. -/
def TwoB (w : World) (B : Nat) (v : Value) (a b : Bool) : Prop := ∃ g, v = .slice (some ⟨g, 0, none⟩) 2 2 ∧ B ≤ g ∧ w.heap[g]? = some (.cells #[.bool a, .bool b] 4 (0, 0))
def SidRes (A : List Ask) (k : ByteArray) (p : Nat) (w : World) (e : Ending) (w' : World) : Prop := ∃ v b, e = .returned (.tuple #[v, .bool b]) ∧ TwoB w' w.heap.size v (sideB A (ks k) p false) (sideB A (ks k) p true) ∧ Below w.heap.size w w'
def SidRel {α : Type} (L : List α) (f : List α → List Ask) (k : ByteArray) (p : Nat) (w : World) (s10 s11 i : Value) (wr : World) : Prop :=
  ∃ (j : Nat) (b : Bool), i = .int .i64 j ∧ j ≤ L.length ∧ s11 = .bool b ∧ Hid (TwoB wr w.heap.size s10 (sideB (f (L.take j)) (ks k) p false) (sideB (f (L.take j)) (ks k) p true)) ∧ Below w.heap.size w wr
theorem two_set {w : World} {g : Nat} {a b : Bool} (s : Bool) (h : w.heap[g]? = some (.cells #[.bool a, .bool b] 4 (0, 0))) :
    (w.setCell ⟨g, (bitN s).toNat, none⟩ (.bool true)).heap[g]? = some (.cells #[.bool (a || !s), .bool (b || s)] 4 (0, 0)) := by
  cases s <;> simp [World.setCell, Array.getElem?_modify, h, bitN]
theorem two_at {w : World} {g : Nat} {a b : Bool} (h : w.heap[g]? = some (.cells #[.bool a, .bool b] 4 (0, 0))) : w.cell? ⟨g, 0, none⟩ = some (.bool a) ∧ w.cell? ⟨g, 1, none⟩ = some (.bool b) ∧ w.frozen? ⟨g, 0, none⟩ = false ∧ w.frozen? ⟨g, 1, none⟩ = false := by
  simp [World.cell?, World.frozen?, h]
set_option maxRecDepth 30000 in
set_option maxHeartbeats 4000000 in
theorem sides_ref (K : List ByteArray) (U : List AI) (kv uv : Value) (k : ByteArray) (p : Nat) (w : World) (hK : K.length ≤ 100) (hU : U.length ≤ 100) (hks : ∀ q ∈ K, q.size = 32) (hus : ∀ q ∈ U, q.1.size = 32) (hk : k.size = 32) (hp : p < 256) (h1 : StrSl w kv K) (h2 : ASl w uv U) :
    Calls Tryz.prog 77 #[kv, uv, .int .i64 p, .string k] w (SidRes (askL K U) k p w) := by
  rw [askL_two K U hks]
  have HK1 := Lib.hid h1
  have HU1 := Lib.hid h2
  have HKS := Lib.hid hks
  have HUSZ := Lib.hid hus
  have HHA := Lib.hid (fun (q : ByteArray) (W : World) (hq : q.size = 32) => has_ref q k p W (by omega) hq hk)
  have HHB := Lib.hid (fun (q : ByteArray) (n : Nat) (W : World) (hq : q.size = 32) (hn : n ≤ 256) => has_ref k q n W hn hk hq)
  have HBT := Lib.hid (fun (q : ByteArray) (W : World) (hq : q.size = 32) => bit_ref q p W hp hq)
  have HPP : Hid (p < 256) := Lib.hid hp
  have HKK : Hid (k.size = 32) := Lib.hid hk
  obtain ⟨ka, kc, rfl, _⟩ := h1
  obtain ⟨ua, uc, rfl, _, _⟩ := h2
  have hk0 : (0 : Int) ≤ (K.length : Int) := by omega
  have hu0 : (0 : Int) ≤ (U.length : Int) := by omega
  have hpI : (p : Int) < 256 := by omega
  clear hks hus hp hk
  go_enter Tryz.func77, Tryz.ntmps77
  go_wp2_with fail
  go_loopw [11, 12] (SidRel K keyA k p w (.slice (some ⟨w.heap.size, 0, none⟩) 2 2)) (fun _ i _ => 101 - (intOf i).toNat)
  case atStart => exact ⟨0, false, rfl, by omega, rfl, Lib.hid ⟨_, rfl, Nat.le_refl _, heap_alloc_new _ _⟩, (Below.refl _ _).alloc (Nat.le_refl _) _⟩
  case round =>
    obtain ⟨j, b, rfl, hj, rfl, htw, hb⟩ := hrel
    have hj0 : (0 : Int) ≤ (j : Int) := by omega
    have hj1 : (j : Int) ≤ 100 := by omega
    have HB := Lib.hid hb
    obtain ⟨gt, he, hgt, hblt⟩ := htw.out
    obtain rfl : w.heap.size = gt := by injection he with he _ _; injection he with he; injection he
    obtain ⟨y0, y1, f0, f1⟩ := two_at hblt
    have HBLT := Lib.hid hblt
    have HGT := Lib.hid hgt
    have HTW := Lib.hid htw.out
    clear hblt hgt htw he
    by_cases hlt : j < K.length
    · have hltI : (j : Int) < (K.length : Int) := by omega
      obtain ⟨q, hq⟩ : ∃ q, q = K[j] := ⟨_, rfl⟩
      have hqj : K[j]? = some q := by rw [hq]; exact List.getElem?_eq_getElem hlt
      have hqs := HKS.out q (by rw [hq]; exact List.getElem_mem hlt)
      obtain ⟨a2, c2, he2, hne2⟩ := HK1.out
      injection he2 with ee1 _ ee3
      subst ee1 ee3
      obtain ⟨g, o, rfl, hg, hcs⟩ := hne2 (by intro e; rw [e] at hlt; simp at hlt)
      have x0 : wr.cell? ⟨g, o + j, none⟩ = some (.string q) := cellB hb (hcs j q hqj)
      have HTK : Hid (∀ s, sideB (keyA (K.take (j + 1))) (ks k) p s = (sideB (keyA (K.take j)) (ks k) p s || (hasL (ks q) (ks k) p && (bitL (ks q) p == s)))) := Lib.hid (fun s => by
        rw [takeK K j q hqj, keyA_snoc, sideB_app, ← keyS_eq hqs HKK.out HPP.out]
        simp [sideB, keyS])
      have hqI : ((q.size : Int) == 32) = true := by rw [hqs]; rfl
      have HQS := Lib.hid hqs
      clear hq hqj hcs hne2 hb hqs
      cases hhas : hasL (ks q) (ks k) p with
      | false =>
        have HH := Lib.hid (fun W => HHA.out q W HQS.out)
        rw [hhas] at HH HTK
        clear hhas
        go_wp2_with fail
        refine (HH.out wr).mono ?_
        rintro e w2 ⟨rfl, rfl⟩
        go_wp2_with fail
        go_roundw
        case rel => exact ⟨j + 1, b, by go_num, by omega, rfl, Lib.hid (by rw [HTK.out, HTK.out, Bool.false_and, Bool.or_false, Bool.false_and, Bool.or_false]; exact ⟨w.heap.size, rfl, HGT.out, HBLT.out⟩), HB.out⟩
        case measure => simp [intOf]; omega
      | true =>
        have HH := Lib.hid (fun W => HHA.out q W HQS.out)
        have HBB := Lib.hid (fun W => HBT.out q W HQS.out)
        rw [hhas] at HH HTK
        clear hhas
        cases hbit : bitL (ks q) p with
        | false =>
          rw [hbit] at HBB HTK
          unfold bitN at HBB
          clear hbit
          go_wp2_with fail
          refine (HH.out wr).mono ?_
          rintro e w2 ⟨rfl, rfl⟩
          go_wp2_with fail
          refine (HBB.out wr).mono ?_
          rintro e w3 ⟨rfl, rfl⟩
          go_wp2_with fail
          go_roundw
          case rel => exact ⟨j + 1, true, by go_num, by omega, rfl, Lib.hid (by rw [HTK.out, HTK.out]; exact ⟨w.heap.size, rfl, HGT.out, two_set false HBLT.out⟩), HB.out.setCell (p := ⟨w.heap.size, 0, none⟩) HGT.out _⟩
          case measure => simp [intOf]; omega
        | true =>
          rw [hbit] at HBB HTK
          unfold bitN at HBB
          clear hbit
          go_wp2_with fail
          refine (HH.out wr).mono ?_
          rintro e w2 ⟨rfl, rfl⟩
          go_wp2_with fail
          refine (HBB.out wr).mono ?_
          rintro e w3 ⟨rfl, rfl⟩
          go_wp2_with fail
          go_roundw
          case rel => exact ⟨j + 1, true, by go_num, by omega, rfl, Lib.hid (by rw [HTK.out, HTK.out]; exact ⟨w.heap.size, rfl, HGT.out, two_set true HBLT.out⟩), HB.out.setCell (p := ⟨w.heap.size, 1, none⟩) HGT.out _⟩
          case measure => simp [intOf]; omega
    · have hltI : ¬ (j : Int) < (K.length : Int) := by omega
      have hall : K.take j = K := List.take_of_length_le (by omega)
      rw [hall] at HTW
      clear hall hlt hj hb
      have hj2 : j ≤ 100 := by omega
      go_wp2_with fail
      clear hltI hj0 hj1 hj2
      go_loopw [10, 11, 13] (SidRel U (fun l => keyA K ++ undA l) k p w) (fun _ _ i _ => 101 - (intOf i).toNat)
      case atStart => exact ⟨0, b, rfl, by omega, rfl, Lib.hid (by show TwoB _ _ _ (sideB (keyA K ++ undA []) _ _ _) (sideB (keyA K ++ undA []) _ _ _); rw [show undA [] = [] from rfl, List.append_nil]; exact HTW.out), HB.out⟩
      case round =>
        clear HB HTW HBLT HGT y0 y1 f0 f1
        obtain ⟨i, b, rfl, hi, rfl, htw, hb⟩ := hrel
        have hi0 : (0 : Int) ≤ (i : Int) := by omega
        have hi1 : (i : Int) ≤ 100 := by omega
        have HB := Lib.hid hb
        obtain ⟨gt, rfl, hgt, hblt⟩ := htw.out
        have HTW := Lib.hid htw.out
        have HGT := Lib.hid hgt
        by_cases hlt : i < U.length
        · have hltI : (i : Int) < (U.length : Int) := by omega
          obtain ⟨q, hq⟩ : ∃ q, q = U[i] := ⟨_, rfl⟩
          have hqj : U[i]? = some q := by rw [hq]; exact List.getElem?_eq_getElem hlt
          have hqs := HUSZ.out q (by rw [hq]; exact List.getElem_mem hlt)
          obtain ⟨a2, c2, he2, _, hne2⟩ := HU1.out
          injection he2 with ee1 _ ee3
          subst ee1 ee3
          obtain ⟨g, o, rfl, hg, hcs⟩ := hne2 (by intro e; rw [e] at hlt; simp at hlt)
          obtain ⟨d0, d1⟩ := hcs i q hqj
          have hts := takeK U i q hqj
          obtain ⟨qk, qn⟩ := q
          have x0 : wr.cell? ⟨g, o + i * 2, none⟩ = some (.string qk) := cellB hb d0
          have x1 : wr.cell? ⟨g, o + i * 2 + 1, none⟩ = some (.int .i64 qn) := cellB hb d1
          obtain ⟨W1, hW1⟩ : ∃ W1, W1 = wr.alloc (.cells #[.string qk, .int .i64 qn] 46) := ⟨_, rfl⟩
          have hb1 : Below wr.heap.size wr W1 := by rw [hW1]; exact (Below.refl _ _).alloc (Nat.le_refl _) _
          obtain ⟨q0, q1⟩ := ask_cells (w := W1) (b := wr.heap.size) (k := qk) (n := qn) (by rw [hW1]; exact heap_alloc_new _ _)
          have t0 := q0
          have t1 := q1
          rw [hW1] at t0 t1
          have HB1 := Lib.hid (HB.out.trans (hb1.mono HB.out.size))
          have hbl1 : W1.heap[gt]? = some _ := (hb1.block gt (Array.getElem?_eq_some_iff.1 hblt).1).trans hblt
          have HBL1 := Lib.hid hbl1
          obtain ⟨y0, y1, f0, f1⟩ := two_at hbl1
          have hqs' : qk.size = 32 := hqs
          have hqI : ((qk.size : Int) != 32) = false := by rw [hqs']; rfl
          have HQS := Lib.hid hqs'
          have HW1 := Lib.hid hW1
          have HTS : Hid (U.take (i + 1) = U.take i ++ [(qk, qn)]) := Lib.hid hts
          clear hq hqj hcs hne2 hb hts d0 d1 hb1 hW1 hqs hblt hgt htw hbl1
          by_cases hr : rightB qk qn = true
          · have hrr := of_decide_eq_true hr
            have r1 : ¬ qn < 0 := by omega
            have r2 : ¬ (256 : Int) < qn := by omega
            obtain ⟨n, rfl⟩ : ∃ n : Nat, qn = (n : Int) := ⟨qn.toNat, by omega⟩
            have hn : n ≤ 256 := by omega
            have HTK : Hid (∀ s, sideB (keyA K ++ undA (U.take (i + 1))) (ks k) p s = (sideB (keyA K ++ undA (U.take i)) (ks k) p s || leadB (ks qk) n (ks k) p s)) := Lib.hid (fun s => by
              rw [HTS.out, undA_right _ _ hr, ← List.append_assoc, sideB_app]
              simp [sideB, toN])
            have HN := Lib.hid hn
            clear hr hrr
            by_cases hpn : p < n
            · have hpnI : (p : Int) < (n : Int) := by omega
              have HTL : Hid (∀ s, leadB (ks qk) n (ks k) p s = (hasL (ks qk) (ks k) p && (bitL (ks qk) p == s))) := Lib.hid (fun s => askS_lo HQS.out HKK.out HPP.out hpn)
              clear hpn hn
              cases hhas : hasL (ks qk) (ks k) p with
              | false =>
                have HH := Lib.hid (fun W => HHA.out qk W HQS.out)
                rw [hhas] at HH HTL
                clear hhas
                go_wp2_with fail
                rw [← HW1.out]
                refine (HH.out W1).mono ?_
                rintro e w2 ⟨rfl, rfl⟩
                go_wp2_with fail
                go_roundw
                case rel => exact ⟨i + 1, b, by go_num, by omega, rfl, Lib.hid (by show TwoB _ _ _ (sideB (keyA K ++ undA (U.take (i + 1))) _ _ _) (sideB (keyA K ++ undA (U.take (i + 1))) _ _ _); rw [HTK.out, HTK.out, HTL.out, HTL.out, Bool.false_and, Bool.or_false, Bool.false_and, Bool.or_false]; exact ⟨gt, rfl, HGT.out, HBL1.out⟩), HB1.out⟩
                case measure => simp [intOf]; omega
              | true =>
                have HH := Lib.hid (fun W => HHA.out qk W HQS.out)
                have HBB := Lib.hid (fun W => HBT.out qk W HQS.out)
                rw [hhas] at HH HTL
                clear hhas
                cases hbit : bitL (ks qk) p with
                | false =>
                  rw [hbit] at HBB HTL
                  unfold bitN at HBB
                  clear hbit
                  go_wp2_with fail
                  rw [← HW1.out]
                  refine (HH.out W1).mono ?_
                  rintro e w2 ⟨rfl, rfl⟩
                  go_wp2_with fail
                  refine (HBB.out W1).mono ?_
                  rintro e w3 ⟨rfl, rfl⟩
                  go_wp2_with fail
                  go_roundw
                  case rel => exact ⟨i + 1, true, by go_num, by omega, rfl, Lib.hid (by show TwoB _ _ _ (sideB (keyA K ++ undA (U.take (i + 1))) _ _ _) (sideB (keyA K ++ undA (U.take (i + 1))) _ _ _); rw [HTK.out, HTK.out, HTL.out, HTL.out]; exact ⟨gt, rfl, HGT.out, two_set false HBL1.out⟩), HB1.out.setCell (p := ⟨gt, 0, none⟩) HGT.out _⟩
                  case measure => simp [intOf]; omega
                | true =>
                  rw [hbit] at HBB HTL
                  unfold bitN at HBB
                  clear hbit
                  go_wp2_with fail
                  rw [← HW1.out]
                  refine (HH.out W1).mono ?_
                  rintro e w2 ⟨rfl, rfl⟩
                  go_wp2_with fail
                  refine (HBB.out W1).mono ?_
                  rintro e w3 ⟨rfl, rfl⟩
                  go_wp2_with fail
                  go_roundw
                  case rel => exact ⟨i + 1, true, by go_num, by omega, rfl, Lib.hid (by show TwoB _ _ _ (sideB (keyA K ++ undA (U.take (i + 1))) _ _ _) (sideB (keyA K ++ undA (U.take (i + 1))) _ _ _); rw [HTK.out, HTK.out, HTL.out, HTL.out]; exact ⟨gt, rfl, HGT.out, two_set true HBL1.out⟩), HB1.out.setCell (p := ⟨gt, 1, none⟩) HGT.out _⟩
                  case measure => simp [intOf]; omega
            · have hpnI : ¬ (p : Int) < (n : Int) := by omega
              have HTL : Hid (∀ s, leadB (ks qk) n (ks k) p s = hasL (ks k) (ks qk) n) := Lib.hid (fun s => askS_hi HQS.out HKK.out HPP.out (by omega))
              clear hpn hn
              cases hhas : hasL (ks k) (ks qk) n with
              | false =>
                have HH := Lib.hid (fun W => HHB.out qk n W HQS.out HN.out)
                rw [hhas] at HH HTL
                clear hhas
                go_wp2_with fail
                rw [← HW1.out]
                refine (HH.out W1).mono ?_
                rintro e w2 ⟨rfl, rfl⟩
                go_wp2_with fail
                go_roundw
                case rel => exact ⟨i + 1, b, by go_num, by omega, rfl, Lib.hid (by show TwoB _ _ _ (sideB (keyA K ++ undA (U.take (i + 1))) _ _ _) (sideB (keyA K ++ undA (U.take (i + 1))) _ _ _); rw [HTK.out, HTK.out, HTL.out, HTL.out, Bool.or_false, Bool.or_false]; exact ⟨gt, rfl, HGT.out, HBL1.out⟩), HB1.out⟩
                case measure => simp [intOf]; omega
              | true =>
                have HH := Lib.hid (fun W => HHB.out qk n W HQS.out HN.out)
                rw [hhas] at HH HTL
                clear hhas
                go_wp2_with fail
                rw [← HW1.out]
                refine (HH.out W1).mono ?_
                rintro e w2 ⟨rfl, rfl⟩
                go_wp2_with fail
                go_roundw
                case rel => exact ⟨i + 1, true, by go_num, by omega, rfl, Lib.hid (by show TwoB _ _ _ (sideB (keyA K ++ undA (U.take (i + 1))) _ _ _) (sideB (keyA K ++ undA (U.take (i + 1))) _ _ _); rw [HTK.out, HTK.out, HTL.out, HTL.out, Bool.or_true, Bool.or_true]; exact ⟨W1.heap.size, rfl, HB1.out.size, heap_alloc_new _ _⟩), HB1.out.alloc HB1.out.size _⟩
                case measure => simp [intOf]; omega
          · have hr' : rightB qk qn = false := by simpa using hr
            have HTK : Hid (undA (U.take (i + 1)) = undA (U.take i)) := Lib.hid (by rw [HTS.out, undA_wrong _ _ hr'])
            have hrr := of_decide_eq_false hr'
            clear hr hr'
            by_cases r1 : qn < 0
            · go_wp2_with fail
              rw [← HW1.out]
              go_roundw
              case rel => exact ⟨i + 1, b, by go_num, by omega, rfl, Lib.hid (by show TwoB _ _ _ (sideB (keyA K ++ undA (U.take (i + 1))) _ _ _) (sideB (keyA K ++ undA (U.take (i + 1))) _ _ _); rw [HTK.out]; exact ⟨gt, rfl, HGT.out, HBL1.out⟩), HB1.out⟩
              case measure => simp [intOf]; omega
            · have r2 : (256 : Int) < qn := by
                have := HQS.out
                by_cases h : (256 : Int) < qn
                · exact h
                · exact absurd ⟨this, by omega, by omega⟩ hrr
              clear hrr
              go_wp2_with fail
              rw [← HW1.out]
              go_roundw
              case rel => exact ⟨i + 1, b, by go_num, by omega, rfl, Lib.hid (by show TwoB _ _ _ (sideB (keyA K ++ undA (U.take (i + 1))) _ _ _) (sideB (keyA K ++ undA (U.take (i + 1))) _ _ _); rw [HTK.out]; exact ⟨gt, rfl, HGT.out, HBL1.out⟩), HB1.out⟩
              case measure => simp [intOf]; omega
        · have hltI : ¬ (i : Int) < (U.length : Int) := by omega
          have hall : U.take i = U := List.take_of_length_le (by omega)
          have HFT : Hid (TwoB wr w.heap.size (.slice (some ⟨gt, 0, none⟩) 2 2) (sideB (keyA K ++ undA U) (ks k) p false) (sideB (keyA K ++ undA U) (ks k) p true)) := Lib.hid (by have := HTW.out; simp only [hall] at this; exact this)
          clear hb hall hblt hgt htw
          go_wp2_with fail
          go_ret2
          exact ⟨_, _, rfl, HFT.out, HB.out⟩
end Go.Proofs.YtmpjpaomgifpcaaGreatDoor
