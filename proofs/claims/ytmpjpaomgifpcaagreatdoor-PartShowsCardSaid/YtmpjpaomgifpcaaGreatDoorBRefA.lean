/- The reference's lists: Put, Delete. The reference's lists: Put. Arguments that are slices: opened to their cells, and read again behind a call that only lays new blocks. Arguments that are slices of structs of three cells: a number and two texts; arrays of two texts. Acts as lists; Small. Made: the map of acts, and the document's pairs. Maps: what is put and taken away again; the pure part. The reference's Same. -/
import Derived.Test.YtmpjpaomgifpcaaGreatDoorBTop
import Derived.ProofKit
import Derived.ReadAgain
import Derived.ChangeStays
import Derived.ChangeSlices
import Derived.Deep.SlicePairs
import Derived.Below
import Derived.ChangeMaps5
import Derived.Deep.Slices
namespace Go.Proofs.YtmpjpaomgifpcaaGreatDoor
open Go.RowKit Go.Op

def DelRel (k : ByteArray) (l : List Pr) (w : World) (v i : Value) (wr : World) : Prop :=
  ∃ (j : Nat) (ys : List Pr), i = .int .i64 j ∧ j ≤ l.length ∧ Hid (POwn wr w.heap.size v ys) ∧ Hid (ys ++ delL k (l.drop j) = delL k l) ∧ Hid (ys.length ≤ j) ∧ Below w.heap.size w wr

theorem drop_get (l : List Pr) (j : Nat) (hj : j < l.length) : l.drop j = l[j] :: l.drop (j + 1) := List.drop_eq_getElem_cons hj

set_option maxRecDepth 30000 in
set_option maxHeartbeats 2000000 in
theorem delete_ref (k : ByteArray) (l : List Pr) (lv : Value) (w : World) (hl : l.length ≤ 50000) (h : PSl w lv l) :
    Calls Tryz.prog 30 #[lv, .string k] w (PRes w (delL k l)) := by
  obtain ⟨a, c, rfl, hc, hcells⟩ := h
  have HC := Lib.hid hcells
  clear hcells
  have hl0 : (0 : Int) ≤ (l.length : Int) := by omega
  have hl1 : (l.length : Int) ≤ 50000 := by omega
  go_enter Tryz.func30, Tryz.ntmps30
  go_wp2_with fail
  go_loopw [5, 6] (DelRel k l w) (fun _ i _ => 50000 - (intOf i).toNat)
  case atStart => exact ⟨0, [], rfl, by omega, Lib.hid (POwn.nil _ _), Lib.hid (by simp), Lib.hid (by simp), Below.refl _ _⟩
  case round =>
    obtain ⟨j, ys, rfl, hj, hown, heq, hys, hb⟩ := hrel
    have hj0 : (0 : Int) ≤ (j : Int) := by omega
    have hj1 : (j : Int) ≤ 50000 := by omega
    by_cases hlt : j < l.length
    · have hltI : (j : Int) < (l.length : Int) := by omega
      obtain ⟨g, o, rfl, hg, hcs⟩ := HC.out (by intro e; rw [e] at hlt; simp at hlt)
      obtain ⟨x, hx⟩ : ∃ x, x = l[j] := ⟨_, rfl⟩
      obtain ⟨d1, d2⟩ := hcs j x (by rw [hx]; exact List.getElem?_eq_getElem hlt)
      have c1 : wr.cell? ⟨g, o + j * 2, none⟩ = some (.string x.1) := by rw [hb.cell (p := ⟨g, o + j * 2, none⟩) hg]; exact d1
      have c2 : wr.cell? ⟨g, o + j * 2 + 1, none⟩ = some (.string x.2) := by rw [hb.cell (p := ⟨g, o + j * 2 + 1, none⟩) hg]; exact d2
      have hsz := hb.size
      have HB := Lib.hid hb
      have hdr := drop_get l j hlt
      rw [← hx] at hdr
      have HDR := Lib.hid hdr
      obtain ⟨va, vc, rfl, _⟩ := POwn.shape hown.out
      clear d1 d2 hcs hb hdr hx
      by_cases he : x.1 = k
      · subst he
        have heq2 : Hid (ys ++ delL x.1 (l.drop (j + 1)) = delL x.1 l) := Lib.hid (by
          rw [← heq.out, HDR.out, delL, delL, List.filter_cons, if_neg (by simp)])
        go_wp2_with fail
        go_roundw
        case rel => exact ⟨j + 1, ys, by go_num, by omega, hown, heq2, Lib.hid (by have := hys.out; omega), HB.out⟩
        case measure => simp [intOf]; omega
      · have hne := str_ne he
        have heq2 : Hid ((ys ++ [x]) ++ delL k (l.drop (j + 1)) = delL k l) := Lib.hid (by
          rw [← heq.out, HDR.out, delL, delL, List.filter_cons, if_pos (by simpa using he), List.append_assoc]; rfl)
        have hys1 : ys.length + 1 ≤ 100000 := by have := hys.out; omega
        have HYS := Lib.hid hys1
        clear hys1 he
        go_wp2_with (at_builtin; refine list_app1 rfl _ _ rfl w.heap.size _ ys rfl (POwn.alloc hown.out _) wr.heap.size 1 x rfl (heap_at_alloc _ _) HYS.out (by simp; omega) ?_; intro v2 w2 hown2 hgr2)
        have HB2 := Lib.hid ((HB.out.alloc hsz _).trans (hgr2.below (by simp; omega) (POwn.low hown.out)))
        clear hgr2
        go_wp2_with fail
        go_roundw
        case rel => exact ⟨j + 1, ys ++ [x], by go_num, by omega, Lib.hid hown2, heq2, Lib.hid (by have := hys.out; simp; omega), HB2.out⟩
        case measure => simp [intOf]; omega
    · have hltI : ¬ (j : Int) < (l.length : Int) := by omega
      obtain ⟨va, vc, rfl, _⟩ := POwn.shape hown.out
      have hres : Hid (POwn wr w.heap.size (.slice va ys.length vc) (delL k l)) := Lib.hid (by
        have := heq.out
        rw [List.drop_of_length_le (by omega)] at this
        rw [← this]; simpa [delL] using hown.out)
      have HB := Lib.hid hb
      clear hb
      go_wp2
      go_ret
      exact ⟨_, rfl, hres.out, HB.out⟩
end Go.Proofs.YtmpjpaomgifpcaaGreatDoor
namespace Go.Proofs.YtmpjpaomgifpcaaGreatDoor
open Go.RowKit Go.Op

def restL (k v : ByteArray) (d : Bool) (r : List Pr) : List Pr := if d then delL k r else putL k v r
def PutRel (k u : ByteArray) (l : List Pr) (w : World) (v d i : Value) (wr : World) : Prop :=
  ∃ (j : Nat) (b : Bool) (ys : List Pr), i = .int .i64 j ∧ d = .bool b ∧ j ≤ l.length ∧ Hid (POwn wr w.heap.size v ys) ∧ Hid (ys ++ restL k u b (l.drop j) = putL k u l) ∧ Hid (ys.length ≤ j + 1 ∧ (b = false → ys.length ≤ j)) ∧ Below w.heap.size w wr

theorem str_ne2 {a b : ByteArray} (h : ¬ a = b) : (b.toList == a.toList) = false := str_ne (fun e => h e.symm)
theorem less_of {a b : ByteArray} (h : ltK a b) : bytesLess a.toList b.toList = true := by
  rw [ByteArray.toList_eq, ByteArray.toList_eq, bytesLess_eq]; exact decide_eq_true h
theorem less_not {a b : ByteArray} (h : leK a b = false) : bytesLess a.toList b.toList = false := by
  rw [ByteArray.toList_eq, ByteArray.toList_eq]
  unfold leK at h
  exact (Bool.or_eq_false_iff.1 h).1

set_option maxRecDepth 30000 in
set_option maxHeartbeats 4000000 in
theorem put_ref (k u : ByteArray) (l : List Pr) (lv : Value) (w : World) (hk : k.size = 32) (hl : l.length ≤ 50000) (h : PSl w lv l) :
    Calls Tryz.prog 31 #[lv, .string k, .string u] w (PRes w (putL k u l)) := by
  obtain ⟨a, c, rfl, hc, hcells⟩ := h
  have HC := Lib.hid hcells
  clear hcells
  have hl0 : (0 : Int) ≤ (l.length : Int) := by omega
  have hl1 : (l.length : Int) ≤ 50000 := by omega
  have hkI : ((k.size : Int) != 32) = false := by rw [hk]; rfl
  clear hk
  go_enter Tryz.func31, Tryz.ntmps31
  go_wp2_with fail
  go_loopw [7, 8, 9] (PutRel k u l w) (fun _ _ i _ => 50000 - (intOf i).toNat)
  case atStart => exact ⟨0, false, [], rfl, rfl, by omega, Lib.hid (POwn.nil _ _), Lib.hid (by simp [restL]), Lib.hid (by simp), Below.refl _ _⟩
  case round =>
    obtain ⟨j, b, ys, rfl, rfl, hj, hown, heq, hys, hb⟩ := hrel
    have hj0 : (0 : Int) ≤ (j : Int) := by omega
    have hj1 : (j : Int) ≤ 50000 := by omega
    by_cases hlt : j < l.length
    · have hltI : (j : Int) < (l.length : Int) := by omega
      obtain ⟨g, o, rfl, hg, hcs⟩ := HC.out (by intro e; rw [e] at hlt; simp at hlt)
      obtain ⟨x, hx⟩ : ∃ x, x = l[j] := ⟨_, rfl⟩
      obtain ⟨d1, d2⟩ := hcs j x (by rw [hx]; exact List.getElem?_eq_getElem hlt)
      have c1 : wr.cell? ⟨g, o + j * 2, none⟩ = some (.string x.1) := by rw [hb.cell (p := ⟨g, o + j * 2, none⟩) hg]; exact d1
      have c2 : wr.cell? ⟨g, o + j * 2 + 1, none⟩ = some (.string x.2) := by rw [hb.cell (p := ⟨g, o + j * 2 + 1, none⟩) hg]; exact d2
      have D1 := Lib.hid d1
      have D2 := Lib.hid d2
      have hsz := hb.size
      have HB := Lib.hid hb
      have hdr := drop_get l j hlt
      rw [← hx] at hdr
      have HDR := Lib.hid hdr
      obtain ⟨va, vc, rfl, _⟩ := POwn.shape hown.out
      have hg2 : g < wr.heap.size := by omega
      clear d1 d2 hcs hb hdr hx
      have hy1 : ys.length + 1 ≤ 100000 := by have := hys.out.1; omega
      have HY := Lib.hid hy1
      clear hy1
      cases b with
      | true =>
        by_cases he : x.1 = k
        · subst he
          have heq2 : Hid (ys ++ restL x.1 u true (l.drop (j + 1)) = putL x.1 u l) := Lib.hid (by
            rw [← heq.out, HDR.out, restL, restL, if_pos rfl, if_pos rfl, delL, delL, List.filter_cons, if_neg (by simp)])
          go_wp2_with fail
          go_roundw
          case rel => exact ⟨j + 1, true, ys, by go_num, rfl, by omega, hown, heq2, Lib.hid ⟨by have := hys.out.1; omega, fun h => by cases h⟩, HB.out⟩
          case measure => simp [intOf]; omega
        · have hne := str_ne2 he
          have heq2 : Hid ((ys ++ [x]) ++ restL k u true (l.drop (j + 1)) = putL k u l) := Lib.hid (by
            rw [← heq.out, HDR.out, restL, restL, if_pos rfl, if_pos rfl, delL, delL, List.filter_cons, if_pos (by simpa using he), List.append_assoc]; rfl)
          clear he
          go_wp2_with (at_builtin; refine list_app1 rfl _ _ rfl w.heap.size _ ys rfl (POwn.alloc hown.out _) wr.heap.size 1 x rfl (heap_at_alloc _ _) HY.out (by simp; omega) ?_; intro v2 w2 hown2 hgr2)
          have HB2 := Lib.hid ((HB.out.alloc hsz _).trans (hgr2.below (by simp; omega) (POwn.low hown.out)))
          clear hgr2
          go_wp2_with fail
          go_roundw
          case rel => exact ⟨j + 1, true, ys ++ [x], by go_num, rfl, by omega, Lib.hid hown2, heq2, Lib.hid ⟨by have := hys.out.1; simp; omega, fun h => by cases h⟩, HB2.out⟩
          case measure => simp [intOf]; omega
      | false =>
        by_cases he : x.1 = k
        · subst he
          have heq2 : Hid ((ys ++ [(x.1, u)]) ++ restL x.1 u true (l.drop (j + 1)) = putL x.1 u l) := Lib.hid (by
            rw [← heq.out, HDR.out, restL, restL, if_pos rfl, if_neg (by simp), putL, leK_self, if_pos rfl, delL, List.filter_cons, if_neg (by simp), List.append_assoc]; rfl)
          have hsl : bytesLess x.1.toList x.1.toList = false := by rw [ByteArray.toList_eq, bytesLess_eq]; exact decide_eq_false (List.lt_irrefl _)
          go_wp2_with (at_builtin; refine list_app1 rfl _ _ rfl w.heap.size _ ys rfl (POwn.alloc hown.out _) wr.heap.size 1 (x.1, u) rfl (heap_at_alloc _ _) HY.out (by simp; omega) ?_; intro v2 w2 hown2 hgr2; have HB2 := Lib.hid ((HB.out.alloc hsz _).trans (hgr2.below (by simp; omega) (POwn.low hown.out))); have e1 := cellB (HB2.out.mono (Nat.le_refl _)) D1.out)
          go_roundw
          case rel => exact ⟨j + 1, true, ys ++ [(x.1, u)], by go_num, rfl, by omega, Lib.hid hown2, heq2, Lib.hid ⟨by have := hys.out.2 rfl; simp; omega, fun h => by cases h⟩, HB2.out⟩
          case measure => simp [intOf]; omega
        · have hne := str_ne2 he
          cases hle : leK k x.1 with
          | true =>
            have hlk : ltK k x.1 := by
              rw [leK_eq] at hle
              exact Std.lt_of_le_of_ne (of_decide_eq_true hle) (fun e2 => he (ks_inj e2.symm))
            have hless := less_of hlk
            have heq2 : Hid ((ys ++ [(k, u)] ++ [x]) ++ restL k u true (l.drop (j + 1)) = putL k u l) := Lib.hid (by
              rw [← heq.out, HDR.out, restL, restL, if_pos rfl, if_neg (by simp), putL, hle, if_pos rfl, delL, List.filter_cons, if_pos (by simpa using he), List.append_assoc, List.append_assoc]; rfl)
            have hy2 : Hid ((ys ++ [(k, u)]).length + 1 ≤ 100000) := Lib.hid (by have := hys.out.2 rfl; simp; omega)
            clear he hle hlk
            go_wp2_with (at_builtin; first
              | (refine list_app1 rfl _ _ rfl w.heap.size _ (ys ++ [(k, u)]) rfl (POwn.alloc hown2.out _) w2.heap.size 1 x rfl (heap_at_alloc _ _) hy2.out (by have := HB2.out.size; simp; omega) ?_; intro v3 w3 hown3 hgr3; have HB3 := Lib.hid ((HB2.out.alloc HB2.out.size _).trans (hgr3.below (by have := HB2.out.size; simp; omega) (POwn.low hown2.out))))
              | (refine list_app1 rfl _ _ rfl w.heap.size _ ys rfl (POwn.alloc hown.out _) wr.heap.size 1 (k, u) rfl (heap_at_alloc _ _) HY.out (by simp; omega) ?_; intro v2 w2 hown2' hgr2; have hown2 := Lib.hid hown2'; have HB2 := Lib.hid ((HB.out.alloc hsz _).trans (hgr2.below (by simp; omega) (POwn.low hown.out))); have e1 := cellB (HB2.out.mono (Nat.le_refl _)) D1.out; have e2 := cellB (HB2.out.mono (Nat.le_refl _)) D2.out))
            go_roundw
            case rel => exact ⟨j + 1, true, ys ++ [(k, u)] ++ [x], by go_num, rfl, by omega, Lib.hid hown3, heq2, Lib.hid ⟨by have := hys.out.2 rfl; simp; omega, fun h => by cases h⟩, HB3.out⟩
            case measure => simp [intOf]; omega
          | false =>
            have hless := less_not hle
            have heq2 : Hid ((ys ++ [x]) ++ restL k u false (l.drop (j + 1)) = putL k u l) := Lib.hid (by
              rw [← heq.out, HDR.out, restL, restL, if_neg (by simp), if_neg (by simp), putL, hle, if_neg (by simp), List.append_assoc]; rfl)
            clear he hle
            go_wp2_with (at_builtin; refine list_app1 rfl _ _ rfl w.heap.size _ ys rfl (POwn.alloc hown.out _) wr.heap.size 1 x rfl (heap_at_alloc _ _) HY.out (by simp; omega) ?_; intro v2 w2 hown2 hgr2)
            have HB2 := Lib.hid ((HB.out.alloc hsz _).trans (hgr2.below (by simp; omega) (POwn.low hown.out)))
            clear hgr2
            go_wp2_with fail
            go_roundw
            case rel => exact ⟨j + 1, false, ys ++ [x], by go_num, rfl, by omega, Lib.hid hown2, heq2, Lib.hid ⟨by have := hys.out.2 rfl; simp; omega, fun _ => by have := hys.out.2 rfl; simp; omega⟩, HB2.out⟩
            case measure => simp [intOf]; omega
    · have hltI : ¬ (j : Int) < (l.length : Int) := by omega
      have hdn : l.drop j = [] := List.drop_of_length_le (by omega)
      have HB := Lib.hid hb
      have hsz := hb.size
      obtain ⟨va, vc, rfl, _⟩ := POwn.shape hown.out
      cases b with
      | true =>
        have hres : Hid (POwn wr w.heap.size (.slice va ys.length vc) (putL k u l)) := Lib.hid (by
          have := heq.out
          rw [hdn] at this
          rw [← this]; simpa [restL, delL] using hown.out)
        clear hb hdn
        go_wp2
        go_ret
        exact ⟨_, rfl, hres.out, HB.out⟩
      | false =>
        have heq2 : Hid (ys ++ [(k, u)] = putL k u l) := Lib.hid (by
          have := heq.out
          rw [hdn] at this
          rw [← this]; simp [restL, putL])
        have hy1 : ys.length + 1 ≤ 100000 := by have := hys.out.1; omega
        have HY := Lib.hid hy1
        clear hb hdn hy1
        go_wp2_with (at_builtin; refine list_app1 rfl _ _ rfl w.heap.size _ ys rfl (POwn.alloc hown.out _) wr.heap.size 1 (k, u) rfl (heap_at_alloc _ _) HY.out (by simp; omega) ?_; intro v2 w2 hown2 hgr2)
        go_ret
        exact ⟨_, rfl, by rw [← heq2.out]; exact hown2, (HB.out.alloc hsz _).trans (hgr2.below (by simp; omega) (POwn.low hown.out))⟩
end Go.Proofs.YtmpjpaomgifpcaaGreatDoor
namespace Go.Proofs.YtmpjpaomgifpcaaGreatDoor
open Go.ChangeShapes Go.WideShapes Go.RowKit Go.Deep

section
variable {H : Type} {enc : TypeId × Value → H} {P : Program} {W W' : World}

theorem sameAt_below {B : Nat} (hb : Below B W W') (p : MemPlace) (hp : p.block < B) : W.sameAt W' p := by
  cases p with
  | cell b o => exact World.cell?_of_block (w := W) (hb.block b hp)
  | map b => exact hb.block b hp

/-- What was handed in reads as it did, where all that lay there lies there. -/
theorem trodAll_stay (K : Kids P (· < P.types.size)) (hz : ∀ t e, t < P.types.size → P.underlying t = some (.slice e) → 0 < P.cellsOf e) {sp : Nat → Bool} {B : Nat} (hb : Below B W W') :
    ∀ {ts : List TypeId} {vs : List Value} {ds : List (DataW H)} {ps : List MemPlace}, (∀ t ∈ ts, t < P.types.size) → DataW.TrodAll enc P W 0 (fun _ => true) true ts vs ds ps → (∀ p ∈ ps, p.block < B ∧ sp p.block = true) →
      DataW.TrodAll enc P W' 0 sp true ts vs ds ps
  | [], [], [], _, _, h, _ => h
  | _ :: _, _ :: _, _ :: _, _, hT, ⟨p, q, ⟨n, hn⟩, h2, e⟩, hs =>
    ⟨p, q, ⟨n, DataW.trod_stays K (fun ht hu => hz _ _ ht hu) (fun h => by cases h) (hT _ (List.mem_cons.2 (Or.inl rfl))) hn (fun x hx => sameAt_below hb x (hs x (by rw [e]; exact List.mem_append_left _ hx)).1) (fun x hx => (hs x (by rw [e]; exact List.mem_append_left _ hx)).2)⟩,
      trodAll_stay K hz hb (fun t ht => hT t (List.mem_cons.2 (Or.inr ht))) h2 (fun x hx => hs x (by rw [e]; exact List.mem_append_right _ hx)), e⟩

/-- The slice's cells: each is a byte. -/
def U8s (w : World) (la : Option Addr) (ln : Nat) : Prop := ∀ i, i < ln → ∃ (g o z : Nat), la = some ⟨g, o, none⟩ ∧ g < w.heap.size ∧ z ≤ 255 ∧ w.cell? ⟨g, o + i, none⟩ = some (.int .u8 z)

theorem spot_none {a : Addr} {v : Value} (h : W.cell? a = some v) : ∃ g o, a = ⟨g, o, none⟩ := by
  obtain ⟨g, o, s⟩ := a
  cases s with
  | none => exact ⟨g, o, rfl⟩
  | some q =>
    unfold World.cell? at h
    split at h <;> simp at h
theorem add_spot (g o i : Nat) : (⟨g, o, none⟩ : Addr).add i = ⟨g, o + i, none⟩ := by
  unfold Addr.add; split
  · rename_i h; subst h; rfl
  · rfl
theorem spot_of {a : Addr} {i : Nat} {v : Value} (hi : i = 0) (h : W.cell? (a.add i) = some v) : ∃ g o, a = ⟨g, o, none⟩ := by
  subst hi
  exact spot_none (by simpa [Addr.add] using h)

theorem open_u8s {t e : TypeId} {v : Value} {d : DataW H} {ps : List MemPlace} (ht : P.underlying t = some (.slice e)) (he : P.underlying e = some (.int .u8)) (hc : P.cellsOf e = 1)
    (hv : ∃ a n c, v = .slice a n c) (h : DataW.Trod enc P W 0 (fun _ => true) true t v d ps) : ∃ la ln lc, v = .slice la ln lc ∧ ln ≤ maxLen ∧ U8s W la ln := by
  obtain ⟨a0, n0, c0, rfl⟩ := hv
  obtain ⟨fuel, hf⟩ := h
  rcases open_ints ht he hc hf with ⟨hcs, _⟩ | ⟨a, len, cap, zs, hcs, _, hl, hm, hz, _, hcell, hwz⟩
  · simp [Value.cells] at hcs
    obtain ⟨rfl, rfl, rfl⟩ := hcs
    exact ⟨none, 0, 0, rfl, by omega, fun i hi => by omega⟩
  · simp [Value.cells] at hcs
    obtain ⟨rfl, rfl, rfl⟩ := hcs
    simp only [if_true] at hz
    refine ⟨_, _, _, rfl, by omega, fun i hi => ?_⟩
    obtain ⟨g, o, rfl⟩ := spot_of rfl (hcell 0 (by omega))
    have h1 := hcell i (by omega)
    rw [add_spot] at h1
    have h2 : zs.getD i 0 ∈ zs := by rw [List.getD_eq_getElem?_getD, List.getElem?_eq_getElem (by omega)]; simp
    have h3 := hwz _ h2
    have h4 : 0 ≤ zs.getD i 0 ∧ zs.getD i 0 ≤ 255 := by simpa [Lit.wf, IntKind.min, IntKind.max, IntKind.signed, IntKind.bits] using h3
    refine ⟨g, o, (zs.getD i 0).toNat, rfl, World.block_lt_of_cell? W _ h1, by omega, ?_⟩
    rw [h1, Int.toNat_of_nonneg h4.1]

/-- The slice's cells: each element is two integers. -/
def Pairs (w : World) (la : Option Addr) (ln : Nat) : Prop := ∀ i, i < ln → ∃ (g o : Nat) (x y : Int), la = some ⟨g, o, none⟩ ∧ g < w.heap.size ∧ w.cell? ⟨g, o + i * 2, none⟩ = some (.int .i64 x) ∧ w.cell? ⟨g, o + i * 2 + 1, none⟩ = some (.int .i64 y)
theorem open_pairs64 {t e : TypeId} {f0 f1 : Field} {v : Value} {d : DataW H} {ps : List MemPlace} (ht : P.underlying t = some (.slice e)) (he : P.underlying e = some (.struct #[f0, f1]))
    (ce : P.cellsOf e = 2) (o0 : f0.offset = 0) (o1 : f1.offset = 1) (c0 : P.cellsOf f0.type = 1) (c1 : P.cellsOf f1.type = 1) (u0 : P.underlying f0.type = some (.int .i64)) (u1 : P.underlying f1.type = some (.int .i64))
    (hv : ∃ a n c, v = .slice a n c) (h : DataW.Trod enc P W 0 (fun _ => true) true t v d ps) : ∃ la ln lc, v = .slice la ln lc ∧ ln ≤ maxLen ∧ Pairs W la ln := by
  obtain ⟨a0, n0, c00, rfl⟩ := hv
  obtain ⟨fuel, hf⟩ := h
  rcases open_slice_pairs ht he ce o0 o1 c0 c1 hf with ⟨hcs, _⟩ | ⟨a, len, cap, m, n, V0, V1, D0, D1, P0, P1, hcs, _, hl, hm, hmm, _, hcell⟩
  · simp [Value.cells] at hcs
    obtain ⟨rfl, rfl, rfl⟩ := hcs
    exact ⟨none, 0, 0, rfl, by omega, fun i hi => by omega⟩
  · simp [Value.cells] at hcs
    obtain ⟨rfl, rfl, rfl⟩ := hcs
    simp only [if_true] at hmm
    refine ⟨_, _, _, rfl, by omega, fun i hi => ?_⟩
    obtain ⟨g, o, rfl⟩ := spot_of (by omega) (hcell 0 (by omega)).1
    obtain ⟨h1, h2, h3, h4⟩ := hcell i (by omega)
    rw [add_spot] at h1 h2
    obtain ⟨x, e1, _, _⟩ := DataW.trod_int u0 h3
    obtain ⟨y, e2, _, _⟩ := DataW.trod_int u1 h4
    refine ⟨g, o, x, y, rfl, World.block_lt_of_cell? W _ h1, ?_, ?_⟩
    · rw [h1]; simpa using e1
    · rw [Nat.add_assoc, h2]; simpa using e2
end
end Go.Proofs.YtmpjpaomgifpcaaGreatDoor
namespace Go.Proofs.YtmpjpaomgifpcaaGreatDoor
open Go.ChangeShapes Go.WideShapes Go.RowKit Go.Deep

section
variable {H : Type} {enc : TypeId × Value → H} {P : Program} {W W' : World}

/-- The slice's cells: each element is a number and two texts. -/
def ActsAt (w : World) (la : Option Addr) (ln : Nat) : Prop := ∀ i, i < ln → ∃ (g o : Nat) (x : Int) (k s : ByteArray), la = some ⟨g, o, none⟩ ∧ g < w.heap.size ∧ k.size ≤ maxLen ∧ s.size ≤ maxLen ∧
  w.cell? ⟨g, o + i * 3, none⟩ = some (.int .i64 x) ∧ w.cell? ⟨g, o + i * 3 + 1, none⟩ = some (.string k) ∧ w.cell? ⟨g, o + i * 3 + 2, none⟩ = some (.string s)

theorem open_acts {t e : TypeId} {f0 f1 f2 : Field} {v : Value} {d : DataW H} {ps : List MemPlace} (ht : P.underlying t = some (.slice e)) (he : P.underlying e = some (.struct #[f0, f1, f2]))
    (ce : P.cellsOf e = 3) (o0 : f0.offset = 0) (o1 : f1.offset = 1) (o2 : f2.offset = 2) (c0 : P.cellsOf f0.type = 1) (c1 : P.cellsOf f1.type = 1) (c2 : P.cellsOf f2.type = 1)
    (u0 : P.underlying f0.type = some (.int .i64)) (u1 : P.underlying f1.type = some .string) (u2 : P.underlying f2.type = some .string)
    (hv : ∃ a n c, v = .slice a n c) (h : DataW.Trod enc P W 0 (fun _ => true) true t v d ps) : ∃ la ln lc, v = .slice la ln lc ∧ ln ≤ maxLen ∧ ActsAt W la ln := by
  obtain ⟨a0, n0, c00, rfl⟩ := hv
  obtain ⟨fuel, hf⟩ := h
  rcases open_slice ht hf with ⟨hcs, _⟩ | ⟨a, len, cap, m, n, D, Pl, hcs, _, hl, hm, hmm, _, hx⟩
  · simp [Value.cells] at hcs
    obtain ⟨rfl, rfl, rfl⟩ := hcs
    exact ⟨none, 0, 0, rfl, by omega, fun i hi => by omega⟩
  · simp [Value.cells] at hcs
    obtain ⟨rfl, rfl, rfl⟩ := hcs
    simp only [if_true] at hmm
    have each : ∀ i, i < n0 → ∃ x k s, k.size ≤ maxLen ∧ s.size ≤ maxLen ∧ W.cell? (a.add (i * 3)) = some (.int .i64 x) ∧ W.cell? (a.add (i * 3 + 1)) = some (.string k) ∧ W.cell? (a.add (i * 3 + 2)) = some (.string s) := fun i hi => by
      obtain ⟨cs', h1, h2⟩ := hx i (by omega)
      rw [ce] at h1
      obtain ⟨_, hlen, hcell⟩ := World.cells?_some h1
      obtain ⟨xs, k, _, _, _, hxl, hfs⟩ := DataW.trod_struct he h2
      match xs, hxl, cs', hlen with
      | [y0, y1, y2], _, [v0, v1, v2], _ =>
        have g0 := hfs 0 f0 rfl
        have g1 := hfs 1 f1 rfl
        have g2 := hfs 2 f2 rfl
        simp [o0, o1, o2, c0, c1, c2] at g0 g1 g2
        have q0 := hcell 0 (by omega)
        have q1 := hcell 1 (by omega)
        have q2 := hcell 2 (by omega)
        rw [add_add] at q0 q1 q2
        obtain ⟨x, e0, _, _⟩ := DataW.trod_int u0 g0
        obtain ⟨y, e1, _, hy⟩ := DataW.trod_string u1 g1
        obtain ⟨s, e2, _, hs⟩ := DataW.trod_string u2 g2
        obtain rfl : v0 = .int .i64 x := by simpa using e0
        obtain rfl : v1 = .string y := by simpa using e1
        obtain rfl : v2 = .string s := by simpa using e2
        exact ⟨x, y, s, hy, hs, by simpa using q0, by simpa using q1, by simpa using q2⟩
    refine ⟨_, _, _, rfl, by omega, fun i hi => ?_⟩
    obtain ⟨x0, y0, s0, _, _, z0, _, _⟩ := each 0 (by omega)
    obtain ⟨g, o, rfl⟩ := spot_of (by omega) z0
    obtain ⟨x, y, s, hy, hs, h0, h1, h2⟩ := each i hi
    rw [add_spot] at h0 h1 h2
    exact ⟨g, o, x, y, s, rfl, World.block_lt_of_cell? W _ h0, hy, hs, h0, h1, h2⟩

end
end Go.Proofs.YtmpjpaomgifpcaaGreatDoor
namespace Go.Proofs.YtmpjpaomgifpcaaGreatDoor
open Go.RowKit

abbrev Ac := Int × ByteArray × ByteArray
/-- The slice's elements are these acts. -/
def ActsL (w : World) (la : Option Addr) (L : List Ac) : Prop := L ≠ [] → ∃ g o, la = some ⟨g, o, none⟩ ∧ g < w.heap.size ∧ ∀ i x, L[i]? = some x → x.2.1.size ≤ maxLen ∧ x.2.2.size ≤ maxLen ∧
  w.cell? ⟨g, o + i * 3, none⟩ = some (.int .i64 x.1) ∧ w.cell? ⟨g, o + i * 3 + 1, none⟩ = some (.string x.2.1) ∧ w.cell? ⟨g, o + i * 3 + 2, none⟩ = some (.string x.2.2)
theorem list_of {α : Type} (P : Nat → α → Prop) (n : Nat) (h : ∀ i, i < n → ∃ x, P i x) : ∃ L : List α, L.length = n ∧ ∀ i x, L[i]? = some x → P i x := by
  induction n with
  | zero => exact ⟨[], rfl, fun i x hx => by simp at hx⟩
  | succ n ih =>
    obtain ⟨L, hL, hP⟩ := ih (fun i hi => h i (by omega))
    obtain ⟨x, hx⟩ := h n (by omega)
    refine ⟨L ++ [x], by simp [hL], fun i y hy => ?_⟩
    by_cases hi : i < n
    · rw [List.getElem?_append_left (by omega)] at hy
      exact hP i y hy
    · have hlt := (List.getElem?_eq_some_iff.1 hy).1
      simp [hL] at hlt
      have : i = n := by omega
      subst this
      rw [List.getElem?_append_right (by omega), hL] at hy
      simp at hy
      rw [← hy]; exact hx
theorem acts_list {w : World} {la : Option Addr} {ln : Nat} (h : ActsAt w la ln) : ∃ L : List Ac, L.length = ln ∧ ActsL w la L := by
  by_cases h0 : ln = 0
  · exact ⟨[], h0.symm, fun hne => absurd rfl hne⟩
  · obtain ⟨g, o, _, _, _, rfl, hg, _⟩ := h 0 (by omega)
    obtain ⟨L, hL, hP⟩ := list_of (fun i (x : Ac) => x.2.1.size ≤ maxLen ∧ x.2.2.size ≤ maxLen ∧ w.cell? ⟨g, o + i * 3, none⟩ = some (.int .i64 x.1) ∧ w.cell? ⟨g, o + i * 3 + 1, none⟩ = some (.string x.2.1) ∧ w.cell? ⟨g, o + i * 3 + 2, none⟩ = some (.string x.2.2)) ln (fun i hi => by
      obtain ⟨g', o', x, k, s, he, _, h1, h2, h3, h4, h5⟩ := h i hi
      injection he with he
      injection he with e1 e2 _
      subst e1; subst e2
      exact ⟨(x, k, s), h1, h2, h3, h4, h5⟩)
    exact ⟨L, hL, fun _ => ⟨g, o, rfl, hg, hP⟩⟩
theorem ActsL.later {w w' : World} {la : Option Addr} {L : List Ac} (h : ActsL w la L) (hb : Below w.heap.size w w') : ActsL w' la L := fun hne => by
  obtain ⟨g, o, h1, h2, h3⟩ := h hne
  refine ⟨g, o, h1, Nat.lt_of_lt_of_le h2 hb.size, fun i x hx => ?_⟩
  obtain ⟨a1, a2, a3, a4, a5⟩ := h3 i x hx
  exact ⟨a1, a2, cellB hb a3, cellB hb a4, cellB hb a5⟩

/-- Acts of short texts. -/
def smallL (L : List Ac) : Prop := ∀ x ∈ L, x.2.1.size ≤ 100 ∧ x.2.2.size ≤ 100
def SmallRes (L : List Ac) (n : Int) (w : World) (e : Ending) (w' : World) : Prop := ∃ b : Bool, e = .returned (.bool b) ∧ (b = true → (L.length : Int) ≤ n ∧ smallL L) ∧ Below w.heap.size w w'
def SmRel (L : List Ac) (w : World) (i : Value) (wr : World) : Prop := ∃ j : Nat, i = .int .i64 j ∧ j ≤ L.length ∧ Hid (smallL (L.take j)) ∧ Below w.heap.size w wr

set_option maxRecDepth 30000 in
set_option maxHeartbeats 2000000 in
theorem small_prog (L : List Ac) (n : Int) (la : Option Addr) (lc : Nat) (w : World) (hL : L.length ≤ maxLen) (hn0 : 0 ≤ n) (hn1 : n ≤ 1000) (h : ActsL w la L) :
    Calls Tryz.prog 7 #[.slice la L.length lc, .int .i64 n] w (SmallRes L n w) := by
  unfold maxLen at hL
  have HL := Lib.hid h
  clear h
  by_cases hbig : n < (L.length : Int)
  · have hl0 : (0 : Int) ≤ (L.length : Int) := by omega
    go_enter Tryz.func7, Tryz.ntmps7
    go_wp2
    go_ret
    exact ⟨false, rfl, (fun h => by cases h), Below.refl _ _⟩
  · have hl0 : (0 : Int) ≤ (L.length : Int) := by omega
    have hl1 : (L.length : Int) ≤ 1000 := by omega
    have HBIG := Lib.hid hbig
    go_enter Tryz.func7, Tryz.ntmps7
    go_wp2_with fail
    go_loopw [13] (SmRel L w) (fun i _ => 1000 - (intOf i).toNat)
    case atStart => exact ⟨0, rfl, by omega, Lib.hid (fun x hx => by simp at hx), Below.refl _ _⟩
    case round =>
      obtain ⟨j, rfl, hj, hsm, hb⟩ := hrel
      have hj0 : (0 : Int) ≤ (j : Int) := by omega
      have hj1 : (j : Int) ≤ 1000 := by omega
      by_cases hlt : j < L.length
      · have hltI : (j : Int) < (L.length : Int) := by omega
        obtain ⟨g, o, rfl, hg, hcs⟩ := HL.out (by intro e; rw [e] at hlt; simp at hlt)
        obtain ⟨x, hx⟩ : ∃ x, x = L[j] := ⟨_, rfl⟩
        obtain ⟨z1, z2, d0, d1, d2⟩ := hcs j x (by rw [hx]; exact List.getElem?_eq_getElem hlt)
        have c0 : wr.cell? ⟨g, o + j * 3, none⟩ = some (.int .i64 x.1) := by rw [hb.cell (p := ⟨g, o + j * 3, none⟩) hg]; exact d0
        have c1 : wr.cell? ⟨g, o + j * 3 + 1, none⟩ = some (.string x.2.1) := by rw [hb.cell (p := ⟨g, o + j * 3 + 1, none⟩) hg]; exact d1
        have c2 : wr.cell? ⟨g, o + j * 3 + 2, none⟩ = some (.string x.2.2) := by rw [hb.cell (p := ⟨g, o + j * 3 + 2, none⟩) hg]; exact d2
        have hsz := hb.size
        have HB := Lib.hid hb
        have htk : Hid (L.take (j + 1) = L.take j ++ [x]) := Lib.hid (by rw [hx]; exact List.take_succ_eq_append_getElem hlt)
        obtain ⟨x0, x1, x2⟩ := x
        simp only at c0 c1 c2 z1 z2
        unfold maxLen at z1 z2
        have q1 : (0 : Int) ≤ (x1.size : Int) := by omega
        have q2 : (0 : Int) ≤ (x2.size : Int) := by omega
        clear d0 d1 d2 hcs hb hx
        by_cases h1 : 100 < x1.size
        · have hI : (100 : Int) < (x1.size : Int) := by omega
          go_wp2_with fail
          go_ret
          exact ⟨false, rfl, (fun h => by cases h), HB.out.alloc hsz _⟩
        · have hI : ¬ (100 : Int) < (x1.size : Int) := by omega
          by_cases h2 : 100 < x2.size
          · have hI2 : (100 : Int) < (x2.size : Int) := by omega
            go_wp2_with fail
            go_ret
            exact ⟨false, rfl, (fun h => by cases h), HB.out.alloc hsz _⟩
          · have hI2 : ¬ (100 : Int) < (x2.size : Int) := by omega
            have HSM2 : Hid (smallL (L.take (j + 1))) := Lib.hid (by
              rw [htk.out]
              intro y hy
              rcases List.mem_append.1 hy with hy | hy
              · exact hsm.out y hy
              · obtain rfl : y = (x0, x1, x2) := by simpa using hy
                exact ⟨by show x1.size ≤ 100; omega, by show x2.size ≤ 100; omega⟩)
            go_wp2_with fail
            go_roundw
            case rel => exact ⟨j + 1, by go_num, by omega, HSM2, HB.out.alloc hsz _⟩
            case measure => simp [intOf]; omega
      · have hltI : ¬ (j : Int) < (L.length : Int) := by omega
        have HB := Lib.hid hb
        have HR : Hid (smallL L) := Lib.hid (by
          have := hsm.out
          rwa [List.take_of_length_le (by omega)] at this)
        clear hb
        go_wp2
        go_ret
        exact ⟨true, rfl, fun _ => ⟨by have := HBIG.out; omega, HR.out⟩, HB.out⟩
end Go.Proofs.YtmpjpaomgifpcaaGreatDoor
namespace Go.Proofs.YtmpjpaomgifpcaaGreatDoor
open Go.RowKit

def actM (m : Option Tr) (x : Ac) : Option Tr := if x.1 = 1 then MT.del (keyB x.2.1) m else MT.put (keyB x.2.1) x.2.2 m
/-- The map of acts. -/
def madeT (L : List Ac) : Option Tr := L.foldl actM none
theorem act_ok {m : Option Tr} {x : Ac} (hm : MT.wf m) (hx : x.2.2.size ≤ 5000) : MT.wf (actM m x) ∧ MT.pairs (actM m x) = (if x.1 = 1 then delL (keyB x.2.1) (MT.pairs m) else putL (keyB x.2.1) x.2.2 (MT.pairs m)) ∧ (MT.pairs (actM m x)).length ≤ (MT.pairs m).length + 1 := by
  unfold actM
  split
  · obtain ⟨h1, h2⟩ := MT.del_ok (keyB x.2.1) (keyB_size _) m hm
    refine ⟨h1, h2, ?_⟩
    rw [h2]
    have := List.length_filter_le (fun y => decide (y.1 ≠ keyB x.2.1)) (MT.pairs m)
    unfold delL; omega
  · obtain ⟨h1, h2⟩ := MT.put_ok (keyB x.2.1) x.2.2 (keyB_size _) hx m hm
    refine ⟨h1, h2, ?_⟩
    rw [h2, length_put _ _ _ (MT.sorted hm)]
    split <;> omega
theorem made_ok (L : List Ac) (h : smallL L) : MT.wf (madeT L) ∧ (MT.pairs (madeT L)).length ≤ L.length := by
  have key : ∀ (L : List Ac) (m : Option Tr), smallL L → MT.wf m → MT.wf (L.foldl actM m) ∧ (MT.pairs (L.foldl actM m)).length ≤ (MT.pairs m).length + L.length := by
    intro L
    induction L with
    | nil => intro m _ hm; exact ⟨hm, Nat.le_refl _⟩
    | cons x L ih =>
      intro m hs hm
      obtain ⟨a1, _, a3⟩ := act_ok (x := x) hm (by have := (hs x (List.mem_cons_self ..)).2; omega)
      obtain ⟨b1, b2⟩ := ih (actM m x) (fun y hy => hs y (List.mem_cons_of_mem _ hy)) a1
      exact ⟨b1, by rw [List.foldl_cons, List.length_cons]; omega⟩
  have := key L none h trivial
  have h2 := this.2
  rw [show (MT.pairs none).length = 0 from rfl, Nat.zero_add] at h2
  exact ⟨this.1, h2⟩
theorem made_take (L : List Ac) (j : Nat) (hj : j < L.length) : madeT (L.take (j + 1)) = actM (madeT (L.take j)) L[j] := by
  unfold madeT
  rw [List.take_succ_eq_append_getElem hj, List.foldl_append]; rfl

/-- A map and its pairs are answered. -/
def MdRes (m : Option Tr) (w : World) (e : Ending) (w' : World) : Prop := ∃ x v, e = .returned (.tuple #[x, v]) ∧ MAt w' m x ∧ POwn w' w.heap.size v (MT.pairs m) ∧ Below w.heap.size w w'
def MdRel (L : List Ac) (w : World) (x v i : Value) (wr : World) : Prop :=
  ∃ (j : Nat), i = .int .i64 j ∧ j ≤ L.length ∧ Hid (MAt wr (madeT (L.take j)) x) ∧ Hid (POwn wr w.heap.size v (MT.pairs (madeT (L.take j)))) ∧ Below w.heap.size w wr

theorem three_cells {w : World} {b : Nat} {x y z : Value} {t : TypeId} (h : w.heap[b]? = some (.cells #[x, y, z] t (0, 0))) : w.cell? ⟨b, 0, none⟩ = some x ∧ w.cell? ⟨b, 1, none⟩ = some y ∧ w.cell? ⟨b, 2, none⟩ = some z := by
  simp [World.cell?, h]

set_option maxRecDepth 30000 in
set_option maxHeartbeats 4000000 in
theorem made_prog (L : List Ac) (la : Option Addr) (lc : Nat) (w : World) (hL : L.length ≤ 40) (hs : smallL L) (h : ActsL w la L) (hst : Start w) :
    Calls Tryz.prog 8 #[.slice la L.length lc] w (MdRes (madeT L) w) := by
  have HL := Lib.hid h
  have HS := Lib.hid hst
  have hl0 : (0 : Int) ≤ (L.length : Int) := by omega
  have hl1 : (L.length : Int) ≤ 40 := by omega
  clear h hst
  go_enter Tryz.func8, Tryz.ntmps8
  go_wp2_with fail
  refine (new_trie w).mono ?_
  rintro e w1 ⟨x1, rfl, h1, hb1⟩
  have H1 := Lib.hid h1
  have B1 := Lib.hid hb1
  clear h1 hb1
  go_wp2_with fail
  go_loopw [4, 5, 12] (MdRel L w) (fun _ _ i _ => 40 - (intOf i).toNat)
  case atStart => exact ⟨0, rfl, by omega, H1, Lib.hid (POwn.nil _ _), B1.out⟩
  case round =>
    obtain ⟨j, rfl, hj, hmat, hown, hb⟩ := hrel
    have hj0 : (0 : Int) ≤ (j : Int) := by omega
    have hj1 : (j : Int) ≤ 40 := by omega
    have hsz := hb.size
    have HB := Lib.hid hb
    by_cases hlt : j < L.length
    · have hltI : (j : Int) < (L.length : Int) := by omega
      obtain ⟨g, o, rfl, hg, hcs⟩ := HL.out (by intro e; rw [e] at hlt; simp at hlt)
      obtain ⟨x, hx⟩ : ∃ x, x = L[j] := ⟨_, rfl⟩
      obtain ⟨z1, z2, d0, d1, d2⟩ := hcs j x (by rw [hx]; exact List.getElem?_eq_getElem hlt)
      have c0 : wr.cell? ⟨g, o + j * 3, none⟩ = some (.int .i64 x.1) := by rw [hb.cell (p := ⟨g, o + j * 3, none⟩) hg]; exact d0
      have c1 : wr.cell? ⟨g, o + j * 3 + 1, none⟩ = some (.string x.2.1) := by rw [hb.cell (p := ⟨g, o + j * 3 + 1, none⟩) hg]; exact d1
      have c2 : wr.cell? ⟨g, o + j * 3 + 2, none⟩ = some (.string x.2.2) := by rw [hb.cell (p := ⟨g, o + j * 3 + 2, none⟩) hg]; exact d2
      have hxs := hs x (by rw [hx]; exact List.getElem_mem hlt)
      have hmk := made_ok (L.take j) (fun y hy => hs y (List.mem_of_mem_take hy))
      have htk := made_take L j hlt
      rw [← hx] at htk
      obtain ⟨M, hM⟩ : ∃ M, M = madeT (L.take j) := ⟨_, rfl⟩
      rw [← hM] at hmat hown hmk htk
      have hml : (MT.pairs M).length ≤ 40 := by have := hmk.2; rw [List.length_take] at this; omega
      obtain ⟨_, hpr, _⟩ := act_ok (x := x) hmk.1 (by omega)
      obtain ⟨x0, x1', x2⟩ := x
      simp only at c0 c1 c2 hxs
      have HK := Lib.hid (fun W => key_prog x1' W (by omega))
      obtain ⟨K, hK⟩ : ∃ K, K = keyB x1' := ⟨_, rfl⟩
      have hKs : K.size = 32 := by rw [hK]; exact keyB_size _
      rw [← hK] at HK
      obtain ⟨W0, hW0⟩ : ∃ W0, W0 = wr.alloc (.cells #[.int .i64 x0, .string x1', .string x2] 68) := ⟨_, rfl⟩
      obtain ⟨a0, a1, a2⟩ := three_cells (w := W0) (b := wr.heap.size) (by rw [hW0]; exact heap_at_alloc _ _)
      have hbW : Below wr.heap.size wr W0 := by rw [hW0]; exact (Below.refl _ wr).alloc (Nat.le_refl _) _
      have HW0 := Lib.hid hW0
      have HMA := Lib.hid (hmat.out.later hbW)
      have HOW := Lib.hid (POwn.later hown.out hbW)
      have HBW := Lib.hid (hb.trans (hbW.mono hsz))
      have HWF := Lib.hid hmk.1
      have HHTK := Lib.hid htk
      have HHPR := Lib.hid hpr
      have HHK := Lib.hid hK
      clear d0 d1 d2 hcs hb hx hmk hbW hW0 hM htk hpr hK hmat hown
      by_cases hw : x0 = 1
      · have hwI : (x0 == 1) = true := by rw [hw]; rfl
        have HD := Lib.hid (fun (xv : Value) (W : World) (h : MAt W M xv) (hb : Below w.heap.size w W) => del_prog K M xv W (by omega) HWF.out (by omega) h (HS.out.later hb))
        have HRD := Lib.hid (fun (v : Value) (W : World) (h : PSl W v (MT.pairs M)) => delete_ref K (MT.pairs M) v W (by omega) h)
        have HT2 : Hid (madeT (L.take (j + 1)) = MT.del K M) := Lib.hid (by rw [HHTK.out]; unfold actM; rw [if_pos hw, ← HHK.out])
        have HP2 : Hid (MT.pairs (MT.del K M) = delL K (MT.pairs M)) := Lib.hid (MT.del_ok K hKs M HWF.out).2
        clear hw
        go_wp2_with fail
        rw [show wr.alloc (.cells #[.int .i64 x0, .string x1', .string x2] 68) = W0 from HW0.out.symm]
        refine (HK.out W0).mono ?_
        rintro e w2 ⟨rfl, hb2⟩
        have e0 := cellB hb2 a0
        have HMA2 := Lib.hid (HMA.out.later hb2)
        have HOW2 := Lib.hid (POwn.later HOW.out hb2)
        have HB2 := Lib.hid (HBW.out.trans (hb2.mono HBW.out.size))
        clear hb2
        go_wp2_with fail
        refine (HD.out _ w2 HMA2.out HB2.out).mono ?_
        rintro e w3 ⟨x3, rfl, h3, hb3⟩
        have H3 := Lib.hid h3
        have HOW3 := Lib.hid (POwn.later HOW2.out hb3)
        have HB3 := Lib.hid (HB2.out.trans (hb3.mono HB2.out.size))
        clear h3 hb3
        go_wp2_with fail
        refine (HRD.out _ w3 (POwn.sl HOW3.out)).mono ?_
        rintro e w4 ⟨v4, rfl, h4, hb4⟩
        have H4 := Lib.hid (POwn.base h4 HB3.out.size)
        have H34 := Lib.hid (H3.out.later hb4)
        have HB4 := Lib.hid (HB3.out.trans (hb4.mono HB3.out.size))
        clear h4 hb4
        go_wp2_with fail
        go_roundw
        case rel => exact ⟨j + 1, by go_num, by omega, Lib.hid (by rw [HT2.out]; exact H34.out), Lib.hid (by rw [HT2.out, HP2.out]; exact H4.out), HB4.out⟩
        case measure => simp [intOf]; omega
      · have hwI : (x0 == 1) = false := by simpa using hw
        have HP := Lib.hid (fun (xv : Value) (W : World) (h : MAt W M xv) (hb : Below w.heap.size w W) => put_prog K x2 M xv W (by omega) (by omega) HWF.out (by omega) h (HS.out.later hb))
        have HRP := Lib.hid (fun (v : Value) (W : World) (h : PSl W v (MT.pairs M)) => put_ref K x2 (MT.pairs M) v W hKs (by omega) h)
        have HT2 : Hid (madeT (L.take (j + 1)) = MT.put K x2 M) := Lib.hid (by rw [HHTK.out]; unfold actM; rw [if_neg hw, ← HHK.out])
        have HP2 : Hid (MT.pairs (MT.put K x2 M) = putL K x2 (MT.pairs M)) := Lib.hid (MT.put_ok K x2 hKs (by omega) M HWF.out).2
        clear hw
        go_wp2_with fail
        rw [show wr.alloc (.cells #[.int .i64 x0, .string x1', .string x2] 68) = W0 from HW0.out.symm]
        refine (HK.out W0).mono ?_
        rintro e w2 ⟨rfl, hb2⟩
        have e0 := cellB hb2 a0
        have e2 := cellB hb2 a2
        have HMA2 := Lib.hid (HMA.out.later hb2)
        have HOW2 := Lib.hid (POwn.later HOW.out hb2)
        have HB2 := Lib.hid (HBW.out.trans (hb2.mono HBW.out.size))
        have HMAD : Hid (MAt w2.drew M _) := Lib.hid (HMA2.out.later (Below.refl _ w2).drew)
        have HBD : Hid (Below w.heap.size w w2.drew) := Lib.hid (HB2.out.trans ((Below.refl _ w2).drew.mono HB2.out.size))
        have HOWD : Hid (POwn w2.drew w.heap.size _ (MT.pairs M)) := Lib.hid (POwn.later HOW2.out (Below.refl _ w2).drew)
        clear hb2
        go_wp2_with fail
        go_region_held3 (fun w' => w'.cell? ⟨wr.heap.size, 2, none⟩ = some (.string x2))
          (first | exact e2 | exact e4 | exact e3)
          (first
            | (go_at_call 26; (with_reducible refine (HP.out _ _ HMAD.out HBD.out).mono ?_); rintro e w3 ⟨x3, rfl, h3, hb3⟩; have e3 := cellD hb3 e2; have H3 := Lib.hid h3; have HOW3 := Lib.hid (POwn.later HOWD.out hb3); have HB3 := Lib.hid (HBD.out.trans (hb3.mono HBD.out.size)); have HPS3 := Lib.hid (POwn.sl HOW3.out))
            | (go_at_call 31; (with_reducible refine (HRP.out _ _ HPS3.out).mono ?_); rintro e w4 ⟨v4, rfl, h4, hb4⟩; have e4 := cellB hb4 e3; have H4 := Lib.hid (POwn.base h4 HB3.out.size); have H34 := Lib.hid (H3.out.later hb4); have HB4 := Lib.hid (HB3.out.trans (hb4.mono HB3.out.size))))
        go_wp2_with fail
        go_roundw
        case rel => exact ⟨j + 1, by go_num, by omega, Lib.hid (by rw [HT2.out]; exact H34.out), Lib.hid (by rw [HT2.out, HP2.out]; exact H4.out), HB4.out⟩
        case measure => simp [intOf]; omega
    · have hltI : ¬ (j : Int) < (L.length : Int) := by omega
      have hall : L.take j = L := List.take_of_length_le (by omega)
      have HM2 := Lib.hid (show MAt wr (madeT L) _ by rw [← hall]; exact hmat.out)
      have HO2 := Lib.hid (show POwn wr w.heap.size _ (MT.pairs (madeT L)) by rw [← hall]; exact hown.out)
      clear hall hb hmat hown
      go_wp2
      go_ret2
      exact ⟨_, _, rfl, HM2.out, HO2.out, HB.out⟩
end Go.Proofs.YtmpjpaomgifpcaaGreatDoor
namespace Go.Proofs.YtmpjpaomgifpcaaGreatDoor

theorem MT.val_ok {m : Option Tr} (hm : MT.wf m) {k v : ByteArray} (h : getL k (MT.pairs m) = some v) : v.size ≤ 5000 := by
  match m with
  | none => cases h
  | some t => exact (Tr.pairs_ok hm _ (getL_some k v _ h)).2.1
theorem back_none (k v : ByteArray) (hk : k.size = 32) (hv : v.size ≤ 5000) (m : Option Tr) (hm : MT.wf m) (h : getL k (MT.pairs m) = none) : MT.del k (MT.put k v m) = m := by
  obtain ⟨a1, a2⟩ := MT.put_ok k v hk hv m hm
  obtain ⟨b1, b2⟩ := MT.del_ok k hk _ a1
  refine MT.one b1 hm ?_
  rw [b2, a2, del_put, delL_ne k _ (getL_isNone k _ h)]
theorem back_some (k v u : ByteArray) (hk : k.size = 32) (hv : v.size ≤ 5000) (m : Option Tr) (hm : MT.wf m) (h : getL k (MT.pairs m) = some u) : MT.put k u (MT.put k v m) = m := by
  obtain ⟨a1, a2⟩ := MT.put_ok k v hk hv m hm
  obtain ⟨b1, b2⟩ := MT.put_ok k u hk (MT.val_ok hm h) _ a1
  refine MT.one b1 hm ?_
  rw [b2, a2, putL_twice, putL_same k u _ (MT.sorted hm) h]
theorem put_again (k v : ByteArray) (hk : k.size = 32) (hv : v.size ≤ 5000) (m : Option Tr) (hm : MT.wf m) : MT.put k v (MT.put k v m) = MT.put k v m := by
  obtain ⟨a1, a2⟩ := MT.put_ok k v hk hv m hm
  obtain ⟨b1, b2⟩ := MT.put_ok k v hk hv _ a1
  refine MT.one b1 a1 ?_
  rw [b2, a2, putL_twice]
theorem del_again (k : ByteArray) (hk : k.size = 32) (m : Option Tr) (hm : MT.wf m) : MT.del k (MT.del k m) = MT.del k m := by
  obtain ⟨a1, a2⟩ := MT.del_ok k hk m hm
  have h : getL k (MT.pairs (MT.del k m)) = none := by rw [a2]; exact get_del k _
  generalize MT.del k m = n at h
  unfold MT.del
  rw [if_pos hk, if_pos h]
theorem put_get (k v : ByteArray) (hk : k.size = 32) (hv : v.size ≤ 5000) (m : Option Tr) (hm : MT.wf m) : getL k (MT.pairs (MT.put k v m)) = some v := by
  rw [(MT.put_ok k v hk hv m hm).2]; exact get_put k v _
theorem put_length (k v : ByteArray) (hk : k.size = 32) (hv : v.size ≤ 5000) (m : Option Tr) (hm : MT.wf m) : (MT.pairs (MT.put k v m)).length ≤ (MT.pairs m).length + 1 := by
  rw [(MT.put_ok k v hk hv m hm).2, length_put _ _ _ (MT.sorted hm)]
  split <;> omega
theorem del_length (k : ByteArray) (hk : k.size = 32) (m : Option Tr) (hm : MT.wf m) : (MT.pairs (MT.del k m)).length ≤ (MT.pairs m).length := by
  rw [(MT.del_ok k hk m hm).2]; exact List.length_filter_le ..
end Go.Proofs.YtmpjpaomgifpcaaGreatDoor
namespace Go.Proofs.YtmpjpaomgifpcaaGreatDoor
open Go.RowKit

/-- Two lists alike, told as a bool. -/
def sameB (a b : List Pr) : Bool := decide (a = b)
def SmeRel (a b : List Pr) (w : World) (i : Value) (wr : World) : Prop := ∃ j : Nat, i = .int .i64 j ∧ j ≤ a.length ∧ Hid (sameB (a.drop j) (b.drop j) = sameB a b) ∧ Same w wr

theorem sameB_cons (x y : Pr) (a b : List Pr) : sameB (x :: a) (y :: b) = (decide (x = y) && sameB a b) := by
  unfold sameB
  by_cases h : x = y
  · subst h; simp
  · simp [h]

set_option maxRecDepth 30000 in
set_option maxHeartbeats 2000000 in
theorem same_ref (a b : List Pr) (va vb : Value) (w : World) (ha : a.length ≤ 50000) (h1 : PSl w va a) (h2 : PSl w vb b) :
    Calls Tryz.prog 17 #[va, vb] w fun e w' => e = .returned (.bool (sameB a b)) ∧ Same w w' := by
  obtain ⟨aa, ca, rfl, hca, hcells1⟩ := h1
  obtain ⟨ab, cb, rfl, hcb, hcells2⟩ := h2
  have H1 := Lib.hid hcells1
  have H2 := Lib.hid hcells2
  clear hcells1 hcells2
  have hl0 : (0 : Int) ≤ (a.length : Int) := by omega
  have hl1 : (a.length : Int) ≤ 50000 := by omega
  by_cases hlen : a.length = b.length
  · have hlI : ((a.length : Int) != (b.length : Int)) = false := by rw [hlen]; simp
    have HLEN := Lib.hid hlen
    clear hlen
    go_enter Tryz.func17, Tryz.ntmps17
    go_wp2_with fail
    go_loopw [5] (SmeRel a b w) (fun i _ => 50000 - (intOf i).toNat)
    case atStart => exact ⟨0, rfl, by omega, Lib.hid (by simp), Same.refl _⟩
    case round =>
      obtain ⟨j, rfl, hj, heq, hs⟩ := hrel
      have hj0 : (0 : Int) ≤ (j : Int) := by omega
      have hj1 : (j : Int) ≤ 50000 := by omega
      by_cases hlt : j < a.length
      · have hltI : (j : Int) < (a.length : Int) := by omega
        have hltb : j < b.length := by have := HLEN.out; omega
        have hltbI : (j : Int) < (b.length : Int) := by omega
        obtain ⟨g, o, rfl, hg, hcs⟩ := H1.out (by intro e; rw [e] at hlt; simp at hlt)
        obtain ⟨g', o', rfl, hg', hcs'⟩ := H2.out (by intro e; rw [e] at hltb; simp at hltb)
        obtain ⟨x, hx⟩ : ∃ x, x = a[j] := ⟨_, rfl⟩
        obtain ⟨y, hy⟩ : ∃ y, y = b[j] := ⟨_, rfl⟩
        have hbl := hs.below w.heap.size
        obtain ⟨d1, d2⟩ := hcs j x (by rw [hx]; exact List.getElem?_eq_getElem hlt)
        obtain ⟨e1, e2⟩ := hcs' j y (by rw [hy]; exact List.getElem?_eq_getElem hltb)
        have c1 : wr.cell? ⟨g, o + j * 2, none⟩ = some (.string x.1) := by rw [hbl.cell (p := ⟨g, o + j * 2, none⟩) hg]; exact d1
        have c2 : wr.cell? ⟨g, o + j * 2 + 1, none⟩ = some (.string x.2) := by rw [hbl.cell (p := ⟨g, o + j * 2 + 1, none⟩) hg]; exact d2
        have c3 : wr.cell? ⟨g', o' + j * 2, none⟩ = some (.string y.1) := by rw [hbl.cell (p := ⟨g', o' + j * 2, none⟩) hg']; exact e1
        have c4 : wr.cell? ⟨g', o' + j * 2 + 1, none⟩ = some (.string y.2) := by rw [hbl.cell (p := ⟨g', o' + j * 2 + 1, none⟩) hg']; exact e2
        have hda := drop_get a j hlt
        have hdb := drop_get b j hltb
        rw [← hx] at hda
        rw [← hy] at hdb
        have heq2 : Hid ((decide (x = y) && sameB (a.drop (j + 1)) (b.drop (j + 1))) = sameB a b) := Lib.hid (by
          rw [← heq.out, hda, hdb, sameB_cons])
        have HS := Lib.hid hs
        obtain ⟨x1, x2⟩ := x
        obtain ⟨y1, y2⟩ := y
        simp only at c1 c2 c3 c4
        clear d1 d2 e1 e2 hcs hcs' hbl hda hdb hx hy heq hs
        by_cases hk : x1 = y1
        · subst hk
          by_cases hv : x2 = y2
          · subst hv
            have heq3 : Hid (sameB (a.drop (j + 1)) (b.drop (j + 1)) = sameB a b) := Lib.hid (by rw [← heq2.out]; simp)
            clear heq2
            go_wp2_with fail
            go_quiet (fail)
            go_wp2_with fail
            go_roundw
            case rel => exact ⟨j + 1, by go_num, by omega, heq3, HS.out.trans ⟨_, rfl⟩⟩
            case measure => simp [intOf]; omega
          · have hne := str_ne hv
            have heq3 : Hid (sameB a b = false) := Lib.hid (by rw [← heq2.out]; simp [hv])
            clear heq2 hv
            go_wp2_with fail
            go_quiet (fail)
            go_wp2_with fail
            go_ret
            exact ⟨by rw [heq3.out]; rfl, HS.out.trans ⟨_, rfl⟩⟩
        · have hne := str_ne hk
          have heq3 : Hid (sameB a b = false) := Lib.hid (by rw [← heq2.out]; simp [hk])
          clear heq2 hk
          go_wp2_with fail
          go_quiet (fail)
          go_wp2_with fail
          go_ret
          exact ⟨by rw [heq3.out]; rfl, HS.out.trans ⟨_, rfl⟩⟩
      · have hltI : ¬ (j : Int) < (a.length : Int) := by omega
        have heq3 : Hid (sameB a b = true) := Lib.hid (by
          rw [← heq.out, List.drop_of_length_le (by omega), List.drop_of_length_le (by have := HLEN.out; omega)]; rfl)
        have HS := Lib.hid hs
        clear heq hs
        go_wp2
        go_ret
        exact ⟨by rw [heq3.out]; rfl, HS.out⟩
  · have hlI : ((a.length : Int) != (b.length : Int)) = true := by simp; omega
    have hsb : Hid (sameB a b = false) := Lib.hid (by
      unfold sameB
      exact decide_eq_false (fun e => hlen (by rw [e])))
    clear hlen
    go_enter Tryz.func17, Tryz.ntmps17
    go_wp2
    go_ret
    exact ⟨by rw [hsb.out]; rfl, Same.refl _⟩
end Go.Proofs.YtmpjpaomgifpcaaGreatDoor
