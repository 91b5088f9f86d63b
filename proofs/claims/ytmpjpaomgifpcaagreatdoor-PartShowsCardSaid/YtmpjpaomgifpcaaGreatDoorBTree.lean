/- trie's trees in memory; leaf, span, Bit of them. trie's joined, toward, with. Maps as trees of one shape: what is put, taken away, asked; the pure part. Maps as trees of one shape: one shape for one content, like roots, lengths, prefixes; the pure part. -/
import Derived.Test.YtmpjpaomgifpcaaGreatDoorBPure
namespace Go.Proofs.YtmpjpaomgifpcaaGreatDoor
open Go.RowKit

/-- A tree: leaves, and forks of a place and first bits. -/
inductive Tr where
  | leaf (k v : ByteArray)
  | fork (p : Nat) (k : ByteArray) (z o : Tr)

def Tr.hash : Tr → ByteArray
  | .leaf k v => leafH k v
  | .fork p k z o => forkH p k z.hash o.hash
def Tr.key : Tr → ByteArray
  | .leaf k _ => k
  | .fork _ k _ _ => k
def Tr.span : Tr → Nat
  | .leaf _ _ => 256
  | .fork p _ _ _ => p
/-- Keys have 32 bytes, values up to 100; places are bits. -/
def Tr.sz : Tr → Prop
  | .leaf k v => k.size = 32 ∧ v.size ≤ 5000
  | .fork p k z o => p < 256 ∧ k.size = 32 ∧ z.sz ∧ o.sz
theorem Tr.hash_size : ∀ t : Tr, t.hash.size = 32
  | .leaf _ _ => sumB_size _
  | .fork _ _ _ _ => sumB_size _
theorem Tr.key_size : ∀ (t : Tr), t.sz → t.key.size = 32
  | .leaf _ _, h => h.1
  | .fork _ _ _ _, h => h.2.1
def Tr.depth : Tr → Nat
  | .leaf _ _ => 0
  | .fork _ _ z o => max z.depth o.depth + 1

def pp (b : Nat) : Value := .pointer (some ⟨b, 0, none⟩)
def nodeC (lf : Bool) (k v : ByteArray) (p : Nat) (z o : Value) (h : ByteArray) : Array Value := #[.bool lf, .bool false, .string k, .string v, .int .i64 p, z, o, .string h]
/-- Block b is such a node. -/
def NodeAt (w : World) (b : Nat) (lf : Bool) (k v : ByteArray) (p : Nat) (z o : Value) (h : ByteArray) : Prop := w.heap[b]? = some (.cells (nodeC lf k v p z o h) 91 (0, 0))
def Rep (w : World) : Tr → Nat → Prop
  | .leaf k v, b => NodeAt w b true k v 0 (.pointer none) (.pointer none) (leafH k v)
  | .fork p k z o, b => ∃ bz bo, NodeAt w b false k ⟨#[]⟩ p (pp bz) (pp bo) (forkH p k z.hash o.hash) ∧ Rep w z bz ∧ Rep w o bo

theorem block_lt {w : World} {b : Nat} {x : Obj} (h : w.heap[b]? = some x) : b < w.heap.size := by
  rcases Nat.lt_or_ge b w.heap.size with h1 | h1
  · exact h1
  · rw [Array.getElem?_eq_none h1] at h; cases h
theorem NodeAt.lt {w : World} {b : Nat} {lf : Bool} {k v h : ByteArray} {p : Nat} {z o : Value} (hn : NodeAt w b lf k v p z o h) : b < w.heap.size := block_lt hn
theorem Rep.lt {w : World} : ∀ {t : Tr} {b : Nat}, Rep w t b → b < w.heap.size
  | .leaf _ _, _, h => NodeAt.lt h
  | .fork _ _ _ _, _, ⟨_, _, h, _⟩ => NodeAt.lt h
theorem NodeAt.later {w w' : World} {b : Nat} {lf : Bool} {k v h : ByteArray} {p : Nat} {z o : Value} (hn : NodeAt w b lf k v p z o h) (hb : Below w.heap.size w w') : NodeAt w' b lf k v p z o h := by
  unfold NodeAt at *; rw [hb.block b (block_lt hn)]; exact hn
theorem Rep.later {w w' : World} (hb : Below w.heap.size w w') : ∀ {t : Tr} {b : Nat}, Rep w t b → Rep w' t b
  | .leaf _ _, _, h => NodeAt.later h hb
  | .fork _ _ _ _, _, ⟨bz, bo, h, hz, ho⟩ => ⟨bz, bo, NodeAt.later h hb, Rep.later hb hz, Rep.later hb ho⟩
theorem NodeAt.cells {w : World} {b : Nat} {lf : Bool} {k v h : ByteArray} {p : Nat} {z o : Value} (hn : NodeAt w b lf k v p z o h) :
    w.cell? ⟨b, 0, none⟩ = some (.bool lf) ∧ w.cell? ⟨b, 2, none⟩ = some (.string k) ∧ w.cell? ⟨b, 3, none⟩ = some (.string v) ∧ w.cell? ⟨b, 4, none⟩ = some (.int .i64 p) ∧ w.cell? ⟨b, 5, none⟩ = some z ∧ w.cell? ⟨b, 6, none⟩ = some o ∧ w.cell? ⟨b, 7, none⟩ = some (.string h) := by
  unfold NodeAt nodeC at hn
  simp [World.cell?, hn]
/-- What every tree's node tells. -/
theorem Rep.cells {w : World} {t : Tr} {b : Nat} (h : Rep w t b) : w.cell? ⟨b, 2, none⟩ = some (.string t.key) ∧ w.cell? ⟨b, 7, none⟩ = some (.string t.hash) := by
  cases t with
  | leaf k v => exact ⟨(NodeAt.cells h).2.1, (NodeAt.cells h).2.2.2.2.2.2⟩
  | fork p k z o =>
    obtain ⟨_, _, h, _⟩ := h
    exact ⟨(NodeAt.cells h).2.1, (NodeAt.cells h).2.2.2.2.2.2⟩
theorem node_new (w : World) (lf : Bool) (k v : ByteArray) (p : Nat) (z o : Value) (h : ByteArray) : NodeAt (w.alloc (.cells (nodeC lf k v p z o h) 91)) w.heap.size lf k v p z o h := heap_alloc_new _ _

theorem cellD {W w4 : World} (hb : Below W.drew.heap.size W.drew w4) {g o : Nat} {v : Value} (h : W.cell? ⟨g, o, none⟩ = some v) : w4.cell? ⟨g, o, none⟩ = some v := by
  have hlt := World.block_lt_of_cell? W _ h
  rw [hb.cell (p := ⟨g, o, none⟩) hlt]; exact h
theorem cellA {W : World} (ob : Obj) {g o : Nat} {v : Value} (h : W.cell? ⟨g, o, none⟩ = some v) : (W.alloc ob).cell? ⟨g, o, none⟩ = some v := by
  have hlt := World.block_lt_of_cell? W _ h
  rw [((Below.refl W.heap.size W).alloc (Nat.le_refl _) ob).cell (p := ⟨g, o, none⟩) hlt]; exact h

theorem span_prog (t : Tr) (b : Nat) (w : World) (h : Rep w t b) :
    Calls Tryz.prog 93 #[pp b] w fun e w' => e = .returned (.int .i64 t.span) ∧ w = w' := by
  unfold pp
  cases t with
  | leaf k v =>
    obtain ⟨c0, _, _, c4, _⟩ := NodeAt.cells h
    go_enter Tryz.func93, Tryz.ntmps93
    go_wp2
    go_ret
    exact ⟨rfl, rfl⟩
  | fork p k z o =>
    obtain ⟨_, _, h, _⟩ := h
    obtain ⟨c0, _, _, c4, _⟩ := NodeAt.cells h
    go_enter Tryz.func93, Tryz.ntmps93
    go_wp2
    go_ret
    exact ⟨rfl, rfl⟩

set_option maxHeartbeats 1000000 in
theorem leaf_prog (k v : ByteArray) (w : World) (hk : k.size = 32) (hv : v.size ≤ 5000) (hst : Start w) :
    Calls Tryz.prog 60 #[.string k, .string v] w fun e w' => ∃ b, e = .returned (pp b) ∧ Rep w' (.leaf k v) b ∧ Below w.heap.size w w' := by
  have HS := Lib.hid hst
  clear hst
  go_enter Tryz.func60, Tryz.ntmps60
  go_wp2_with fail
  refine (clone_prog k w (by omega)).mono ?_
  rintro e w1 ⟨rfl, hb1⟩
  go_wp2_with fail
  refine (clone_prog v w1 (by omega)).mono ?_
  rintro e w2 ⟨rfl, hb2⟩
  go_wp2_with fail
  refine (leafHash_prog k v w2 (by omega) (by omega) ((HS.out.later hb1).later hb2)).mono ?_
  rintro e w3 ⟨rfl, hb3⟩
  go_wp2
  go_ret
  exact ⟨_, rfl, node_new w3 true k v 0 _ _ _, (hb1.trans ((hb2.trans (hb3.mono hb2.size)).mono hb1.size)).alloc (by have := hb1.size; have := hb2.size; have := hb3.size; omega) _⟩

set_option maxRecDepth 30000 in
set_option maxHeartbeats 1000000 in
theorem fork_prog (p : Nat) (k : ByteArray) (z o : Tr) (bz bo : Nat) (w : World) (hp : p < 256) (hk : k.size = 32) (hz : Rep w z bz) (ho : Rep w o bo) (hst : Start w) :
    Calls Tryz.prog 96 #[.int .i64 p, .string k, pp bz, pp bo] w fun e w' => ∃ b, e = .returned (pp b) ∧ Rep w' (.fork p k z o) b ∧ Below w.heap.size w w' := by
  unfold pp
  have hzs := z.hash_size
  have hos := o.hash_size
  obtain ⟨_, cz⟩ := Rep.cells hz
  obtain ⟨_, co⟩ := Rep.cells ho
  have HS := Lib.hid hst
  have HZ := Lib.hid hz
  have HO := Lib.hid ho
  clear hst hz ho
  go_enter Tryz.func96, Tryz.ntmps96
  go_wp2_with fail
  go_region_held3 (fun w' => w'.cell? ⟨bz, 7, none⟩ = some (.string z.hash) ∧ w'.cell? ⟨bo, 7, none⟩ = some (.string o.hash))
    (first | exact ⟨cz, co⟩ | exact ⟨cellD hb4 cz, cellD hb4 co⟩ | exact ⟨cellA _ (cellD hb4 cz), cellA _ (cellD hb4 co)⟩)
    ((go_at_call 113; refine (forkHash_prog p k z.hash o.hash _ (by omega) (by omega) (by omega) (by omega) (HS.out.later (Below.refl _ w).drew)).mono ?_; rintro e w4 ⟨rfl, hb4⟩))
  have hb5 : Below w.heap.size w w4 := (Below.refl w.heap.size w).drew.trans hb4
  go_wp2
  go_ret
  exact ⟨_, rfl, ⟨bz, bo, node_new w4 false k ⟨#[]⟩ p _ _ _, ((HZ.out.later hb5).later ((Below.refl _ w4).alloc (Nat.le_refl _) _)), ((HO.out.later hb5).later ((Below.refl _ w4).alloc (Nat.le_refl _) _))⟩, hb5.alloc hb5.size _⟩
end Go.Proofs.YtmpjpaomgifpcaaGreatDoor
namespace Go.Proofs.YtmpjpaomgifpcaaGreatDoor
open Go.RowKit

def joinT (p : Nat) (a b : Tr) : Tr := if bitL (ks a.key) p then .fork p (firstB b.key p) b a else .fork p (firstB a.key p) a b

theorem bitN_one (b : Bool) : (bitN b == 1) = b := by cases b <;> rfl
theorem bitN_zero (b : Bool) : (bitN b == 0) = !b := by cases b <;> rfl

set_option maxRecDepth 30000 in
set_option maxHeartbeats 1000000 in
theorem joined_trie (p : Nat) (s t : Tr) (b c : Nat) (w : World) (hp : p < 256) (hs : s.sz) (ht : t.sz) (hb : Rep w s b) (hc : Rep w t c) (hst : Start w) :
    Calls Tryz.prog 94 #[.int .i64 p, pp b, pp c] w fun e w' => ∃ d, e = .returned (pp d) ∧ Rep w' (joinT p s t) d ∧ Below w.heap.size w w' := by
  have hks := s.key_size hs
  have hkt := t.key_size ht
  obtain ⟨cs, _⟩ := Rep.cells hb
  obtain ⟨ct, _⟩ := Rep.cells hc
  have HS := Lib.hid hst
  have HB := Lib.hid hb
  have HC := Lib.hid hc
  have HF := Lib.hid (fun (s t : Tr) (b c : Nat) (k : ByteArray) (w : World) => fork_prog p k s t b c w hp)
  have hbit := Lib.hid (fun W => bit_prog s.key p W hp (by omega))
  have hfs := Lib.hid (fun W => first_prog s.key p W hks (by omega))
  have hft := Lib.hid (fun W => first_prog t.key p W hkt (by omega))
  have hsz1 : (firstB s.key p).size = 32 := by rw [firstB, mk_size, firstL_length]; simpa using hks
  have hsz2 : (firstB t.key p).size = 32 := by rw [firstB, mk_size, firstL_length]; simpa using hkt
  have Hz1 := Lib.hid hsz1
  have Hz2 := Lib.hid hsz2
  clear hst hb hc hsz1 hsz2
  obtain ⟨r, hr⟩ : ∃ r, r = bitL (ks s.key) p := ⟨_, rfl⟩
  unfold joinT
  rw [← hr] at hbit ⊢
  clear hr
  have h1 := bitN_one r
  unfold pp
  go_enter Tryz.func94, Tryz.ntmps94
  go_wp2_with fail
  refine (hbit.out _).mono ?_
  rintro e w1 ⟨rfl, rfl⟩
  cases r with
  | true =>
    go_wp2_with fail
    refine (hft.out _).mono ?_
    rintro e w2 ⟨rfl, hb2⟩
    go_wp2_with fail
    refine (HF.out t s c b _ w2 Hz2.out (HC.out.later hb2) (HB.out.later hb2) (HS.out.later hb2)).mono ?_
    rintro e w3 ⟨d, rfl, hd, hb3⟩
    unfold pp
    go_wp2
    go_ret
    exact ⟨d, rfl, hd, hb2.trans (hb3.mono hb2.size)⟩
  | false =>
    go_wp2_with fail
    refine (hfs.out _).mono ?_
    rintro e w2 ⟨rfl, hb2⟩
    go_wp2_with fail
    refine (HF.out s t b c _ w2 Hz1.out (HB.out.later hb2) (HC.out.later hb2) (HS.out.later hb2)).mono ?_
    rintro e w3 ⟨d, rfl, hd, hb3⟩
    unfold pp
    go_wp2
    go_ret
    exact ⟨d, rfl, hd, hb2.trans (hb3.mono hb2.size)⟩

/-- Where so many bits of a key lead. -/
def towT (n : Nat) (l : List UInt8) : Tr → Tr
  | .leaf k v => .leaf k v
  | .fork p k z o => if p < n then (if bitL l p then towT n l o else towT n l z) else .fork p k z o
/-- Places grow downwards. -/
def Tr.asc : Tr → Prop
  | .leaf _ _ => True
  | .fork p _ z o => p < z.span ∧ p < o.span ∧ z.asc ∧ o.asc
theorem Tr.span_le : ∀ (t : Tr), t.sz → t.span ≤ 256
  | .leaf _ _, _ => Nat.le_refl _
  | .fork _ _ _ _, h => Nat.le_of_lt h.1

def spanAt (w : World) (v : Value) : Nat := match v with
  | .pointer (some a) => (match w.cell? ⟨a.block, 0, none⟩ with
    | some (.bool true) => 256
    | _ => (match w.cell? ⟨a.block, 4, none⟩ with
      | some (.int .i64 p) => p.toNat
      | _ => 0))
  | _ => 0
theorem spanAt_rep {w : World} {t : Tr} {b : Nat} (h : Rep w t b) : spanAt w (pp b) = t.span := by
  cases t with
  | leaf k v =>
    obtain ⟨c0, _⟩ := NodeAt.cells h
    simp only [spanAt, pp, c0]; rfl
  | fork p k z o =>
    obtain ⟨_, _, h, _⟩ := h
    obtain ⟨c0, _, _, c4, _⟩ := NodeAt.cells h
    simp only [spanAt, pp, c0, c4]; rfl
theorem Rep.same {w w' : World} {t : Tr} {b : Nat} (h : Rep w t b) (hs : Same w w') : Rep w' t b := h.later (hs.below _)

def TwRel (n : Nat) (l : List UInt8) (r : Tr) (w : World) (s0 : Value) (wr : World) : Prop :=
  ∃ (t : Tr) (b : Nat), s0 = pp b ∧ Rep wr t b ∧ t.sz ∧ t.asc ∧ Hid (towT n l t = r) ∧ Same w wr

set_option maxRecDepth 30000 in
set_option maxHeartbeats 1000000 in
theorem toward_prog (t : Tr) (b : Nat) (k : ByteArray) (n : Nat) (w : World) (hn : n ≤ 256) (hk : k.size ≤ 1000) (ht : t.sz) (ha : t.asc) (hb : Rep w t b) :
    Calls Tryz.prog 86 #[pp b, .string k, .int .i64 n] w fun e w' => ∃ c, e = .returned (pp c) ∧ Rep w' (towT n (ks k) t) c ∧ Same w w' := by
  obtain ⟨R, hR⟩ : ∃ R, towT n (ks k) t = R := ⟨_, rfl⟩
  rw [hR]
  have HR := Lib.hid hR
  have HB := Lib.hid hb
  have HT := Lib.hid ht
  have HA := Lib.hid ha
  have hn0 : (0 : Int) ≤ (n : Int) := by omega
  have hn1 : (n : Int) ≤ 256 := by omega
  clear hR hb ht ha
  unfold pp
  go_enter Tryz.func86, Tryz.ntmps86
  go_wp2
  go_loopw [0] (TwRel n (ks k) R w) (fun v wx => 257 - spanAt wx v)
  case atStart => exact ⟨t, b, rfl, HB.out, HT.out, HA.out, HR, Same.refl _⟩
  case round =>
    obtain ⟨t', b', rfl, hb, ht, ha, hr, hs⟩ := hrel
    have hsp := spanAt_rep hb
    have HSP := Lib.hid hsp
    have hspan := Lib.hid (fun (W : World) (h : W = wr) => by
      have := span_prog t' b' wr hb
      rw [← h] at this; exact this)
    have HB' := Lib.hid hb
    cases t' with
    | leaf k' v' =>
      have hge : ¬ ((256 : Int) < (n : Int)) := by omega
      have hr2 : Hid (Tr.leaf k' v' = R) := hr
      clear hsp hb hr
      unfold pp
      go_wp2_with fail
      refine (hspan.out _ rfl).mono ?_
      rintro e w1 ⟨rfl, rfl⟩
      simp only [Tr.span]
      go_wp2
      go_ret
      exact ⟨b', rfl, by rw [← hr2.out]; exact HB'.out, hs⟩
    | fork p k' z o =>
      obtain ⟨hp, hk', hzs, hos⟩ := ht
      obtain ⟨pz, po, hza, hoa⟩ := ha
      obtain ⟨bz, bo, hnode, hz, ho⟩ := hb
      obtain ⟨c0, c2, c3, c4, c5, c6, c7⟩ := NodeAt.cells hnode
      have hbit := Lib.hid (fun W => bit_prog k p W hp (by omega))
      have hzsp := spanAt_rep hz
      have hosp := spanAt_rep ho
      have hzl := Tr.span_le _ hzs
      have hol := Tr.span_le _ hos
      obtain ⟨r, hr0⟩ : ∃ r, r = bitL (ks k) p := ⟨_, rfl⟩
      rw [← hr0] at hbit
      have hr2 : Hid ((if p < n then (if r then towT n (ks k) o else towT n (ks k) z) else .fork p k' z o) = R) := Lib.hid (by rw [hr0]; exact hr.out)
      clear hr hsp hr0
      have h1 := bitN_zero r
      by_cases hlt : p < n
      · have hltI : (p : Int) < (n : Int) := by omega
        rw [if_pos hlt] at hr2
        have HZ := Lib.hid hz
        have HO := Lib.hid ho
        have hm : Hid (spanAt wr (pp b') = p) := HSP
        have hmz := Lib.hid hzsp
        have hmo := Lib.hid hosp
        clear hz ho hzsp hosp hnode
        unfold pp
        go_wp2_with fail
        refine (hspan.out _ rfl).mono ?_
        rintro e w1 ⟨rfl, rfl⟩
        simp only [Tr.span]
        go_wp2_with fail
        refine (hbit.out _).mono ?_
        rintro e w1 ⟨rfl, rfl⟩
        unfold pp at c5 c6
        cases r with
        | false =>
          go_wp2_with fail
          go_roundw
          case rel => exact ⟨z, bz, rfl, HZ.out, hzs, hza, hr2, hs⟩
          case measure =>
            show 257 - spanAt _ (pp bz) < 257 - spanAt _ (pp b')
            rw [hm.out, hmz.out]; omega
        | true =>
          go_wp2_with fail
          go_roundw
          case rel => exact ⟨o, bo, rfl, HO.out, hos, hoa, hr2, hs⟩
          case measure =>
            show 257 - spanAt _ (pp bo) < 257 - spanAt _ (pp b')
            rw [hm.out, hmo.out]; omega
      · have hge : ¬ ((p : Int) < (n : Int)) := by omega
        rw [if_neg hlt] at hr2
        clear hz ho hzsp hosp hnode
        unfold pp
        go_wp2_with fail
        refine (hspan.out _ rfl).mono ?_
        rintro e w1 ⟨rfl, rfl⟩
        simp only [Tr.span]
        go_wp2
        go_ret
        exact ⟨b', rfl, by rw [← hr2.out]; exact HB'.out, hs⟩
end Go.Proofs.YtmpjpaomgifpcaaGreatDoor
namespace Go.Proofs.YtmpjpaomgifpcaaGreatDoor
open Go.Op


/-- A pair. -/
abbrev Pr := ByteArray × ByteArray

theorem ks_inj {a b : ByteArray} (h : ks a = ks b) : a = b := ByteArray.ext (Array.toList_inj.1 h)
theorem ks_length (a : ByteArray) : (ks a).length = a.size := by simp
theorem firstB_size (k : ByteArray) (n : Nat) : (firstB k n).size = k.size := by rw [firstB, mk_size, firstL_length, ks_length]
theorem ks_firstB (k : ByteArray) (n : Nat) : ks (firstB k n) = firstL (ks k) n := by simp [ks, firstB]
theorem firstB_bit (k : ByteArray) (n i : Nat) : bitL (ks (firstB k n)) i = (decide (i < n) && bitL (ks k) i) := by rw [ks_firstB, firstL_bit]
theorem firstB_eq (a b : ByteArray) (n : Nat) (hl : a.size = b.size) (h : ∀ i, i < n → bitL (ks a) i = bitL (ks b) i) : firstB a n = firstB b n := by
  unfold firstB; rw [firstL_eq (ks a) (ks b) n (by rw [ks_length, ks_length, hl]) h]

theorem bytesLess_eq : ∀ (a b : List UInt8), bytesLess a b = decide (a < b)
  | _, [] => by simp [bytesLess]
  | [], _ :: _ => by simp [bytesLess]
  | x :: a, y :: b => by
    rw [bytesLess, bytesLess_eq a b, Bool.eq_iff_iff]
    simp only [Bool.or_eq_true, decide_eq_true_eq, Bool.and_eq_true, beq_iff_eq, List.cons_lt_cons_iff]
/-- At or ahead of a key. -/
def leK (a b : ByteArray) : Bool := bytesLess (ks a) (ks b) || (ks a == ks b)
theorem leK_self (a : ByteArray) : leK a a = true := by simp [leK]
theorem leK_eq (a b : ByteArray) : leK a b = decide (ks a ≤ ks b) := by
  unfold leK
  rw [bytesLess_eq, Bool.eq_iff_iff]
  simp only [Bool.or_eq_true, decide_eq_true_eq, beq_iff_eq]
  constructor
  · rintro (h | h)
    · exact List.le_of_lt h
    · rw [h]; exact List.le_refl _
  · intro h
    rcases Decidable.em (ks a = ks b) with h1 | h1
    · exact .inr h1
    · exact .inl (Std.lt_of_le_of_ne h h1)
theorem leK_false (a b : ByteArray) : leK a b = false ↔ ks b < ks a := by
  rw [leK_eq, decide_eq_false_iff_not, List.not_le]

/-- Strictly ahead. -/
def ltK (a b : ByteArray) : Prop := ks a < ks b
theorem ltK_le {a b : ByteArray} (h : ltK a b) : leK a b = true := by rw [leK_eq]; exact decide_eq_true (List.le_of_lt h)
theorem ltK_ne {a b : ByteArray} (h : ltK a b) : a ≠ b := fun e => by subst e; exact List.lt_irrefl _ h
theorem ltK_nle {a b : ByteArray} (h : ltK a b) : leK b a = false := (leK_false _ _).2 h
theorem ltK_of_bit {a b : ByteArray} (n : Nat) (ha : a.size = 32) (hb : b.size = 32) (hn : n < 256) (hs : ∀ i, i < n → bitL (ks a) i = bitL (ks b) i) (h0 : bitL (ks a) n = false) (h1 : bitL (ks b) n = true) : ltK a b :=
  lt_of_bit _ _ n (by rw [ks_length, ks_length, ha, hb]) (by rw [ks_length, ha]; omega) hs h0 h1

/-- With a value at a key, as the document's list. -/
def putL (k v : ByteArray) : List Pr → List Pr
  | [] => [(k, v)]
  | x :: r => if leK k x.1 then (k, v) :: (x :: r).filter (fun y => decide (y.1 ≠ k)) else x :: putL k v r
/-- Without a key. -/
def delL (k : ByteArray) (l : List Pr) : List Pr := l.filter (fun y => decide (y.1 ≠ k))
/-- The value of a key. -/
def getL (k : ByteArray) : List Pr → Option ByteArray
  | [] => none
  | x :: r => if x.1 = k then some x.2 else getL k r
/-- Has a key the first n bits of l? -/
def hasL (a l : List UInt8) (n : Nat) : Bool := (List.range n).all fun i => bitL a i == bitL l i
def underL (l : List UInt8) (n : Nat) (L : List Pr) : List Pr := L.filter fun y => hasL (ks y.1) l n

theorem hasL_iff (a l : List UInt8) (n : Nat) : hasL a l n = true ↔ ∀ i, i < n → bitL a i = bitL l i := by
  simp [hasL]
theorem filter_ne (k : ByteArray) (B : List Pr) (h : ∀ x ∈ B, x.1 ≠ k) : B.filter (fun y => decide (y.1 ≠ k)) = B := by
  rw [List.filter_eq_self]; intro x hx; simpa using h x hx
theorem putL_lt (k v : ByteArray) : ∀ (A B : List Pr), (∀ x ∈ A, leK k x.1 = false) → putL k v (A ++ B) = A ++ putL k v B
  | [], _, _ => rfl
  | x :: A, B, h => by
    have h1 := h x (List.mem_cons_self ..)
    rw [List.cons_append, putL, h1, List.cons_append, putL_lt k v A B (fun y hy => h y (List.mem_cons_of_mem _ hy))]
    rfl
theorem putL_gt (k v : ByteArray) : ∀ (A B : List Pr), (∀ x ∈ B, ltK k x.1) → putL k v (A ++ B) = putL k v A ++ B
  | [], [], _ => rfl
  | [], y :: B, h => by
    have h1 := ltK_le (h y (List.mem_cons_self ..))
    have h2 := filter_ne k (y :: B) (fun x hx => (ltK_ne (h x hx)).symm)
    show putL k v (y :: B) = (k, v) :: (y :: B)
    rw [putL, h1, h2]; rfl
  | x :: A, B, h => by
    have h2 := filter_ne k B (fun x hx => (ltK_ne (h x hx)).symm)
    rw [List.cons_append, putL, putL]
    split
    · rw [← List.cons_append, List.filter_append, h2]; rfl
    · rw [putL_gt k v A B h]; rfl
theorem delL_append (k : ByteArray) (A B : List Pr) : delL k (A ++ B) = delL k A ++ delL k B := List.filter_append ..
theorem getL_append (k : ByteArray) : ∀ (A B : List Pr), getL k (A ++ B) = (getL k A).or (getL k B)
  | [], _ => rfl
  | x :: A, B => by
    rw [List.cons_append, getL, getL]
    split
    · rfl
    · exact getL_append k A B
theorem getL_none (k : ByteArray) : ∀ (A : List Pr), (∀ x ∈ A, x.1 ≠ k) → getL k A = none
  | [], _ => rfl
  | x :: A, h => by rw [getL, if_neg (h x (List.mem_cons_self ..)), getL_none k A (fun y hy => h y (List.mem_cons_of_mem _ hy))]
theorem getL_some (k v : ByteArray) : ∀ (A : List Pr), getL k A = some v → (k, v) ∈ A
  | [], h => by cases h
  | x :: A, h => by
    rw [getL] at h
    split at h
    · rename_i e
      obtain rfl : x.2 = v := by simpa using h
      rw [← e]; exact List.mem_cons_self ..
    · exact List.mem_cons_of_mem _ (getL_some k v A h)

/-- The pairs of a tree. -/
def Tr.pairs : Tr → List Pr
  | .leaf k v => [(k, v)]
  | .fork _ _ z o => z.pairs ++ o.pairs
/-- A tree as it ought to be. -/
def Tr.wf : Tr → Prop
  | .leaf k v => k.size = 32 ∧ v.size ≤ 5000
  | .fork p k z o => p < 256 ∧ p < z.span ∧ p < o.span ∧ k = firstB z.key p ∧ k = firstB o.key p ∧ bitL (ks z.key) p = false ∧ bitL (ks o.key) p = true ∧ z.wf ∧ o.wf
theorem Tr.wf_key : ∀ {t : Tr}, t.wf → t.key.size = 32
  | .leaf _ _, h => h.1
  | .fork _ _ _ _, ⟨_, _, _, e, _, _, _, hz, _⟩ => by rw [Tr.key, e, firstB_size]; exact Tr.wf_key hz
theorem Tr.wf_span : ∀ {t : Tr}, t.wf → t.span ≤ 256
  | .leaf _ _, _ => Nat.le_refl _
  | .fork _ _ _ _, h => Nat.le_of_lt h.1
theorem Tr.wf_sz : ∀ {t : Tr}, t.wf → t.sz
  | .leaf _ _, h => h
  | .fork _ _ _ _, h => ⟨h.1, Tr.wf_key (t := .fork _ _ _ _) h, Tr.wf_sz h.2.2.2.2.2.2.2.1, Tr.wf_sz h.2.2.2.2.2.2.2.2⟩
theorem Tr.wf_asc : ∀ {t : Tr}, t.wf → t.asc
  | .leaf _ _, _ => trivial
  | .fork _ _ _ _, h => ⟨h.2.1, h.2.2.1, Tr.wf_asc h.2.2.2.2.2.2.2.1, Tr.wf_asc h.2.2.2.2.2.2.2.2⟩

theorem Tr.pairs_ok : ∀ {t : Tr}, t.wf → ∀ x ∈ t.pairs, x.1.size = 32 ∧ x.2.size ≤ 5000 ∧ ∀ i, i < t.span → bitL (ks x.1) i = bitL (ks t.key) i
  | .leaf k v, h, x, hx => by
    simp only [Tr.pairs, List.mem_singleton] at hx
    subst hx
    exact ⟨h.1, h.2, fun _ _ => rfl⟩
  | .fork p k z o, ⟨hp, hpz, hpo, ez, eo, bz, bo, hz, ho⟩, x, hx => by
    simp only [Tr.pairs, List.mem_append] at hx
    rcases hx with hx | hx
    · obtain ⟨h1, h2, h3⟩ := Tr.pairs_ok hz x hx
      refine ⟨h1, h2, fun i hi => ?_⟩
      simp only [Tr.span] at hi
      rw [h3 i (by omega), Tr.key, ez, firstB_bit]; simp [hi]
    · obtain ⟨h1, h2, h3⟩ := Tr.pairs_ok ho x hx
      refine ⟨h1, h2, fun i hi => ?_⟩
      simp only [Tr.span] at hi
      rw [h3 i (by omega), Tr.key, eo, firstB_bit]; simp [hi]
theorem Tr.pairs_ne : ∀ (t : Tr), t.pairs ≠ []
  | .leaf _ _ => by simp [Tr.pairs]
  | .fork _ _ z _ => by simp [Tr.pairs, Tr.pairs_ne z]
theorem side_z {p : Nat} {k : ByteArray} {z o : Tr} (h : (Tr.fork p k z o).wf) : ∀ x ∈ z.pairs, bitL (ks x.1) p = false := fun x hx => by
  rw [(Tr.pairs_ok h.2.2.2.2.2.2.2.1 x hx).2.2 p h.2.1]; exact h.2.2.2.2.2.1
theorem side_o {p : Nat} {k : ByteArray} {z o : Tr} (h : (Tr.fork p k z o).wf) : ∀ x ∈ o.pairs, bitL (ks x.1) p = true := fun x hx => by
  rw [(Tr.pairs_ok h.2.2.2.2.2.2.2.2 x hx).2.2 p h.2.2.1]; exact h.2.2.2.2.2.2.1
theorem side_ne_z {p : Nat} {k : ByteArray} {z o : Tr} (h : (Tr.fork p k z o).wf) {a : ByteArray} (ha : bitL (ks a) p = true) : ∀ x ∈ z.pairs, x.1 ≠ a := fun x hx e => by
  have := side_z h x hx; rw [e, ha] at this; cases this
theorem side_ne_o {p : Nat} {k : ByteArray} {z o : Tr} (h : (Tr.fork p k z o).wf) {a : ByteArray} (ha : bitL (ks a) p = false) : ∀ x ∈ o.pairs, x.1 ≠ a := fun x hx e => by
  have := side_o h x hx; rw [e, ha] at this; cases this

/-- All ahead of all. -/
theorem side_lt {p : Nat} {k : ByteArray} {z o : Tr} (h : (Tr.fork p k z o).wf) {a b : Pr} (ha : a ∈ z.pairs) (hb : b ∈ o.pairs) : ltK a.1 b.1 := by
  have ha' := Tr.pairs_ok h a (List.mem_append_left _ ha)
  have hb' := Tr.pairs_ok h b (List.mem_append_right _ hb)
  refine ltK_of_bit p ha'.1 hb'.1 h.1 (fun i hi => ?_) (side_z h a ha) (side_o h b hb)
  rw [ha'.2.2 i hi, hb'.2.2 i hi]
theorem Tr.sorted : ∀ {t : Tr}, t.wf → t.pairs.Pairwise (fun a b => ltK a.1 b.1)
  | .leaf _ _, _ => List.pairwise_singleton ..
  | .fork _ _ _ _, h => List.pairwise_append.2 ⟨Tr.sorted h.2.2.2.2.2.2.2.1, Tr.sorted h.2.2.2.2.2.2.2.2, fun _ ha _ hb => side_lt h ha hb⟩

/-- With a leaf. -/
def withT (k v : ByteArray) : Tr → Tr
  | .leaf k' v' => if comL (ks k') (ks k) < 256 then joinT (comL (ks k') (ks k)) (.leaf k' v') (.leaf k v) else .leaf k v
  | .fork p k' z o => if comL (ks k') (ks k) < p then joinT (comL (ks k') (ks k)) (.fork p k' z o) (.leaf k v) else
      if bitL (ks k) p then .fork p k' z (withT k v o) else .fork p k' (withT k v z) o

theorem join_wf {t u : Tr} {c : Nat} (ht : t.wf) (hu : u.wf) (h1 : c < t.span) (h2 : c < u.span) (hs : ∀ i, i < c → bitL (ks t.key) i = bitL (ks u.key) i) (hd : bitL (ks t.key) c ≠ bitL (ks u.key) c) :
    (joinT c t u).wf ∧ (joinT c t u).span = c ∧ ∀ i, i < c → bitL (ks (joinT c t u).key) i = bitL (ks t.key) i := by
  have e := firstB_eq t.key u.key c (by rw [Tr.wf_key ht, Tr.wf_key hu]) hs
  have hc : c < 256 := Nat.lt_of_lt_of_le h1 (Tr.wf_span ht)
  unfold joinT
  cases hb : bitL (ks t.key) c with
  | true =>
    rw [if_pos rfl]
    have hb2 : bitL (ks u.key) c = false := by rw [hb] at hd; simpa using hd.symm
    exact ⟨⟨hc, h2, h1, rfl, e.symm, hb2, hb, hu, ht⟩, rfl, fun i hi => by rw [Tr.key, ← e, firstB_bit]; simp [hi]⟩
  | false =>
    rw [if_neg (by simp)]
    have hb2 : bitL (ks u.key) c = true := by rw [hb] at hd; simpa using hd.symm
    exact ⟨⟨hc, h1, h2, rfl, e, hb, hb2, ht, hu⟩, rfl, fun i hi => by rw [Tr.key, firstB_bit]; simp [hi]⟩
theorem join_pairs {t : Tr} {k v : ByteArray} {c : Nat} (ht : t.wf) (hk : k.size = 32) (h1 : c < t.span) (hs : ∀ i, i < c → bitL (ks t.key) i = bitL (ks k) i) (hd : bitL (ks t.key) c ≠ bitL (ks k) c) :
    (joinT c t (.leaf k v)).pairs = putL k v t.pairs ∧ ∀ x ∈ t.pairs, x.1 ≠ k := by
  have hc : c < 256 := Nat.lt_of_lt_of_le h1 (Tr.wf_span ht)
  unfold joinT
  cases hb : bitL (ks t.key) c with
  | true =>
    rw [if_pos rfl]
    have hb2 : bitL (ks k) c = false := by rw [hb] at hd; simpa using hd.symm
    have hlt : ∀ x ∈ t.pairs, ltK k x.1 := fun x hx => by
      obtain ⟨g1, _, g3⟩ := Tr.pairs_ok ht x hx
      refine ltK_of_bit c hk g1 hc (fun i hi => ?_) hb2 (by rw [g3 c h1, hb])
      rw [g3 i (by omega), hs i hi]
    refine ⟨?_, fun x hx e => ltK_ne (hlt x hx) e.symm⟩
    have := putL_gt k v [] t.pairs hlt
    rw [List.nil_append] at this
    rw [this]; rfl
  | false =>
    rw [if_neg (by simp)]
    have hb2 : bitL (ks k) c = true := by rw [hb] at hd; simpa using hd.symm
    have hlt : ∀ x ∈ t.pairs, ltK x.1 k := fun x hx => by
      obtain ⟨g1, _, g3⟩ := Tr.pairs_ok ht x hx
      refine ltK_of_bit c g1 hk hc (fun i hi => ?_) (by rw [g3 c h1, hb]) hb2
      rw [g3 i (by omega), hs i hi]
    refine ⟨?_, fun x hx => ltK_ne (hlt x hx)⟩
    have := putL_lt k v t.pairs [] (fun x hx => ltK_nle (hlt x hx))
    rw [List.append_nil] at this
    rw [this]; rfl

theorem com_same {a b : ByteArray} (_ : a.size = b.size) : ∀ i, i < comL (ks a) (ks b) → bitL (ks a) i = bitL (ks b) i := comL_same _ _
theorem with_ok (k v : ByteArray) (hk : k.size = 32) (hv : v.size ≤ 5000) : ∀ t : Tr, t.wf →
    (withT k v t).wf ∧ (withT k v t).pairs = putL k v t.pairs ∧
    ∀ n, n ≤ t.span → (∀ i, i < n → bitL (ks k) i = bitL (ks t.key) i) → n ≤ (withT k v t).span ∧ ∀ i, i < n → bitL (ks (withT k v t).key) i = bitL (ks t.key) i
  | .leaf k' v', h => by
    have hk' : k'.size = 32 := h.1
    have hl : (ks k').length = (ks k).length := by rw [ks_length, ks_length, hk, hk']
    have h8 : 8 * (ks k').length = 256 := by rw [ks_length, hk']
    unfold withT
    obtain ⟨c, hc⟩ : ∃ c, c = comL (ks k') (ks k) := ⟨_, rfl⟩
    rw [← hc]
    have hsame : ∀ i, i < c → bitL (ks k') i = bitL (ks k) i := by rw [hc]; exact comL_same _ _
    split
    · rename_i hlt
      have hd : bitL (ks k') c ≠ bitL (ks k) c := by rw [hc]; exact comL_diff _ _ hl (by omega)
      obtain ⟨g1, g2, g3⟩ := join_wf (t := .leaf k' v') (u := .leaf k v) h ⟨hk, hv⟩ hlt hlt hsame hd
      refine ⟨g1, (join_pairs (v := v) h hk hlt hsame hd).1, fun n hn hs => ?_⟩
      have hge : n ≤ c := by
        rw [hc]
        exact comL_ge _ _ n hl (by rw [h8]; exact hn) (fun i hi => (hs i hi).symm)
      exact ⟨by rw [g2]; exact hge, fun i hi => g3 i (by omega)⟩
    · rename_i hge
      have e : k' = k := ks_inj (comL_eq _ _ hl (by rw [← hc, h8]; have := (comL_le (ks k') (ks k)).1; omega))
      subst e
      refine ⟨⟨hk, hv⟩, ?_, fun n hn _ => ⟨hn, fun _ _ => rfl⟩⟩
      simp [Tr.pairs, putL, leK_self]
  | .fork p k' z o, h => by
    have hw := h
    have hk' : k'.size = 32 := Tr.wf_key h
    have hl : (ks k').length = (ks k).length := by rw [ks_length, ks_length, hk, hk']
    have h8 : 8 * (ks k').length = 256 := by rw [ks_length, hk']
    obtain ⟨hp, hpz, hpo, ez, eo, bz, bo, hz, ho⟩ := h
    unfold withT
    obtain ⟨c, hc⟩ : ∃ c, c = comL (ks k') (ks k) := ⟨_, rfl⟩
    rw [← hc]
    have hsame : ∀ i, i < c → bitL (ks k') i = bitL (ks k) i := by rw [hc]; exact comL_same _ _
    split
    · rename_i hlt
      have hd : bitL (ks k') c ≠ bitL (ks k) c := by rw [hc]; exact comL_diff _ _ hl (by omega)
      obtain ⟨g1, g2, g3⟩ := join_wf (t := .fork p k' z o) (u := .leaf k v) hw ⟨hk, hv⟩ hlt (by show c < 256; omega) hsame hd
      refine ⟨g1, (join_pairs (v := v) hw hk hlt hsame hd).1, fun n hn hs => ?_⟩
      have hn' : n ≤ p := hn
      have hge : n ≤ c := by
        rw [hc]
        exact comL_ge _ _ n hl (by rw [h8]; omega) (fun i hi => (hs i hi).symm)
      exact ⟨by rw [g2]; exact hge, fun i hi => g3 i (by omega)⟩
    · rename_i hge
      cases hb : bitL (ks k) p with
      | true =>
        rw [if_pos rfl]
        obtain ⟨i1, i2, i3⟩ := with_ok k v hk hv o ho
        obtain ⟨j1, j2⟩ := i3 (p + 1) (by omega) (fun i hi => by
          by_cases h1 : i < p
          · rw [← hsame i (by omega), eo, firstB_bit]; simp [h1]
          · rw [show i = p by omega, hb, bo])
        refine ⟨⟨hp, hpz, by omega, ez, ?_, bz, by rw [j2 p (by omega)]; exact bo, hz, i1⟩, ?_, fun n hn _ => ⟨hn, fun _ _ => rfl⟩⟩
        · rw [eo]; exact firstB_eq _ _ p (by rw [Tr.wf_key ho, Tr.wf_key i1]) (fun i hi => (j2 i (by omega)).symm)
        · rw [Tr.pairs, i2, Tr.pairs]
          refine (putL_lt k v z.pairs o.pairs (fun x hx => ltK_nle ?_)).symm
          have g := Tr.pairs_ok hw x (List.mem_append_left _ hx)
          refine ltK_of_bit p g.1 hk hp (fun i hi => ?_) (side_z hw x hx) hb
          rw [g.2.2 i hi]; exact hsame i (by omega)
      | false =>
        rw [if_neg (by simp)]
        obtain ⟨i1, i2, i3⟩ := with_ok k v hk hv z hz
        obtain ⟨j1, j2⟩ := i3 (p + 1) (by omega) (fun i hi => by
          by_cases h1 : i < p
          · rw [← hsame i (by omega), ez, firstB_bit]; simp [h1]
          · rw [show i = p by omega, hb, bz])
        refine ⟨⟨hp, by omega, hpo, ?_, eo, by rw [j2 p (by omega)]; exact bz, bo, i1, ho⟩, ?_, fun n hn _ => ⟨hn, fun _ _ => rfl⟩⟩
        · rw [ez]; exact firstB_eq _ _ p (by rw [Tr.wf_key hz, Tr.wf_key i1]) (fun i hi => (j2 i (by omega)).symm)
        · rw [Tr.pairs, i2, Tr.pairs]
          refine (putL_gt k v z.pairs o.pairs (fun x hx => ?_)).symm
          have g := Tr.pairs_ok hw x (List.mem_append_right _ hx)
          refine ltK_of_bit p hk g.1 hp (fun i hi => ?_) hb (side_o hw x hx)
          rw [g.2.2 i hi]; exact (hsame i (by omega)).symm

/-- Without a key that the tree has. -/
def withoutT (l : List UInt8) : Tr → Option Tr
  | .leaf _ _ => none
  | .fork p k z o => if bitL l p then (match withoutT l o with | none => some z | some o' => some (.fork p k z o')) else
      (match withoutT l z with | none => some o | some z' => some (.fork p k z' o))
theorem delL_ne (k : ByteArray) (B : List Pr) (h : ∀ x ∈ B, x.1 ≠ k) : delL k B = B := filter_ne k B h
theorem without_ok (k : ByteArray) : ∀ t : Tr, t.wf → (∃ x ∈ t.pairs, x.1 = k) → (withoutT (ks k) t = none ∧ delL k t.pairs = []) ∨
    ∃ t', withoutT (ks k) t = some t' ∧ t'.wf ∧ t'.pairs = delL k t.pairs ∧ t.span ≤ t'.span ∧ ∀ i, i < t.span → bitL (ks t'.key) i = bitL (ks t.key) i
  | .leaf k' v', _, ⟨x, hx, e⟩ => by
    simp only [Tr.pairs, List.mem_singleton] at hx
    subst hx
    exact .inl ⟨rfl, by simp [Tr.pairs, delL, ← e]⟩
  | .fork p k' z o, h, ⟨x, hx, e⟩ => by
    have hw := h
    obtain ⟨hp, hpz, hpo, ez, eo, bz, bo, hz, ho⟩ := h
    refine .inr ?_
    simp only [Tr.pairs, List.mem_append] at hx
    rcases hx with hx | hx
    · have hb : bitL (ks k) p = false := by rw [← e]; exact side_z hw x hx
      have hd : delL k (Tr.fork p k' z o).pairs = delL k z.pairs ++ o.pairs := by
        rw [Tr.pairs, delL_append, delL_ne k o.pairs (side_ne_o hw hb)]
      rw [hd]
      unfold withoutT
      rw [hb, if_neg (by simp)]
      rcases without_ok k z hz ⟨x, hx, e⟩ with ⟨g1, g2⟩ | ⟨z', g1, g2, g3, g4, g5⟩
      · rw [g1, g2]
        exact ⟨o, rfl, ho, rfl, Nat.le_of_lt hpo, fun i hi => by rw [Tr.key, eo, firstB_bit]; simp [show i < p from hi]⟩
      · rw [g1]
        refine ⟨_, rfl, ⟨hp, by omega, hpo, ?_, eo, by rw [g5 p (by omega)]; exact bz, bo, g2, ho⟩, by rw [Tr.pairs, g3], Nat.le_refl _, fun _ _ => rfl⟩
        rw [ez]; exact firstB_eq _ _ p (by rw [Tr.wf_key hz, Tr.wf_key g2]) (fun i hi => (g5 i (by omega)).symm)
    · have hb : bitL (ks k) p = true := by rw [← e]; exact side_o hw x hx
      have hd : delL k (Tr.fork p k' z o).pairs = z.pairs ++ delL k o.pairs := by
        rw [Tr.pairs, delL_append, delL_ne k z.pairs (side_ne_z hw hb)]
      rw [hd]
      unfold withoutT
      rw [hb, if_pos rfl]
      rcases without_ok k o ho ⟨x, hx, e⟩ with ⟨g1, g2⟩ | ⟨o', g1, g2, g3, g4, g5⟩
      · rw [g1, g2, List.append_nil]
        exact ⟨z, rfl, hz, rfl, Nat.le_of_lt hpz, fun i hi => by rw [Tr.key, ez, firstB_bit]; simp [show i < p from hi]⟩
      · rw [g1]
        refine ⟨_, rfl, ⟨hp, hpz, by omega, ez, ?_, bz, by rw [g5 p (by omega)]; exact bo, hz, g2⟩, by rw [Tr.pairs, g3], Nat.le_refl _, fun _ _ => rfl⟩
        rw [eo]; exact firstB_eq _ _ p (by rw [Tr.wf_key ho, Tr.wf_key g2]) (fun i hi => (g5 i (by omega)).symm)

theorem tow_wf (n : Nat) (l : List UInt8) : ∀ t : Tr, t.wf → (towT n l t).wf
  | .leaf _ _, h => h
  | .fork _ _ z o, h => by
    unfold towT
    split
    · split
      · exact tow_wf n l o h.2.2.2.2.2.2.2.2
      · exact tow_wf n l z h.2.2.2.2.2.2.2.1
    · exact h
theorem get_ok (k : ByteArray) : ∀ t : Tr, t.wf → ∃ k' v', towT 256 (ks k) t = .leaf k' v' ∧ getL k t.pairs = if k' = k then some v' else none
  | .leaf k' v', _ => ⟨k', v', rfl, by simp [Tr.pairs, getL]⟩
  | .fork p k' z o, h => by
    unfold towT
    rw [if_pos h.1, Tr.pairs, getL_append]
    cases hb : bitL (ks k) p with
    | true =>
      rw [if_pos rfl, getL_none k z.pairs (side_ne_z h hb)]
      exact get_ok k o h.2.2.2.2.2.2.2.2
    | false =>
      rw [if_neg (by simp), getL_none k o.pairs (side_ne_o h hb), Option.or_none]
      exact get_ok k z h.2.2.2.2.2.2.2.1
theorem underL_append (l : List UInt8) (n : Nat) (A B : List Pr) : underL l n (A ++ B) = underL l n A ++ underL l n B := List.filter_append ..
theorem underL_nil (l : List UInt8) (n p : Nat) (b : Bool) (hp : p < n) (A : List Pr) (h : ∀ x ∈ A, bitL (ks x.1) p = b) (hb : bitL l p = !b) : underL l n A = [] := by
  unfold underL
  rw [List.filter_eq_nil_iff]
  intro x hx h1
  have := (hasL_iff _ _ _).1 h1 p hp
  rw [h x hx, hb] at this
  cases b <;> cases this
theorem under_ok (k : ByteArray) (hk : k.size = 32) (n : Nat) (hn : n ≤ 256) : ∀ t : Tr, t.wf →
    underL (ks k) n t.pairs = if comL (ks (towT n (ks k) t).key) (ks k) < n then [] else (towT n (ks k) t).pairs := by
  have top : ∀ t : Tr, t.wf → n ≤ t.span → underL (ks k) n t.pairs = if comL (ks t.key) (ks k) < n then [] else t.pairs := fun t h hs => by
    have hl : (ks t.key).length = (ks k).length := by rw [ks_length, ks_length, hk, Tr.wf_key h]
    have h8 : 8 * (ks t.key).length = 256 := by rw [ks_length, Tr.wf_key h]
    split
    · rename_i hlt
      have hd := comL_diff _ _ hl (by omega)
      unfold underL
      rw [List.filter_eq_nil_iff]
      intro x hx h1
      have g := (hasL_iff _ _ _).1 h1 _ hlt
      rw [(Tr.pairs_ok h x hx).2.2 _ (by omega)] at g
      exact hd g
    · rename_i hge
      unfold underL
      rw [List.filter_eq_self]
      intro x hx
      refine (hasL_iff _ _ _).2 fun i hi => ?_
      rw [(Tr.pairs_ok h x hx).2.2 i (by omega)]
      exact comL_same _ _ i (by omega)
  intro t h
  induction t with
  | leaf k' v' => exact top _ h hn
  | fork p k' z o iz io =>
    unfold towT
    split
    · rename_i hp
      rw [Tr.pairs, underL_append]
      cases hb : bitL (ks k) p with
      | true =>
        rw [if_pos rfl, underL_nil (ks k) n p false hp z.pairs (side_z h) hb, List.nil_append]
        exact io h.2.2.2.2.2.2.2.2
      | false =>
        rw [if_neg (show ¬ (false = true) by simp), underL_nil (ks k) n p true hp o.pairs (side_o h) hb, List.append_nil]
        exact iz h.2.2.2.2.2.2.2.1
    · rename_i hp
      exact top _ h (by show n ≤ p; omega)
end Go.Proofs.YtmpjpaomgifpcaaGreatDoor
namespace Go.Proofs.YtmpjpaomgifpcaaGreatDoor
open Go.Op


/-- What is hashed, node by node; and the values. -/
def Tr.texts : Tr → List (List UInt8)
  | .leaf k v => [ks v, leafT k v]
  | .fork p k z o => z.texts ++ o.texts ++ [forkT p k z.hash o.hash]
/-- The last of these. -/
def Tr.last : Tr → List UInt8
  | .leaf k v => leafT k v
  | .fork p k z o => forkT p k z.hash o.hash
theorem Tr.hash_last : ∀ t : Tr, t.hash = sumB t.last
  | .leaf _ _ => rfl
  | .fork _ _ _ _ => rfl
theorem Tr.last_mem : ∀ t : Tr, t.last ∈ t.texts
  | .leaf _ _ => by simp [Tr.texts, Tr.last]
  | .fork _ _ _ _ => by simp [Tr.texts, Tr.last]
theorem sumB_inj {a b : List UInt8} (h : sumB a = sumB b) : sumL a = sumL b := by rw [← ks_sumB, ← ks_sumB, h]

/-- Two unlike texts of one hash. -/
def ClashP (A : List (List UInt8)) : Prop := ∃ x ∈ A, ∃ y ∈ A, x ≠ y ∧ sumL x = sumL y

theorem app32 {a b c d : List UInt8} (h : a.length = c.length) (e : a ++ b = c ++ d) : a = c ∧ b = d := List.append_inj e h

theorem clash_or : ∀ (t u : Tr), t.sz → u.sz → t.hash = u.hash → t = u ∨ ∃ x ∈ t.texts, ∃ y ∈ u.texts, x ≠ y ∧ sumL x = sumL y
  | .leaf k v, .leaf k' v', ht, hu, h => by
    by_cases e : leafT k v = leafT k' v'
    · have e1 : ks k ++ sumL (ks v) = ks k' ++ sumL (ks v') := by simpa [leafT] using e
      obtain ⟨e2, e3⟩ := app32 (by rw [ks_length, ks_length, ht.1, hu.1]) e1
      by_cases e4 : ks v = ks v'
      · exact .inl (by rw [ks_inj e2, ks_inj e4])
      · exact .inr ⟨ks v, by simp [Tr.texts], ks v', by simp [Tr.texts], e4, e3⟩
    · exact .inr ⟨_, by simp [Tr.texts], _, by simp [Tr.texts], e, sumB_inj h⟩
  | .leaf k v, .fork p' k' z' o', _, _, h => .inr ⟨_, Tr.last_mem _, _, Tr.last_mem _, by simp [Tr.last, leafT, forkT], sumB_inj (by rw [← Tr.hash_last, ← Tr.hash_last]; exact h)⟩
  | .fork p k z o, .leaf k' v', _, _, h => .inr ⟨_, Tr.last_mem _, _, Tr.last_mem _, by simp [Tr.last, leafT, forkT], sumB_inj (by rw [← Tr.hash_last, ← Tr.hash_last]; exact h)⟩
  | .fork p k z o, .fork p' k' z' o', ht, hu, h => by
    by_cases e : forkT p k z.hash o.hash = forkT p' k' z'.hash o'.hash
    · have e0 : UInt8.ofNat (p / 256) = UInt8.ofNat (p' / 256) ∧ UInt8.ofNat (p % 256) = UInt8.ofNat (p' % 256) ∧ ks k ++ (ks z.hash ++ ks o.hash) = ks k' ++ (ks z'.hash ++ ks o'.hash) := by simpa [forkT] using e
      obtain ⟨_, e1, e2⟩ := e0
      have hp : p = p' := by
        have h1 := congrArg UInt8.toNat e1
        simp at h1
        have := ht.1; have := hu.1; omega
      obtain ⟨e3, e4⟩ := app32 (by rw [ks_length, ks_length, ht.2.1, hu.2.1]) e2
      obtain ⟨e5, e6⟩ := app32 (by rw [ks_length, ks_length, Tr.hash_size, Tr.hash_size]) e4
      subst hp
      have e3' := ks_inj e3; subst e3'
      rcases clash_or z z' ht.2.2.1 hu.2.2.1 (ks_inj e5) with rfl | ⟨x, hx, y, hy, h1, h2⟩
      · rcases clash_or o o' ht.2.2.2 hu.2.2.2 (ks_inj e6) with rfl | ⟨x, hx, y, hy, h1, h2⟩
        · exact .inl rfl
        · exact .inr ⟨x, by simp [Tr.texts, hx], y, by simp [Tr.texts, hy], h1, h2⟩
      · exact .inr ⟨x, by simp [Tr.texts, hx], y, by simp [Tr.texts, hy], h1, h2⟩
    · exact .inr ⟨_, Tr.last_mem _, _, Tr.last_mem _, e, sumB_inj h⟩

/-- The first pair's key. -/
def Tr.head : Tr → ByteArray
  | .leaf k _ => k
  | .fork _ _ z _ => z.head
def Tr.tail : Tr → ByteArray
  | .leaf k _ => k
  | .fork _ _ _ o => o.tail
theorem Tr.head_pairs : ∀ t : Tr, ∃ v r, t.pairs = (t.head, v) :: r
  | .leaf k v => ⟨v, [], rfl⟩
  | .fork _ _ z o => by
    obtain ⟨v, r, e⟩ := Tr.head_pairs z
    exact ⟨v, r ++ o.pairs, by rw [Tr.pairs, e]; rfl⟩
theorem Tr.tail_pairs : ∀ t : Tr, ∃ v r, t.pairs = r ++ [(t.tail, v)]
  | .leaf k v => ⟨v, [], rfl⟩
  | .fork _ _ z o => by
    obtain ⟨v, r, e⟩ := Tr.tail_pairs o
    exact ⟨v, z.pairs ++ r, by rw [Tr.pairs, e, List.append_assoc]; rfl⟩
theorem Tr.head_mem (t : Tr) : ∃ v, (t.head, v) ∈ t.pairs := by
  obtain ⟨v, r, e⟩ := t.head_pairs; exact ⟨v, by rw [e]; exact List.mem_cons_self ..⟩
theorem Tr.tail_mem (t : Tr) : ∃ v, (t.tail, v) ∈ t.pairs := by
  obtain ⟨v, r, e⟩ := t.tail_pairs; exact ⟨v, by rw [e]; simp⟩
/-- A fork's place is where its first and last keys part, and its key the first bits. -/
theorem fork_place {p : Nat} {k : ByteArray} {z o : Tr} (h : (Tr.fork p k z o).wf) : (∀ i, i < p → bitL (ks z.head) i = bitL (ks o.tail) i) ∧ bitL (ks z.head) p = false ∧ bitL (ks o.tail) p = true ∧ k = firstB z.head p ∧ z.head.size = 32 ∧ o.tail.size = 32 := by
  obtain ⟨v, hv⟩ := z.head_mem
  obtain ⟨u, hu⟩ := o.tail_mem
  have h1 := Tr.pairs_ok h (z.head, v) (by rw [Tr.pairs]; exact List.mem_append_left o.pairs hv)
  have h2 := Tr.pairs_ok h (o.tail, u) (by rw [Tr.pairs]; exact List.mem_append_right z.pairs hu)
  have h3 := Tr.pairs_ok h.2.2.2.2.2.2.2.1 (z.head, v) hv
  have e1 : ∀ i, i < p → bitL (ks z.head) i = bitL (ks k) i := fun i hi => h1.2.2 i hi
  have e2 : ∀ i, i < p → bitL (ks o.tail) i = bitL (ks k) i := fun i hi => h2.2.2 i hi
  have e3 : bitL (ks z.head) p = false := side_z h (z.head, v) hv
  have e4 : bitL (ks o.tail) p = true := side_o h (o.tail, u) hu
  have e5 : k = firstB z.head p := by
    have hz := Tr.wf_key h.2.2.2.2.2.2.2.1
    have hp := h.2.1
    have e6 : firstB z.key p = firstB z.head p := firstB_eq _ _ p (by rw [hz]; exact h3.1.symm) (fun i hi => (h3.2.2 i (Nat.lt_trans hi hp)).symm)
    exact h.2.2.2.1.trans e6
  exact ⟨fun i hi => (e1 i hi).trans (e2 i hi).symm, e3, e4, e5, h1.1, h2.1⟩

theorem filter_split {p : Nat} {k : ByteArray} {z o : Tr} (h : (Tr.fork p k z o).wf) : (Tr.fork p k z o).pairs.filter (fun x => !bitL (ks x.1) p) = z.pairs ∧ (Tr.fork p k z o).pairs.filter (fun x => bitL (ks x.1) p) = o.pairs := by
  simp only [Tr.pairs, List.filter_append]
  rw [List.filter_eq_self.2 (fun x hx => by rw [side_z h x hx]; rfl), List.filter_eq_nil_iff.2 (fun x hx => by rw [side_o h x hx]; simp),
    List.filter_eq_nil_iff.2 (fun x hx => by rw [side_z h x hx]; simp), List.filter_eq_self.2 (fun x hx => side_o h x hx)]
  exact ⟨List.append_nil _, rfl⟩
theorem Tr.pairs_two {p : Nat} {k : ByteArray} {z o : Tr} : 2 ≤ (Tr.fork p k z o).pairs.length := by
  have h1 := List.length_pos_iff.2 z.pairs_ne
  have h2 := List.length_pos_iff.2 o.pairs_ne
  rw [Tr.pairs, List.length_append]; omega
/-- One shape for one content. -/
theorem one_shape : ∀ (t u : Tr), t.wf → u.wf → t.pairs = u.pairs → t = u
  | .leaf k v, .leaf k' v', _, _, h => by simpa [Tr.pairs] using h
  | .leaf k v, .fork p k' z o, _, _, h => by
    have := congrArg List.length h
    have h2 := @Tr.pairs_two p k' z o
    rw [← this] at h2; simp [Tr.pairs] at h2
  | .fork p k' z o, .leaf k v, _, _, h => by
    have := congrArg List.length h
    have h2 := @Tr.pairs_two p k' z o
    rw [this] at h2; simp [Tr.pairs] at h2
  | .fork p k z o, .fork p' k' z' o', ht, hu, h => by
    obtain ⟨a1, a2, a3, a4, a5, a6⟩ := fork_place ht
    obtain ⟨b1, b2, b3, b4, b5, b6⟩ := fork_place hu
    have eh : z.head = z'.head := by
      obtain ⟨v, r, e⟩ := (Tr.fork p k z o).head_pairs
      obtain ⟨v', r', e'⟩ := (Tr.fork p' k' z' o').head_pairs
      rw [h, e'] at e
      simp only [List.cons.injEq, Prod.mk.injEq] at e
      exact e.1.1.symm
    have et : o.tail = o'.tail := by
      obtain ⟨v, r, e⟩ := (Tr.fork p k z o).tail_pairs
      obtain ⟨v', r', e'⟩ := (Tr.fork p' k' z' o').tail_pairs
      rw [h, e'] at e
      have := (List.append_inj' e rfl).2
      simp only [List.cons.injEq, Prod.mk.injEq] at this
      exact this.1.1.symm
    rw [← eh, ← et] at b1
    rw [← eh] at b2 b4
    rw [← et] at b3
    have hp : p = p' := by
      rcases Nat.lt_trichotomy p p' with h1 | h1 | h1
      · have := b1 p h1; rw [a2, a3] at this; cases this
      · exact h1
      · have := a1 p' h1; rw [b2, b3] at this; cases this
    subst hp
    rw [← b4] at a4
    subst a4
    have f1 := filter_split ht
    have f2 := filter_split hu
    rw [h] at f1
    rw [one_shape z z' ht.2.2.2.2.2.2.2.1 hu.2.2.2.2.2.2.2.1 (f1.1.symm.trans f2.1), one_shape o o' ht.2.2.2.2.2.2.2.2 hu.2.2.2.2.2.2.2.2 (f1.2.symm.trans f2.2)]

/-- Maps: a tree, or none. -/
def MT.pairs : Option Tr → List Pr
  | none => []
  | some t => t.pairs
def MT.wf : Option Tr → Prop
  | none => True
  | some t => t.wf
def MT.root : Option Tr → ByteArray
  | none => noneH
  | some t => t.hash
def MT.texts : Option Tr → List (List UInt8)
  | none => []
  | some t => t.texts
def MT.withM (k v : ByteArray) : Option Tr → Option Tr
  | none => some (.leaf k v)
  | some t => some (withT k v t)
def MT.put (k v : ByteArray) (m : Option Tr) : Option Tr := if k.size = 32 then MT.withM k v m else m
def MT.del (k : ByteArray) (m : Option Tr) : Option Tr := if k.size = 32 then (if getL k (MT.pairs m) = none then m else m.bind (withoutT (ks k))) else m

theorem MT.one {m n : Option Tr} (hm : MT.wf m) (hn : MT.wf n) (h : MT.pairs m = MT.pairs n) : m = n := by
  match m, n with
  | none, none => rfl
  | none, some t => exact absurd h.symm t.pairs_ne
  | some t, none => exact absurd h t.pairs_ne
  | some t, some u => rw [one_shape t u hm hn h]
theorem noneH_size : noneH.size = 32 := rfl
/-- Like roots: like maps, or a clash. -/
theorem MT.clash {m n : Option Tr} (hm : MT.wf m) (hn : MT.wf n) (h : MT.root m = MT.root n) : m = n ∨ (∃ x ∈ MT.texts m ++ MT.texts n, sumB x = noneH) ∨ ClashP (MT.texts m ++ MT.texts n) := by
  match m, n with
  | none, none => exact .inl rfl
  | none, some t => exact .inr (.inl ⟨t.last, by simp [MT.texts, Tr.last_mem], by rw [← Tr.hash_last]; exact h.symm⟩)
  | some t, none => exact .inr (.inl ⟨t.last, by simp [MT.texts, Tr.last_mem], by rw [← Tr.hash_last]; exact h⟩)
  | some t, some u =>
    rcases clash_or t u (Tr.wf_sz hm) (Tr.wf_sz hn) h with e | ⟨x, hx, y, hy, h1, h2⟩
    · exact .inl (by rw [e])
    · exact .inr (.inr ⟨x, by simp [MT.texts, hx], y, by simp [MT.texts, hy], h1, h2⟩)

theorem getL_mem (k : ByteArray) (A : List Pr) (h : getL k A ≠ none) : ∃ x ∈ A, x.1 = k := by
  cases e : getL k A with
  | none => exact absurd e h
  | some v => exact ⟨_, getL_some k v A e, rfl⟩
theorem getL_isNone (k : ByteArray) : ∀ (A : List Pr), getL k A = none → ∀ x ∈ A, x.1 ≠ k
  | [], _, _, h => by cases h
  | x :: A, h, y, hy => by
    rw [getL] at h
    split at h
    · cases h
    · rename_i hne
      rcases List.mem_cons.1 hy with rfl | hy
      · exact hne
      · exact getL_isNone k A h y hy
theorem MT.put_ok (k v : ByteArray) (hk : k.size = 32) (hv : v.size ≤ 5000) (m : Option Tr) (hm : MT.wf m) : MT.wf (MT.put k v m) ∧ MT.pairs (MT.put k v m) = putL k v (MT.pairs m) := by
  unfold MT.put
  rw [if_pos hk]
  match m with
  | none => exact ⟨⟨hk, hv⟩, rfl⟩
  | some t => exact ⟨(with_ok k v hk hv t hm).1, (with_ok k v hk hv t hm).2.1⟩
theorem MT.del_ok (k : ByteArray) (hk : k.size = 32) (m : Option Tr) (hm : MT.wf m) : MT.wf (MT.del k m) ∧ MT.pairs (MT.del k m) = delL k (MT.pairs m) := by
  unfold MT.del
  rw [if_pos hk]
  split
  · rename_i h
    exact ⟨hm, (delL_ne k _ (getL_isNone k _ h)).symm⟩
  · rename_i h
    match m with
    | none => exact absurd rfl h
    | some t =>
      obtain ⟨x, hx, e⟩ := getL_mem k _ h
      rcases without_ok k t hm ⟨x, hx, e⟩ with ⟨g1, g2⟩ | ⟨t', g1, g2, g3, _, _⟩
      · rw [Option.bind_some, g1]; exact ⟨trivial, g2.symm⟩
      · rw [Option.bind_some, g1]; exact ⟨g2, g3⟩

/-- Lengths. -/
theorem length_put (k v : ByteArray) : ∀ (l : List Pr), l.Pairwise (fun a b => ltK a.1 b.1) → (putL k v l).length = l.length + if getL k l = none then 1 else 0
  | [], _ => rfl
  | x :: r, h => by
    obtain ⟨h1, h2⟩ := List.pairwise_cons.1 h
    rw [putL, getL]
    by_cases e : x.1 = k
    · have hne : r.filter (fun y => decide (y.1 ≠ k)) = r := filter_ne k r (fun y hy e2 => ltK_ne (h1 y hy) (by rw [e, e2]))
      rw [if_pos e, e, leK_self, if_pos rfl, List.filter_cons, e, if_neg (by simp), hne]
      simp
    · rw [if_neg e]
      split
      · rename_i hle
        have hlt : ltK k x.1 := by
          rw [leK_eq] at hle
          exact Std.lt_of_le_of_ne (of_decide_eq_true hle) (fun e2 => e (ks_inj e2.symm))
        have hall : ∀ y ∈ r, y.1 ≠ k := fun y hy e2 => ltK_ne (List.lt_trans hlt (h1 y hy)) e2.symm
        have hne : (x :: r).filter (fun y => decide (y.1 ≠ k)) = x :: r := filter_ne k _ (fun y hy => by
          rcases List.mem_cons.1 hy with rfl | hy
          · exact e
          · exact hall y hy)
        rw [hne, getL_none k r hall]
        simp
      · rw [List.length_cons, length_put k v r h2, List.length_cons]; omega
theorem length_del (k : ByteArray) : ∀ (l : List Pr), l.Pairwise (fun a b => ltK a.1 b.1) → getL k l ≠ none → (delL k l).length + 1 = l.length
  | [], _, h => absurd rfl h
  | x :: r, h, hn => by
    obtain ⟨h1, h2⟩ := List.pairwise_cons.1 h
    rw [getL] at hn
    by_cases e : x.1 = k
    · have hne : r.filter (fun y => decide (y.1 ≠ k)) = r := filter_ne k r (fun y hy e2 => ltK_ne (h1 y hy) (by rw [e, e2]))
      rw [delL, List.filter_cons, if_neg (by simp [e]), hne]; rfl
    · rw [if_neg e] at hn
      have := length_del k r h2 hn
      rw [delL, List.filter_cons, if_pos (by simpa using e), List.length_cons, List.length_cons]
      unfold delL at this; omega
theorem MT.sorted {m : Option Tr} (hm : MT.wf m) : (MT.pairs m).Pairwise (fun a b => ltK a.1 b.1) := by
  match m with
  | none => exact List.Pairwise.nil
  | some t => exact Tr.sorted hm

/-- A pair that is put twice; one that is put and taken away. -/
theorem putL_twice (k v u : ByteArray) : ∀ (l : List Pr), putL k u (putL k v l) = putL k u l
  | [] => by simp [putL, leK_self]
  | x :: r => by
    rw [putL, putL]
    split
    · rw [putL, leK_self, if_pos rfl, List.filter_cons, if_neg (by simp), List.filter_filter]
      simp
    · rename_i h
      rw [putL, if_neg h, putL_twice k v u r]
theorem putL_same (k v : ByteArray) : ∀ (l : List Pr), l.Pairwise (fun a b => ltK a.1 b.1) → getL k l = some v → putL k v l = l
  | [], _, h => by cases h
  | x :: r, h, hg => by
    obtain ⟨h1, h2⟩ := List.pairwise_cons.1 h
    rw [getL] at hg
    by_cases e : x.1 = k
    · rw [if_pos e] at hg
      have hne : r.filter (fun y => decide (y.1 ≠ k)) = r := filter_ne k r (fun y hy e2 => ltK_ne (h1 y hy) (by rw [e, e2]))
      rw [putL, e, leK_self, if_pos rfl, List.filter_cons, if_neg (by simp [e]), hne]
      obtain rfl : x.2 = v := by simpa using hg
      rw [← e]
    · rw [if_neg e] at hg
      have hm := getL_some k v r hg
      have := h1 _ hm
      rw [putL, ltK_nle this, putL_same k v r h2 hg]; rfl
theorem del_put (k v : ByteArray) : ∀ (l : List Pr), delL k (putL k v l) = delL k l
  | [] => by simp [putL, delL]
  | x :: r => by
    rw [putL]
    split
    · unfold delL
      rw [List.filter_cons, if_neg (by simp), List.filter_filter]; simp
    · have := del_put k v r
      unfold delL at this ⊢
      rw [List.filter_cons, this, List.filter_cons]
theorem get_put (k v : ByteArray) : ∀ (l : List Pr), getL k (putL k v l) = some v
  | [] => by simp [putL, getL]
  | x :: r => by
    rw [putL]
    split
    · simp [getL]
    · rename_i h
      have hne : x.1 ≠ k := fun e => by rw [e, leK_self] at h; exact h rfl
      rw [getL, if_neg hne, get_put k v r]
theorem get_del (k : ByteArray) (l : List Pr) : getL k (delL k l) = none := getL_none k _ (fun x hx => by
  have := (List.mem_filter.1 hx).2
  simpa using this)

/-- What stands under a prefix. -/
theorem filter_parts {α : Type} (R : α → α → Prop) (P Q S : α → Bool) (hS : ∀ x, S x = (P x || Q x)) (hR : ∀ x y, P x = true → Q y = true → ¬ R y x) (hd : ∀ x, P x = true → Q x = false) : ∀ (l : List α), l.Pairwise R → l.filter S = l.filter P ++ l.filter Q
  | [], _ => rfl
  | x :: r, h => by
    obtain ⟨h1, h2⟩ := List.pairwise_cons.1 h
    have ih := filter_parts R P Q S hS hR hd r h2
    rw [List.filter_cons, List.filter_cons, List.filter_cons, hS]
    cases hp : P x with
    | true => simp [hd x hp, ih]
    | false =>
      cases hq : Q x with
      | false => simpa using ih
      | true =>
        have hn : r.filter P = [] := by
          rw [List.filter_eq_nil_iff]
          intro y hy hy2
          exact hR y x hy2 hq (h1 y hy)
        rw [hn] at ih
        simp [hn, ih]
theorem under_parts (l l0 l1 : List UInt8) (n : Nat) (hn : n < 256) (e0 : ∀ i, i < n → bitL l0 i = bitL l i) (e1 : ∀ i, i < n → bitL l1 i = bitL l i) (b0 : bitL l0 n = false) (b1 : bitL l1 n = true) (L : List Pr) (hL : L.Pairwise (fun a b => ltK a.1 b.1)) (hk : ∀ x ∈ L, x.1.size = 32) :
    underL l n L = underL l0 (n + 1) L ++ underL l1 (n + 1) L := by
  have each : ∀ (m : List UInt8) (b : Bool), (∀ i, i < n → bitL m i = bitL l i) → bitL m n = b → ∀ a, hasL a m (n + 1) = true ↔ hasL a l n = true ∧ bitL a n = b := fun m b e eb a => by
    rw [hasL_iff, hasL_iff]
    constructor
    · intro h
      exact ⟨fun i hi => (h i (by omega)).trans (e i hi), (h n (by omega)).trans eb⟩
    · rintro ⟨h1, h2⟩ i hi
      by_cases h3 : i < n
      · exact (h1 i h3).trans (e i h3).symm
      · rw [show i = n by omega, h2, eb]
  have z := each l0 false e0 b0
  have o := each l1 true e1 b1
  have hL' : L.Pairwise (fun a b => ltK a.1 b.1 ∧ a.1.size = 32 ∧ b.1.size = 32) := by
    rw [List.pairwise_iff_forall_sublist] at hL ⊢
    intro a b hab
    have := hab.subset
    exact ⟨hL hab, hk a (this (by simp)), hk b (this (by simp))⟩
  refine filter_parts (fun a b => ltK a.1 b.1 ∧ a.1.size = 32 ∧ b.1.size = 32) _ _ _ (fun x => ?_) (fun x y hx hy h => ?_) (fun x hx => ?_) L hL'
  · rw [Bool.eq_iff_iff, Bool.or_eq_true, z, o]
    cases bitL (ks x.1) n <;> simp
  · obtain ⟨x1, x2⟩ := (z _).1 hx
    obtain ⟨y1, y2⟩ := (o _).1 hy
    have := ltK_of_bit (a := x.1) (b := y.1) n h.2.2 h.2.1 hn (fun i hi => ((hasL_iff _ _ _).1 x1 i hi).trans ((hasL_iff _ _ _).1 y1 i hi).symm) x2 y2
    exact List.lt_asymm this h.1
  · rw [Bool.eq_false_iff]
    intro h2
    have := ((z _).1 hx).2
    rw [((o _).1 h2).2] at this; cases this
end Go.Proofs.YtmpjpaomgifpcaaGreatDoor
