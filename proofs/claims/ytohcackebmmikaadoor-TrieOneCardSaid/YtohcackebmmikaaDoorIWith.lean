/- trie's joined, toward, with. -/
import Derived.Test.YtohcackebmmikaaDoorITree
namespace Go.Proofs.YtohcackebmmikaaDoor
open Go.RowKit

def joinT (p : Nat) (a b : Tr) : Tr := if bitL (ks a.key) p then .fork p (firstB b.key p) b a else .fork p (firstB a.key p) a b

theorem bitN_one (b : Bool) : (bitN b == 1) = b := by cases b <;> rfl
theorem bitN_zero (b : Bool) : (bitN b == 0) = !b := by cases b <;> rfl

set_option maxRecDepth 30000 in
set_option maxHeartbeats 1000000 in
theorem joined_trie (p : Nat) (s t : Tr) (b c : Nat) (w : World) (hp : p < 256) (hs : s.sz) (ht : t.sz) (hb : Rep w s b) (hc : Rep w t c) (hst : Start w) :
    Calls Tryd.prog 53 #[.int .i64 p, pp b, pp c] w fun e w' => ∃ d, e = .returned (pp d) ∧ Rep w' (joinT p s t) d ∧ Below w.heap.size w w' := by
  have hks := s.key_size hs
  have hkt := t.key_size ht
  obtain ⟨cs, _⟩ := Rep.cells hb
  obtain ⟨ct, _⟩ := Rep.cells hc
  have HS := Lib.hid hst
  have HB := Lib.hid hb
  have HC := Lib.hid hc
  have HF := Lib.hid (fun (s t : Tr) (b c : Nat) (k : ByteArray) (w : World) => fork_prog p k s t b c w hp)
  have hbit := Lib.hid (fun W => bit_prog s.key p W hp (by omega))
  have hfs := Lib.hid (fun W => first_prog s.key p W hks (by omega))
  have hft := Lib.hid (fun W => first_prog t.key p W hkt (by omega))
  have hsz1 : (firstB s.key p).size = 32 := by rw [firstB, mk_size, firstL_length]; simpa using hks
  have hsz2 : (firstB t.key p).size = 32 := by rw [firstB, mk_size, firstL_length]; simpa using hkt
  have Hz1 := Lib.hid hsz1
  have Hz2 := Lib.hid hsz2
  clear hst hb hc hsz1 hsz2
  obtain ⟨r, hr⟩ : ∃ r, r = bitL (ks s.key) p := ⟨_, rfl⟩
  unfold joinT
  rw [← hr] at hbit ⊢
  clear hr
  have h1 := bitN_one r
  unfold pp
  go_enter Tryd.func53, Tryd.ntmps53
  go_wp2_with fail
  refine (hbit.out _).mono ?_
  rintro e w1 ⟨rfl, rfl⟩
  cases r with
  | true =>
    go_wp2_with fail
    refine (hft.out _).mono ?_
    rintro e w2 ⟨rfl, hb2⟩
    go_wp2_with fail
    refine (HF.out t s c b _ w2 Hz2.out (HC.out.later hb2) (HB.out.later hb2) (HS.out.later hb2)).mono ?_
    rintro e w3 ⟨d, rfl, hd, hb3⟩
    unfold pp
    go_wp2
    go_ret
    exact ⟨d, rfl, hd, hb2.trans (hb3.mono hb2.size)⟩
  | false =>
    go_wp2_with fail
    refine (hfs.out _).mono ?_
    rintro e w2 ⟨rfl, hb2⟩
    go_wp2_with fail
    refine (HF.out s t b c _ w2 Hz1.out (HB.out.later hb2) (HC.out.later hb2) (HS.out.later hb2)).mono ?_
    rintro e w3 ⟨d, rfl, hd, hb3⟩
    unfold pp
    go_wp2
    go_ret
    exact ⟨d, rfl, hd, hb2.trans (hb3.mono hb2.size)⟩

/-- Where so many bits of a key lead. -/
def towT (n : Nat) (l : List UInt8) : Tr → Tr
  | .leaf k v => .leaf k v
  | .fork p k z o => if p < n then (if bitL l p then towT n l o else towT n l z) else .fork p k z o
/-- Places grow downwards. -/
def Tr.asc : Tr → Prop
  | .leaf _ _ => True
  | .fork p _ z o => p < z.span ∧ p < o.span ∧ z.asc ∧ o.asc
theorem Tr.span_le : ∀ (t : Tr), t.sz → t.span ≤ 256
  | .leaf _ _, _ => Nat.le_refl _
  | .fork _ _ _ _, h => Nat.le_of_lt h.1

def spanAt (w : World) (v : Value) : Nat := match v with
  | .pointer (some a) => (match w.cell? ⟨a.block, 0, none⟩ with
    | some (.bool true) => 256
    | _ => (match w.cell? ⟨a.block, 4, none⟩ with
      | some (.int .i64 p) => p.toNat
      | _ => 0))
  | _ => 0
theorem spanAt_rep {w : World} {t : Tr} {b : Nat} (h : Rep w t b) : spanAt w (pp b) = t.span := by
  cases t with
  | leaf k v =>
    obtain ⟨c0, _⟩ := NodeAt.cells h
    simp only [spanAt, pp, c0]; rfl
  | fork p k z o =>
    obtain ⟨_, _, h, _⟩ := h
    obtain ⟨c0, _, _, c4, _⟩ := NodeAt.cells h
    simp only [spanAt, pp, c0, c4]; rfl
theorem Rep.same {w w' : World} {t : Tr} {b : Nat} (h : Rep w t b) (hs : Same w w') : Rep w' t b := h.later (hs.below _)

def TwRel (n : Nat) (l : List UInt8) (r : Tr) (w : World) (s0 : Value) (wr : World) : Prop :=
  ∃ (t : Tr) (b : Nat), s0 = pp b ∧ Rep wr t b ∧ t.sz ∧ t.asc ∧ Hid (towT n l t = r) ∧ Same w wr

set_option maxRecDepth 30000 in
set_option maxHeartbeats 1000000 in
theorem toward_prog (t : Tr) (b : Nat) (k : ByteArray) (n : Nat) (w : World) (hn : n ≤ 256) (hk : k.size ≤ 1000) (ht : t.sz) (ha : t.asc) (hb : Rep w t b) :
    Calls Tryd.prog 40 #[pp b, .string k, .int .i64 n] w fun e w' => ∃ c, e = .returned (pp c) ∧ Rep w' (towT n (ks k) t) c ∧ Same w w' := by
  obtain ⟨R, hR⟩ : ∃ R, towT n (ks k) t = R := ⟨_, rfl⟩
  rw [hR]
  have HR := Lib.hid hR
  have HB := Lib.hid hb
  have HT := Lib.hid ht
  have HA := Lib.hid ha
  have hn0 : (0 : Int) ≤ (n : Int) := by omega
  have hn1 : (n : Int) ≤ 256 := by omega
  clear hR hb ht ha
  unfold pp
  go_enter Tryd.func40, Tryd.ntmps40
  go_wp2
  go_loopw [0] (TwRel n (ks k) R w) (fun v wx => 257 - spanAt wx v)
  case atStart => exact ⟨t, b, rfl, HB.out, HT.out, HA.out, HR, Same.refl _⟩
  case round =>
    obtain ⟨t', b', rfl, hb, ht, ha, hr, hs⟩ := hrel
    have hsp := spanAt_rep hb
    have HSP := Lib.hid hsp
    have hspan := Lib.hid (fun (W : World) (h : W = wr) => by
      have := span_prog t' b' wr hb
      rw [← h] at this; exact this)
    have HB' := Lib.hid hb
    cases t' with
    | leaf k' v' =>
      have hge : ¬ ((256 : Int) < (n : Int)) := by omega
      have hr2 : Hid (Tr.leaf k' v' = R) := hr
      clear hsp hb hr
      unfold pp
      go_wp2_with fail
      refine (hspan.out _ rfl).mono ?_
      rintro e w1 ⟨rfl, rfl⟩
      simp only [Tr.span]
      go_wp2
      go_ret
      exact ⟨b', rfl, by rw [← hr2.out]; exact HB'.out, hs⟩
    | fork p k' z o =>
      obtain ⟨hp, hk', hzs, hos⟩ := ht
      obtain ⟨pz, po, hza, hoa⟩ := ha
      obtain ⟨bz, bo, hnode, hz, ho⟩ := hb
      obtain ⟨c0, c2, c3, c4, c5, c6, c7⟩ := NodeAt.cells hnode
      have hbit := Lib.hid (fun W => bit_prog k p W hp (by omega))
      have hzsp := spanAt_rep hz
      have hosp := spanAt_rep ho
      have hzl := Tr.span_le _ hzs
      have hol := Tr.span_le _ hos
      obtain ⟨r, hr0⟩ : ∃ r, r = bitL (ks k) p := ⟨_, rfl⟩
      rw [← hr0] at hbit
      have hr2 : Hid ((if p < n then (if r then towT n (ks k) o else towT n (ks k) z) else .fork p k' z o) = R) := Lib.hid (by rw [hr0]; exact hr.out)
      clear hr hsp hr0
      have h1 := bitN_zero r
      by_cases hlt : p < n
      · have hltI : (p : Int) < (n : Int) := by omega
        rw [if_pos hlt] at hr2
        have HZ := Lib.hid hz
        have HO := Lib.hid ho
        have hm : Hid (spanAt wr (pp b') = p) := HSP
        have hmz := Lib.hid hzsp
        have hmo := Lib.hid hosp
        clear hz ho hzsp hosp hnode
        unfold pp
        go_wp2_with fail
        refine (hspan.out _ rfl).mono ?_
        rintro e w1 ⟨rfl, rfl⟩
        simp only [Tr.span]
        go_wp2_with fail
        refine (hbit.out _).mono ?_
        rintro e w1 ⟨rfl, rfl⟩
        unfold pp at c5 c6
        cases r with
        | false =>
          go_wp2_with fail
          go_roundw
          case rel => exact ⟨z, bz, rfl, HZ.out, hzs, hza, hr2, hs⟩
          case measure =>
            show 257 - spanAt _ (pp bz) < 257 - spanAt _ (pp b')
            rw [hm.out, hmz.out]; omega
        | true =>
          go_wp2_with fail
          go_roundw
          case rel => exact ⟨o, bo, rfl, HO.out, hos, hoa, hr2, hs⟩
          case measure =>
            show 257 - spanAt _ (pp bo) < 257 - spanAt _ (pp b')
            rw [hm.out, hmo.out]; omega
      · have hge : ¬ ((p : Int) < (n : Int)) := by omega
        rw [if_neg hlt] at hr2
        clear hz ho hzsp hosp hnode
        unfold pp
        go_wp2_with fail
        refine (hspan.out _ rfl).mono ?_
        rintro e w1 ⟨rfl, rfl⟩
        simp only [Tr.span]
        go_wp2
        go_ret
        exact ⟨b', rfl, by rw [← hr2.out]; exact HB'.out, hs⟩
end Go.Proofs.YtohcackebmmikaaDoor
