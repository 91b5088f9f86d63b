/- net: kindOf, shaped, readEntries. -/
import Derived.Test.YtgdlnjhbencjkaaNByt2
namespace Go.Proofs.Ytgdlnjhbencjkaa
open Go.RowKit

def kindI (i : Nat) : Int := if i = 8 then 2 else if i = 9 then 1 else 0
set_option maxRecDepth 100000 in
theorem kindOf_prog (i : Nat) (w : World) : Calls Try.prog 48 #[.int .i64 (i : Int)] w fun e w' => e = .returned (.int .i64 (kindI i)) ∧ w = w' := by
  by_cases h8 : i = 8
  · subst h8
    go_enter Try.func48, Try.ntmps48
    go_wp2
    go_ret
    exact ⟨rfl, rfl⟩
  · by_cases h9 : i = 9
    · subst h9
      go_enter Try.func48, Try.ntmps48
      go_wp2
      go_ret
      exact ⟨rfl, rfl⟩
    · have e : kindI i = 0 := by unfold kindI; rw [if_neg h8, if_neg h9]
      have g1 : ((i : Int) == 8) = false := by simp; omega
      have g2 : ((i : Int) == 9) = false := by simp; omega
      rw [e]
      clear e h8 h9
      go_enter Try.func48, Try.ntmps48
      go_wp2
      go_ret
      exact ⟨rfl, rfl⟩
/-- Whether each node is of its place's kind, from place i on. -/
def kindsF : Nat → F → Bool
  | _, .nil => true
  | i, .cons k _ _ _ r => decide (k = kindI i) && kindsF (i + 1) r
def shapedB (x : Nd) : Bool := decide (x.k = 2) && (decide (x.kids.len = 10) && kindsF 0 x.kids)
theorem F.drop_drop : ∀ (f : F) (i : Nat) (k : Int) (n : Int) (s : ByteArray) (c r : F), f.drop i = .cons k n s c r → f.drop (i + 1) = r
  | .nil, i, _, _, _, _, _, h => by rw [F.drop_nil] at h; cases h
  | .cons k n s c r, 0, _, _, _, _, _, h => by
    injection h with _ _ _ _ h
    simpa [F.drop] using h
  | .cons k n s c r, i + 1, _, _, _, _, _, h => by
    have := F.drop_drop r i _ _ _ _ _ (by simpa [F.drop] using h)
    simpa [F.drop] using this
set_option maxHeartbeats 4000000 in
set_option maxRecDepth 100000 in
theorem shaped_prog (x : Nd) (S : Nat → Prop) (ka : Option Addr) (kc : Nat) (w : World) (hS : ∀ b, S b → b < w.heap.size) (hk : KidsAt w S x.kids (.slice ka x.kids.len kc)) :
    Calls Try.prog 40 #[.agg #[.int .i64 x.k, .int .u64 x.n, .string x.s, .slice ka x.kids.len kc]] w fun e w' => e = .returned (.bool (shapedB x)) ∧ Below w.heap.size w w' := by
  by_cases h2 : x.k = 2
  · have h2I : (x.k != 2) = false := by simp [h2]
    by_cases h10 : x.kids.len = 10
    · have e0 : shapedB x = kindsF 0 x.kids := by unfold shapedB; simp [h2, h10]
      rw [e0]
      obtain ⟨f, hf⟩ : ∃ f, x.kids = f := ⟨_, rfl⟩
      rw [hf] at hk h10 ⊢
      obtain ⟨g, o, cap, hv, hg, hl⟩ := hk.lies (by omega)
      rw [h10] at hv ⊢
      injection hv with hv1 _ hv3
      subst hv1 hv3
      have HL := Lib.hid hl
      have hglt := hS g hg
      have H10 := Lib.hid h10
      have h10I : ((10 : Nat) : Int) = 10 := rfl
      clear e0 hf hk h10 hl hg hS
      go_enter Try.func40, Try.ntmps40
      go_wp2_with fail
      go_loopw [17] (fun i wr => ∃ k : Nat, k ≤ 10 ∧ i = .int .i64 (k : Int) ∧ Hid (kindsF 0 f = kindsF k (f.drop k)) ∧ Hid (Below w.heap.size w wr)) (fun i _ => 10 - (intOf i).toNat)
      case atStart => exact ⟨0, by omega, rfl, Lib.hid (by simp [F.drop]), Lib.hid ((Below.refl _ _).alloc (Nat.le_refl _) _)⟩
      case round =>
        obtain ⟨k, hk, rfl, HK, HB⟩ := hrel
        by_cases hlt : k < 10
        · have hkI : (k : Int) < 10 := by omega
          have hk0 : (0 : Int) ≤ (k : Int) := by omega
          obtain ⟨k', n', s', c', hd⟩ := F.drop_at f k (by rw [H10.out]; exact hlt)
          have hl := Lies.drop k f g o HL.out
          rw [hd] at hl
          obtain ⟨⟨kv, l0, l1, l2, l3, lk⟩, _⟩ := lies_cons.1 hl
          obtain ⟨va, vc, rfl⟩ := lk.shape
          have cw : ∀ j u, w.cell? ⟨g, j, none⟩ = some u → wr.cell? ⟨g, j, none⟩ = some u := fun j u h => by rw [HB.out.cell (p := ⟨g, j, none⟩) hglt]; exact h
          have l0 := cw _ _ l0
          have l1 := cw _ _ l1
          have l2 := cw _ _ l2
          have l3 := cw _ _ l3
          have HKK : Hid (kindsF 0 f = (decide (k' = kindI k) && kindsF (k + 1) (f.drop (k + 1)))) := Lib.hid (by rw [HK.out, hd]; rfl)
          have KQ := Lib.hid (fun W => kindOf_prog k W)
          have HB1 := Lib.hid (HB.out.alloc HB.out.size (.cells #[.int .i64 k', .int .u64 n', .string s', .slice va c'.len vc] 76))
          clear cw hl lk hd
          obtain ⟨q, hq⟩ : ∃ q, kindI k = q := ⟨_, rfl⟩
          rw [hq] at HKK
          simp only [hq] at KQ
          by_cases hkk : k' = q
          · have hkkI : (k' != q) = false := by simp [hkk]
            have HKS : Hid (kindsF 0 f = kindsF (k + 1) (f.drop (k + 1))) := Lib.hid (by rw [HKK.out]; simp [hkk])
            clear hkk hq
            go_wp2_with fail
            go_quiet ((go_at_call 48; exact quietE (KQ.out _)))
            go_wp2_with fail
            go_roundw
            case rel => exact ⟨k + 1, by omega, by go_num, HKS, Lib.hid (HB1.out.trans ((Same.of _ _).below _))⟩
            case measure => simp [intOf]; omega
          · have hkkI : (k' != q) = true := by simp [hkk]
            have HKS : Hid (kindsF 0 f = false) := Lib.hid (by rw [HKK.out]; simp [hkk])
            clear hkk hq
            go_wp2_with fail
            go_quiet ((go_at_call 48; exact quietE (KQ.out _)))
            go_wp2_with fail
            go_ret
            exact ⟨by rw [HKS.out]; rfl, HB1.out.trans ((Same.of _ _).below _)⟩
        · have hke : k = 10 := by omega
          subst hke
          have HT : Hid (kindsF 0 f = true) := Lib.hid (by rw [HK.out]; have := F.drop_end f; rw [H10.out] at this; rw [this]; rfl)
          go_wp2_with fail
          go_ret
          exact ⟨by rw [HT.out]; rfl, HB.out⟩
    · have e0 : shapedB x = false := by unfold shapedB; simp [h10]
      have h10I : ((x.kids.len : Int) != 10) = true := by simp; omega
      rw [e0]
      clear e0 hk hS h10
      go_enter Try.func40, Try.ntmps40
      go_wp2_with fail
      go_ret
      exact ⟨rfl, (Below.refl _ _).alloc (Nat.le_refl _) _⟩
  · have e0 : shapedB x = false := by unfold shapedB; simp [h2]
    have h2I : (x.k != 2) = true := by simp [h2]
    rw [e0]
    clear e0 hk hS h2
    go_enter Try.func40, Try.ntmps40
    go_wp2_with fail
    go_ret
    exact ⟨rfl, (Below.refl _ _).alloc (Nat.le_refl _) _⟩

/-- An entry's nodes, if they are such. -/
def entO (k : Int) (c : F) : Option Ent := match c with
  | .cons k1 n1 _ _ (.cons k2 _ s2 _ .nil) => if k = 2 ∧ k1 = 0 ∧ k2 = 1 then some (n1.toNat, s2) else none
  | _ => none
def entsO : F → Option (List Ent)
  | .nil => some []
  | .cons k _ _ c r => match entO k c with
    | none => none
    | some e => match entsO r with
      | none => none
      | some l => some (e :: l)
/-- What comes behind l. -/
def ontoO (l : List Ent) (o : Option (List Ent)) : Option (List Ent) := o.map (l ++ ·)
theorem ontoO_nil (o : Option (List Ent)) : ontoO [] o = o := by cases o <;> rfl
theorem ontoO_some (l : List Ent) (k n : Int) (s : ByteArray) (c r : F) (e : Ent) (h : entO k c = some e) : ontoO l (entsO (.cons k n s c r)) = ontoO (l ++ [e]) (entsO r) := by
  simp only [entsO, h]
  cases entsO r <;> simp [ontoO]
theorem ontoO_none (l : List Ent) (k n : Int) (s : ByteArray) (c r : F) (h : entO k c = none) : ontoO l (entsO (.cons k n s c r)) = none := by
  simp only [entsO, h]; rfl
def ReRes (B : Nat) (w : World) (o : Option (List Ent)) (e : Ending) (w' : World) : Prop :=
  ∃ (v : Value) (b : Bool), e = .returned (.tuple #[v, .bool b]) ∧ (b = false → o = none ∧ v = .slice none 0 0) ∧ (b = true → ∃ l, o = some l ∧ EOwn w' B v l) ∧ Below B w w'
theorem ReRes.no {B : Nat} {w w' : World} {o : Option (List Ent)} (h : o = none) (hb : Below B w w') : ReRes B w o (.returned (.tuple #[.slice none 0 0, .bool false])) w' := ⟨_, false, rfl, fun _ => ⟨h, rfl⟩, fun e => (by cases e), hb⟩
theorem ReRes.yes {B : Nat} {w w' : World} {o : Option (List Ent)} {l : List Ent} {v : Value} (h : o = some l) (ho : EOwn w' B v l) (hb : Below B w w') : ReRes B w o (.returned (.tuple #[v, .bool true])) w' := ⟨_, true, rfl, fun e => (by cases e), fun _ => ⟨l, h, ho⟩, hb⟩
theorem two_nodes {c : F} (h : c.len = 2) : ∃ k1 n1 s1 c1 k2 n2 s2 c2, c = .cons k1 n1 s1 c1 (.cons k2 n2 s2 c2 .nil) := by
  cases c with
  | nil => simp [F.len] at h
  | cons k1 n1 s1 c1 r =>
    cases r with
    | nil => simp [F.len] at h
    | cons k2 n2 s2 c2 r2 =>
      have : r2.len = 0 := by simp [F.len] at h; omega
      rw [F.len_zero this]
      exact ⟨_, _, _, _, _, _, _, _, rfl⟩
theorem entO_bad {k : Int} {c : F} (h : k ≠ 2 ∨ c.len ≠ 2) : entO k c = none := by
  unfold entO
  split
  · rename_i k1 n1 s1 c1 k2 n2 s2 c2
    rcases h with h | h
    · rw [if_neg (fun e => h e.1)]
    · exact absurd rfl h
  · rfl
set_option maxHeartbeats 8000000 in
set_option maxRecDepth 100000 in
theorem readEntries_prog (f : F) (S : Nat → Prop) (fv : Value) (w : World) (hS : ∀ b, S b → b < w.heap.size) (hk : KidsAt w S f fv) (hok : f.ok) (hl : f.len ≤ 268435456) :
    Calls Try.prog 41 #[fv] w (ReRes w.heap.size w (entsO f)) := by
  obtain ⟨ka, kc, rfl⟩ := hk.shape
  have HKA := Lib.hid hk
  have HSS := Lib.hid hS
  obtain ⟨n, hn⟩ : ∃ n, f.len = n := ⟨_, rfl⟩
  rw [hn]
  have HN := Lib.hid hn
  have hnI : (n : Int) ≤ 268435456 := by omega
  have HOK := Lib.hid hok
  clear hk hS hl hn hok
  go_enter Try.func41, Try.ntmps41
  go_wp2_with fail
  go_loopw [4, 9] (fun o i wr => ∃ (k : Nat) (l : List Ent), k ≤ n ∧ i = .int .i64 (k : Int) ∧ Hid (l.length = k) ∧ Hid (EOwn wr w.heap.size o l) ∧ Hid (entsO f = ontoO l (entsO (f.drop k))) ∧ Hid (Below w.heap.size w wr)) (fun _ i _ => n - (intOf i).toNat)
  case atStart => exact ⟨0, [], by omega, rfl, Lib.hid rfl, Lib.hid (EOwn.nil _ _), Lib.hid (by rw [ontoO_nil]; simp [F.drop]), Lib.hid (Below.refl _ _)⟩
  case round =>
    obtain ⟨k, l, hk, rfl, HLL, HO, HT, HB⟩ := hrel
    by_cases hlt : k < n
    · have hkI : (k : Int) < (n : Int) := by omega
      have hk0 : (0 : Int) ≤ (k : Int) := by omega
      obtain ⟨k', n', s', c', hd⟩ := F.drop_at f k (by rw [HN.out]; exact hlt)
      obtain ⟨g, o', cap, hv, hg, hlies⟩ := HKA.out.lies (by rw [HN.out]; omega)
      injection hv with hv1 _ hv3
      subst hv1 hv3
      have hglt := HSS.out g hg
      have hl := Lies.drop k f g o' hlies
      rw [hd] at hl
      obtain ⟨⟨kv, l0, l1, l2, l3, lk⟩, _⟩ := lies_cons.1 hl
      have lk := lk.mono (S' := S) (w' := wr) (fun _ h => h) (fun b hb => HB.out.block b (HSS.out b hb))
      obtain ⟨va, vc, rfl⟩ := lk.shape
      have cw : ∀ j u, w.cell? ⟨g, j, none⟩ = some u → wr.cell? ⟨g, j, none⟩ = some u := fun j u h => by rw [HB.out.cell (p := ⟨g, j, none⟩) hglt]; exact h
      have l0 := cw _ _ l0
      have l1 := cw _ _ l1
      have l2 := cw _ _ l2
      have l3 := cw _ _ l3
      have hokk : 0 ≤ n' ∧ c'.ok := by have := F.drop_ok f k HOK.out; rw [hd] at this; exact ⟨this.1.1, this.2.2.2.1⟩
      rw [hd] at HT
      have HB1 := Lib.hid (HB.out.alloc HB.out.size (.cells #[.int .i64 k', .int .u64 n', .string s', .slice va c'.len vc] 76))
      by_cases hbad : k' ≠ 2 ∨ c'.len ≠ 2
      · have HNO : Hid (entsO f = none) := Lib.hid (HT.out.trans (ontoO_none _ _ _ _ _ _ (entO_bad hbad)))
        obtain ⟨bk, hbk⟩ : ∃ b, (k' != 2) = b := ⟨_, rfl⟩
        by_cases hk2 : k' = 2
        · have f1 : (k' != 2) = false := by simp [hk2]
          have hc2 : c'.len ≠ 2 := by
            rcases hbad with h | h
            · exact absurd hk2 h
            · exact h
          have f2 : ((c'.len : Int) != 2) = true := by simp; omega
          clear hbad hk2 hc2 cw hl lk hd hlies hg hokk hbk
          go_wp2_with fail
          go_ret2
          exact .no HNO.out HB1.out
        · have f1 : (k' != 2) = true := by simp [hk2]
          clear hbad hk2 cw hl lk hd hlies hg hokk hbk
          go_wp2_with fail
          go_ret2
          exact .no HNO.out HB1.out
      · have hk2 : k' = 2 := by omega
        have hc2 : c'.len = 2 := by omega
        obtain ⟨k1, n1, s1, c1, k2, n2, s2, c2, hc⟩ := two_nodes hc2
        have f1 : (k' != 2) = false := by simp [hk2]
        have hcok := hokk.2
        subst hc
        have hn1 : 0 ≤ n1 ∧ n1 < 18446744073709551616 := hcok.1
        obtain ⟨g2, o2, cap2, hv2, hg2, hl2⟩ := lk.lies (by rw [hc2]; omega)
        rw [hc2] at hv2 l3 HB1
        injection hv2 with hva _ hvc
        subst hva hvc
        obtain ⟨⟨kv1, m0, m1, m2, m3, _⟩, hl3⟩ := lies_cons.1 hl2
        obtain ⟨⟨kv2, q0, q1, q2, q3, _⟩, _⟩ := lies_cons.1 hl3
        have hg2lt : g2 < wr.heap.size := Nat.lt_of_lt_of_le (HSS.out g2 hg2) HB.out.size
        have hba := (Below.refl wr.heap.size wr).alloc (Nat.le_refl _) (.cells #[.int .i64 k', .int .u64 n', .string s', .slice (some ⟨g2, o2, none⟩) 2 vc] 76)
        have a0 := cellB hba m0
        have a1 := cellB hba m1
        have b0 := cellB hba q0
        have b2 := cellB hba q2
        by_cases hk1 : k1 = 0
        · by_cases hkk : k2 = 1
          · obtain ⟨W1, hW1⟩ : ∃ W1, W1 = wr.alloc (.cells #[.int .i64 k', .int .u64 n', .string s', .slice (some ⟨g2, o2, none⟩) 2 vc] 76) := ⟨_, rfl⟩
            have hb1 : Below wr.heap.size wr W1 := by rw [hW1]; exact (Below.refl _ _).alloc (Nat.le_refl _) _
            have hz1 : W1.heap[wr.heap.size]? = some (.cells #[.int .i64 k', .int .u64 n', .string s', .slice (some ⟨g2, o2, none⟩) 2 vc] 76 (0, 0)) := by rw [hW1]; exact heap_alloc_new _ _
            obtain ⟨y0, y1, y2, y3, _, _, _, _⟩ := block4 hz1
            have d1 := cellB hb1 m1
            have d2 := cellB hb1 q2
            have HO1 := Lib.hid (HO.out.later hb1)
            have hs1 : W1.heap.size = wr.heap.size + 1 := by rw [hW1]; simp
            have HS1 := Lib.hid hs1
            have g1 : (k1 != 0) = false := by simp [hk1]
            have g3 : (k2 != 1) = false := by simp [hkk]
            have HE1 : Hid (entO k' (.cons k1 n1 s1 c1 (.cons k2 n2 s2 c2 .nil)) = some (n1.toNat, s2)) := Lib.hid (by unfold entO; simp [hk2, hk1, hkk])
            have HT2 : Hid (entsO f = ontoO (l ++ [(n1.toNat, s2)]) (entsO (f.drop (k + 1)))) := Lib.hid (HT.out.trans (ontoO_some _ _ _ _ _ _ _ HE1.out))
            have HB2 : Hid (Below w.heap.size w W1) := Lib.hid (HB.out.trans (hb1.mono HB.out.size))
            have hnn : ((n1.toNat : Nat) : Int) = n1 := by omega
            have HNN := Lib.hid hnn
            clear hk2 hc2 hk1 hkk hbad cw hl lk hd hlies hg hokk hcok hba hb1 hz1 hl2 hl3 hs1 hnn hn1
            go_wp2_with fail
            simp only [← hW1]
            clear hW1 l0 l1 l2 l3 m0 m1 m2 m3 q0 q1 q2 q3 a0 a1 b0 b2
            go_region_law (refine step_appN Try.entSl rfl _ _ (by rfl) w.heap.size _ l.length (entC l) (by rfl) (World.ownsRow.alloc HO1.out _) W1.heap.size 1 1 [.int .u64 n1, .string s2] (by rfl) (heap_at_alloc W1 _) rfl (by simp [Value.oneCell']) (by omega) (by have := HLL.out; unfold maxLen; omega) (by have := HLL.out; omega) (by have := HB2.out.size; simp [World.drew]; omega) ?_; intro g3' cap3 w3 hown3 hgr3)
            all_goals
              (have HO3 : Hid (EOwn w3 w.heap.size (.slice (some ⟨g3', 0, none⟩) (l.length + 1) cap3) (l ++ [(n1.toNat, s2)])) := Lib.hid (by
                 unfold EOwn
                 rw [List.length_append, entC_append]
                 have e : entC [(n1.toNat, s2)] = [.int .u64 n1, .string s2] := by simp only [entC, List.flatMap_cons, List.flatMap_nil, HNN.out]; rfl
                 rw [e]
                 exact hown3)
               have HB3 := Lib.hid (HB2.out.trans (((Below.refl w.heap.size W1).alloc HB2.out.size (.cells #[.int .u64 n1, .string s2] 60)).drew.trans (hgr3.below (by have := HB2.out.size; simp [World.drew]; omega) (ownN_low HO1.out))))
               have HLEN : Hid ((l ++ [(n1.toNat, s2)]).length = k + 1) := Lib.hid (by rw [List.length_append, HLL.out]; rfl)
               clear hown3 hgr3 y0 y1 y2 y3 d1 d2
               go_wp2_with fail
               go_roundw
               case rel => exact ⟨k + 1, _, by omega, by go_num, HLEN, HO3, HT2, HB3⟩
               case measure => simp [intOf]; omega)
          · have g1 : (k1 != 0) = false := by simp [hk1]
            have g3 : (k2 != 1) = true := by simp [hkk]
            have HNO : Hid (entsO f = none) := Lib.hid (HT.out.trans (ontoO_none _ _ _ _ _ _ (by unfold entO; simp [hkk])))
            clear hk2 hc2 hk1 hkk hbad cw hl lk hd hlies hg hokk hcok hba hl2 hl3
            go_wp2_with fail
            go_ret2
            exact .no HNO.out HB1.out
        · have g1 : (k1 != 0) = true := by simp [hk1]
          have HNO : Hid (entsO f = none) := Lib.hid (HT.out.trans (ontoO_none _ _ _ _ _ _ (by unfold entO; simp [hk1])))
          clear hk2 hc2 hk1 hbad cw hl lk hd hlies hg hokk hcok hba hl2 hl3
          go_wp2_with fail
          go_ret2
          exact .no HNO.out HB1.out
    · have hke : k = n := by omega
      subst hke
      have hkI : ¬ (k : Int) < (k : Int) := by omega
      have HEND : Hid (entsO f = some l) := Lib.hid (by rw [HT.out]; have := F.drop_end f; rw [HN.out] at this; rw [this]; simp [ontoO, entsO])
      go_wp2_with fail
      go_ret2
      exact .yes HEND.out HO.out HB.out
end Go.Proofs.Ytgdlnjhbencjkaa
