/- Maps as trees of one shape: what is put, taken away, asked; the pure part. -/
import Derived.Test.YtohcackebmmikaaDoorIWith
namespace Go.Proofs.YtohcackebmmikaaDoor
open Go.Op


/-- A pair. -/
abbrev Pr := ByteArray × ByteArray

theorem ks_inj {a b : ByteArray} (h : ks a = ks b) : a = b := ByteArray.ext (Array.toList_inj.1 h)
theorem ks_length (a : ByteArray) : (ks a).length = a.size := by simp
theorem firstB_size (k : ByteArray) (n : Nat) : (firstB k n).size = k.size := by rw [firstB, mk_size, firstL_length, ks_length]
theorem ks_firstB (k : ByteArray) (n : Nat) : ks (firstB k n) = firstL (ks k) n := by simp [ks, firstB]
theorem firstB_bit (k : ByteArray) (n i : Nat) : bitL (ks (firstB k n)) i = (decide (i < n) && bitL (ks k) i) := by rw [ks_firstB, firstL_bit]
theorem firstB_eq (a b : ByteArray) (n : Nat) (hl : a.size = b.size) (h : ∀ i, i < n → bitL (ks a) i = bitL (ks b) i) : firstB a n = firstB b n := by
  unfold firstB; rw [firstL_eq (ks a) (ks b) n (by rw [ks_length, ks_length, hl]) h]

theorem bytesLess_eq : ∀ (a b : List UInt8), bytesLess a b = decide (a < b)
  | _, [] => by simp [bytesLess]
  | [], _ :: _ => by simp [bytesLess]
  | x :: a, y :: b => by
    rw [bytesLess, bytesLess_eq a b, Bool.eq_iff_iff]
    simp only [Bool.or_eq_true, decide_eq_true_eq, Bool.and_eq_true, beq_iff_eq, List.cons_lt_cons_iff]
/-- At or ahead of a key. -/
def leK (a b : ByteArray) : Bool := bytesLess (ks a) (ks b) || (ks a == ks b)
theorem leK_self (a : ByteArray) : leK a a = true := by simp [leK]
theorem leK_eq (a b : ByteArray) : leK a b = decide (ks a ≤ ks b) := by
  unfold leK
  rw [bytesLess_eq, Bool.eq_iff_iff]
  simp only [Bool.or_eq_true, decide_eq_true_eq, beq_iff_eq]
  constructor
  · rintro (h | h)
    · exact List.le_of_lt h
    · rw [h]; exact List.le_refl _
  · intro h
    rcases Decidable.em (ks a = ks b) with h1 | h1
    · exact .inr h1
    · exact .inl (Std.lt_of_le_of_ne h h1)
theorem leK_false (a b : ByteArray) : leK a b = false ↔ ks b < ks a := by
  rw [leK_eq, decide_eq_false_iff_not, List.not_le]

/-- Strictly ahead. -/
def ltK (a b : ByteArray) : Prop := ks a < ks b
theorem ltK_le {a b : ByteArray} (h : ltK a b) : leK a b = true := by rw [leK_eq]; exact decide_eq_true (List.le_of_lt h)
theorem ltK_ne {a b : ByteArray} (h : ltK a b) : a ≠ b := fun e => by subst e; exact List.lt_irrefl _ h
theorem ltK_nle {a b : ByteArray} (h : ltK a b) : leK b a = false := (leK_false _ _).2 h
theorem ltK_of_bit {a b : ByteArray} (n : Nat) (ha : a.size = 32) (hb : b.size = 32) (hn : n < 256) (hs : ∀ i, i < n → bitL (ks a) i = bitL (ks b) i) (h0 : bitL (ks a) n = false) (h1 : bitL (ks b) n = true) : ltK a b :=
  lt_of_bit _ _ n (by rw [ks_length, ks_length, ha, hb]) (by rw [ks_length, ha]; omega) hs h0 h1

/-- With a value at a key, as the document's list. -/
def putL (k v : ByteArray) : List Pr → List Pr
  | [] => [(k, v)]
  | x :: r => if leK k x.1 then (k, v) :: (x :: r).filter (fun y => decide (y.1 ≠ k)) else x :: putL k v r
/-- Without a key. -/
def delL (k : ByteArray) (l : List Pr) : List Pr := l.filter (fun y => decide (y.1 ≠ k))
/-- The value of a key. -/
def getL (k : ByteArray) : List Pr → Option ByteArray
  | [] => none
  | x :: r => if x.1 = k then some x.2 else getL k r
/-- Has a key the first n bits of l? -/
def hasL (a l : List UInt8) (n : Nat) : Bool := (List.range n).all fun i => bitL a i == bitL l i
def underL (l : List UInt8) (n : Nat) (L : List Pr) : List Pr := L.filter fun y => hasL (ks y.1) l n

theorem hasL_iff (a l : List UInt8) (n : Nat) : hasL a l n = true ↔ ∀ i, i < n → bitL a i = bitL l i := by
  simp [hasL]
theorem filter_ne (k : ByteArray) (B : List Pr) (h : ∀ x ∈ B, x.1 ≠ k) : B.filter (fun y => decide (y.1 ≠ k)) = B := by
  rw [List.filter_eq_self]; intro x hx; simpa using h x hx
theorem putL_lt (k v : ByteArray) : ∀ (A B : List Pr), (∀ x ∈ A, leK k x.1 = false) → putL k v (A ++ B) = A ++ putL k v B
  | [], _, _ => rfl
  | x :: A, B, h => by
    have h1 := h x (List.mem_cons_self ..)
    rw [List.cons_append, putL, h1, List.cons_append, putL_lt k v A B (fun y hy => h y (List.mem_cons_of_mem _ hy))]
    rfl
theorem putL_gt (k v : ByteArray) : ∀ (A B : List Pr), (∀ x ∈ B, ltK k x.1) → putL k v (A ++ B) = putL k v A ++ B
  | [], [], _ => rfl
  | [], y :: B, h => by
    have h1 := ltK_le (h y (List.mem_cons_self ..))
    have h2 := filter_ne k (y :: B) (fun x hx => (ltK_ne (h x hx)).symm)
    show putL k v (y :: B) = (k, v) :: (y :: B)
    rw [putL, h1, h2]; rfl
  | x :: A, B, h => by
    have h2 := filter_ne k B (fun x hx => (ltK_ne (h x hx)).symm)
    rw [List.cons_append, putL, putL]
    split
    · rw [← List.cons_append, List.filter_append, h2]; rfl
    · rw [putL_gt k v A B h]; rfl
theorem delL_append (k : ByteArray) (A B : List Pr) : delL k (A ++ B) = delL k A ++ delL k B := List.filter_append ..
theorem getL_append (k : ByteArray) : ∀ (A B : List Pr), getL k (A ++ B) = (getL k A).or (getL k B)
  | [], _ => rfl
  | x :: A, B => by
    rw [List.cons_append, getL, getL]
    split
    · rfl
    · exact getL_append k A B
theorem getL_none (k : ByteArray) : ∀ (A : List Pr), (∀ x ∈ A, x.1 ≠ k) → getL k A = none
  | [], _ => rfl
  | x :: A, h => by rw [getL, if_neg (h x (List.mem_cons_self ..)), getL_none k A (fun y hy => h y (List.mem_cons_of_mem _ hy))]
theorem getL_some (k v : ByteArray) : ∀ (A : List Pr), getL k A = some v → (k, v) ∈ A
  | [], h => by cases h
  | x :: A, h => by
    rw [getL] at h
    split at h
    · rename_i e
      obtain rfl : x.2 = v := by simpa using h
      rw [← e]; exact List.mem_cons_self ..
    · exact List.mem_cons_of_mem _ (getL_some k v A h)

/-- The pairs of a tree. -/
def Tr.pairs : Tr → List Pr
  | .leaf k v => [(k, v)]
  | .fork _ _ z o => z.pairs ++ o.pairs
/-- A tree as it ought to be. -/
def Tr.wf : Tr → Prop
  | .leaf k v => k.size = 32 ∧ v.size ≤ 100
  | .fork p k z o => p < 256 ∧ p < z.span ∧ p < o.span ∧ k = firstB z.key p ∧ k = firstB o.key p ∧ bitL (ks z.key) p = false ∧ bitL (ks o.key) p = true ∧ z.wf ∧ o.wf
theorem Tr.wf_key : ∀ {t : Tr}, t.wf → t.key.size = 32
  | .leaf _ _, h => h.1
  | .fork _ _ _ _, ⟨_, _, _, e, _, _, _, hz, _⟩ => by rw [Tr.key, e, firstB_size]; exact Tr.wf_key hz
theorem Tr.wf_span : ∀ {t : Tr}, t.wf → t.span ≤ 256
  | .leaf _ _, _ => Nat.le_refl _
  | .fork _ _ _ _, h => Nat.le_of_lt h.1
theorem Tr.wf_sz : ∀ {t : Tr}, t.wf → t.sz
  | .leaf _ _, h => h
  | .fork _ _ _ _, h => ⟨h.1, Tr.wf_key (t := .fork _ _ _ _) h, Tr.wf_sz h.2.2.2.2.2.2.2.1, Tr.wf_sz h.2.2.2.2.2.2.2.2⟩
theorem Tr.wf_asc : ∀ {t : Tr}, t.wf → t.asc
  | .leaf _ _, _ => trivial
  | .fork _ _ _ _, h => ⟨h.2.1, h.2.2.1, Tr.wf_asc h.2.2.2.2.2.2.2.1, Tr.wf_asc h.2.2.2.2.2.2.2.2⟩

theorem Tr.pairs_ok : ∀ {t : Tr}, t.wf → ∀ x ∈ t.pairs, x.1.size = 32 ∧ x.2.size ≤ 100 ∧ ∀ i, i < t.span → bitL (ks x.1) i = bitL (ks t.key) i
  | .leaf k v, h, x, hx => by
    simp only [Tr.pairs, List.mem_singleton] at hx
    subst hx
    exact ⟨h.1, h.2, fun _ _ => rfl⟩
  | .fork p k z o, ⟨hp, hpz, hpo, ez, eo, bz, bo, hz, ho⟩, x, hx => by
    simp only [Tr.pairs, List.mem_append] at hx
    rcases hx with hx | hx
    · obtain ⟨h1, h2, h3⟩ := Tr.pairs_ok hz x hx
      refine ⟨h1, h2, fun i hi => ?_⟩
      simp only [Tr.span] at hi
      rw [h3 i (by omega), Tr.key, ez, firstB_bit]; simp [hi]
    · obtain ⟨h1, h2, h3⟩ := Tr.pairs_ok ho x hx
      refine ⟨h1, h2, fun i hi => ?_⟩
      simp only [Tr.span] at hi
      rw [h3 i (by omega), Tr.key, eo, firstB_bit]; simp [hi]
theorem Tr.pairs_ne : ∀ (t : Tr), t.pairs ≠ []
  | .leaf _ _ => by simp [Tr.pairs]
  | .fork _ _ z _ => by simp [Tr.pairs, Tr.pairs_ne z]
theorem side_z {p : Nat} {k : ByteArray} {z o : Tr} (h : (Tr.fork p k z o).wf) : ∀ x ∈ z.pairs, bitL (ks x.1) p = false := fun x hx => by
  rw [(Tr.pairs_ok h.2.2.2.2.2.2.2.1 x hx).2.2 p h.2.1]; exact h.2.2.2.2.2.1
theorem side_o {p : Nat} {k : ByteArray} {z o : Tr} (h : (Tr.fork p k z o).wf) : ∀ x ∈ o.pairs, bitL (ks x.1) p = true := fun x hx => by
  rw [(Tr.pairs_ok h.2.2.2.2.2.2.2.2 x hx).2.2 p h.2.2.1]; exact h.2.2.2.2.2.2.1
theorem side_ne_z {p : Nat} {k : ByteArray} {z o : Tr} (h : (Tr.fork p k z o).wf) {a : ByteArray} (ha : bitL (ks a) p = true) : ∀ x ∈ z.pairs, x.1 ≠ a := fun x hx e => by
  have := side_z h x hx; rw [e, ha] at this; cases this
theorem side_ne_o {p : Nat} {k : ByteArray} {z o : Tr} (h : (Tr.fork p k z o).wf) {a : ByteArray} (ha : bitL (ks a) p = false) : ∀ x ∈ o.pairs, x.1 ≠ a := fun x hx e => by
  have := side_o h x hx; rw [e, ha] at this; cases this

/-- All ahead of all. -/
theorem side_lt {p : Nat} {k : ByteArray} {z o : Tr} (h : (Tr.fork p k z o).wf) {a b : Pr} (ha : a ∈ z.pairs) (hb : b ∈ o.pairs) : ltK a.1 b.1 := by
  have ha' := Tr.pairs_ok h a (List.mem_append_left _ ha)
  have hb' := Tr.pairs_ok h b (List.mem_append_right _ hb)
  refine ltK_of_bit p ha'.1 hb'.1 h.1 (fun i hi => ?_) (side_z h a ha) (side_o h b hb)
  rw [ha'.2.2 i hi, hb'.2.2 i hi]
theorem Tr.sorted : ∀ {t : Tr}, t.wf → t.pairs.Pairwise (fun a b => ltK a.1 b.1)
  | .leaf _ _, _ => List.pairwise_singleton ..
  | .fork _ _ _ _, h => List.pairwise_append.2 ⟨Tr.sorted h.2.2.2.2.2.2.2.1, Tr.sorted h.2.2.2.2.2.2.2.2, fun _ ha _ hb => side_lt h ha hb⟩

/-- With a leaf. -/
def withT (k v : ByteArray) : Tr → Tr
  | .leaf k' v' => if comL (ks k') (ks k) < 256 then joinT (comL (ks k') (ks k)) (.leaf k' v') (.leaf k v) else .leaf k v
  | .fork p k' z o => if comL (ks k') (ks k) < p then joinT (comL (ks k') (ks k)) (.fork p k' z o) (.leaf k v) else
      if bitL (ks k) p then .fork p k' z (withT k v o) else .fork p k' (withT k v z) o

theorem join_wf {t u : Tr} {c : Nat} (ht : t.wf) (hu : u.wf) (h1 : c < t.span) (h2 : c < u.span) (hs : ∀ i, i < c → bitL (ks t.key) i = bitL (ks u.key) i) (hd : bitL (ks t.key) c ≠ bitL (ks u.key) c) :
    (joinT c t u).wf ∧ (joinT c t u).span = c ∧ ∀ i, i < c → bitL (ks (joinT c t u).key) i = bitL (ks t.key) i := by
  have e := firstB_eq t.key u.key c (by rw [Tr.wf_key ht, Tr.wf_key hu]) hs
  have hc : c < 256 := Nat.lt_of_lt_of_le h1 (Tr.wf_span ht)
  unfold joinT
  cases hb : bitL (ks t.key) c with
  | true =>
    rw [if_pos rfl]
    have hb2 : bitL (ks u.key) c = false := by rw [hb] at hd; simpa using hd.symm
    exact ⟨⟨hc, h2, h1, rfl, e.symm, hb2, hb, hu, ht⟩, rfl, fun i hi => by rw [Tr.key, ← e, firstB_bit]; simp [hi]⟩
  | false =>
    rw [if_neg (by simp)]
    have hb2 : bitL (ks u.key) c = true := by rw [hb] at hd; simpa using hd.symm
    exact ⟨⟨hc, h1, h2, rfl, e, hb, hb2, ht, hu⟩, rfl, fun i hi => by rw [Tr.key, firstB_bit]; simp [hi]⟩
theorem join_pairs {t : Tr} {k v : ByteArray} {c : Nat} (ht : t.wf) (hk : k.size = 32) (h1 : c < t.span) (hs : ∀ i, i < c → bitL (ks t.key) i = bitL (ks k) i) (hd : bitL (ks t.key) c ≠ bitL (ks k) c) :
    (joinT c t (.leaf k v)).pairs = putL k v t.pairs ∧ ∀ x ∈ t.pairs, x.1 ≠ k := by
  have hc : c < 256 := Nat.lt_of_lt_of_le h1 (Tr.wf_span ht)
  unfold joinT
  cases hb : bitL (ks t.key) c with
  | true =>
    rw [if_pos rfl]
    have hb2 : bitL (ks k) c = false := by rw [hb] at hd; simpa using hd.symm
    have hlt : ∀ x ∈ t.pairs, ltK k x.1 := fun x hx => by
      obtain ⟨g1, _, g3⟩ := Tr.pairs_ok ht x hx
      refine ltK_of_bit c hk g1 hc (fun i hi => ?_) hb2 (by rw [g3 c h1, hb])
      rw [g3 i (by omega), hs i hi]
    refine ⟨?_, fun x hx e => ltK_ne (hlt x hx) e.symm⟩
    have := putL_gt k v [] t.pairs hlt
    rw [List.nil_append] at this
    rw [this]; rfl
  | false =>
    rw [if_neg (by simp)]
    have hb2 : bitL (ks k) c = true := by rw [hb] at hd; simpa using hd.symm
    have hlt : ∀ x ∈ t.pairs, ltK x.1 k := fun x hx => by
      obtain ⟨g1, _, g3⟩ := Tr.pairs_ok ht x hx
      refine ltK_of_bit c g1 hk hc (fun i hi => ?_) (by rw [g3 c h1, hb]) hb2
      rw [g3 i (by omega), hs i hi]
    refine ⟨?_, fun x hx => ltK_ne (hlt x hx)⟩
    have := putL_lt k v t.pairs [] (fun x hx => ltK_nle (hlt x hx))
    rw [List.append_nil] at this
    rw [this]; rfl

theorem com_same {a b : ByteArray} (_ : a.size = b.size) : ∀ i, i < comL (ks a) (ks b) → bitL (ks a) i = bitL (ks b) i := comL_same _ _
theorem with_ok (k v : ByteArray) (hk : k.size = 32) (hv : v.size ≤ 100) : ∀ t : Tr, t.wf →
    (withT k v t).wf ∧ (withT k v t).pairs = putL k v t.pairs ∧
    ∀ n, n ≤ t.span → (∀ i, i < n → bitL (ks k) i = bitL (ks t.key) i) → n ≤ (withT k v t).span ∧ ∀ i, i < n → bitL (ks (withT k v t).key) i = bitL (ks t.key) i
  | .leaf k' v', h => by
    have hk' : k'.size = 32 := h.1
    have hl : (ks k').length = (ks k).length := by rw [ks_length, ks_length, hk, hk']
    have h8 : 8 * (ks k').length = 256 := by rw [ks_length, hk']
    unfold withT
    obtain ⟨c, hc⟩ : ∃ c, c = comL (ks k') (ks k) := ⟨_, rfl⟩
    rw [← hc]
    have hsame : ∀ i, i < c → bitL (ks k') i = bitL (ks k) i := by rw [hc]; exact comL_same _ _
    split
    · rename_i hlt
      have hd : bitL (ks k') c ≠ bitL (ks k) c := by rw [hc]; exact comL_diff _ _ hl (by omega)
      obtain ⟨g1, g2, g3⟩ := join_wf (t := .leaf k' v') (u := .leaf k v) h ⟨hk, hv⟩ hlt hlt hsame hd
      refine ⟨g1, (join_pairs (v := v) h hk hlt hsame hd).1, fun n hn hs => ?_⟩
      have hge : n ≤ c := by
        rw [hc]
        exact comL_ge _ _ n hl (by rw [h8]; exact hn) (fun i hi => (hs i hi).symm)
      exact ⟨by rw [g2]; exact hge, fun i hi => g3 i (by omega)⟩
    · rename_i hge
      have e : k' = k := ks_inj (comL_eq _ _ hl (by rw [← hc, h8]; have := (comL_le (ks k') (ks k)).1; omega))
      subst e
      refine ⟨⟨hk, hv⟩, ?_, fun n hn _ => ⟨hn, fun _ _ => rfl⟩⟩
      simp [Tr.pairs, putL, leK_self]
  | .fork p k' z o, h => by
    have hw := h
    have hk' : k'.size = 32 := Tr.wf_key h
    have hl : (ks k').length = (ks k).length := by rw [ks_length, ks_length, hk, hk']
    have h8 : 8 * (ks k').length = 256 := by rw [ks_length, hk']
    obtain ⟨hp, hpz, hpo, ez, eo, bz, bo, hz, ho⟩ := h
    unfold withT
    obtain ⟨c, hc⟩ : ∃ c, c = comL (ks k') (ks k) := ⟨_, rfl⟩
    rw [← hc]
    have hsame : ∀ i, i < c → bitL (ks k') i = bitL (ks k) i := by rw [hc]; exact comL_same _ _
    split
    · rename_i hlt
      have hd : bitL (ks k') c ≠ bitL (ks k) c := by rw [hc]; exact comL_diff _ _ hl (by omega)
      obtain ⟨g1, g2, g3⟩ := join_wf (t := .fork p k' z o) (u := .leaf k v) hw ⟨hk, hv⟩ hlt (by show c < 256; omega) hsame hd
      refine ⟨g1, (join_pairs (v := v) hw hk hlt hsame hd).1, fun n hn hs => ?_⟩
      have hn' : n ≤ p := hn
      have hge : n ≤ c := by
        rw [hc]
        exact comL_ge _ _ n hl (by rw [h8]; omega) (fun i hi => (hs i hi).symm)
      exact ⟨by rw [g2]; exact hge, fun i hi => g3 i (by omega)⟩
    · rename_i hge
      cases hb : bitL (ks k) p with
      | true =>
        rw [if_pos rfl]
        obtain ⟨i1, i2, i3⟩ := with_ok k v hk hv o ho
        obtain ⟨j1, j2⟩ := i3 (p + 1) (by omega) (fun i hi => by
          by_cases h1 : i < p
          · rw [← hsame i (by omega), eo, firstB_bit]; simp [h1]
          · rw [show i = p by omega, hb, bo])
        refine ⟨⟨hp, hpz, by omega, ez, ?_, bz, by rw [j2 p (by omega)]; exact bo, hz, i1⟩, ?_, fun n hn _ => ⟨hn, fun _ _ => rfl⟩⟩
        · rw [eo]; exact firstB_eq _ _ p (by rw [Tr.wf_key ho, Tr.wf_key i1]) (fun i hi => (j2 i (by omega)).symm)
        · rw [Tr.pairs, i2, Tr.pairs]
          refine (putL_lt k v z.pairs o.pairs (fun x hx => ltK_nle ?_)).symm
          have g := Tr.pairs_ok hw x (List.mem_append_left _ hx)
          refine ltK_of_bit p g.1 hk hp (fun i hi => ?_) (side_z hw x hx) hb
          rw [g.2.2 i hi]; exact hsame i (by omega)
      | false =>
        rw [if_neg (by simp)]
        obtain ⟨i1, i2, i3⟩ := with_ok k v hk hv z hz
        obtain ⟨j1, j2⟩ := i3 (p + 1) (by omega) (fun i hi => by
          by_cases h1 : i < p
          · rw [← hsame i (by omega), ez, firstB_bit]; simp [h1]
          · rw [show i = p by omega, hb, bz])
        refine ⟨⟨hp, by omega, hpo, ?_, eo, by rw [j2 p (by omega)]; exact bz, bo, i1, ho⟩, ?_, fun n hn _ => ⟨hn, fun _ _ => rfl⟩⟩
        · rw [ez]; exact firstB_eq _ _ p (by rw [Tr.wf_key hz, Tr.wf_key i1]) (fun i hi => (j2 i (by omega)).symm)
        · rw [Tr.pairs, i2, Tr.pairs]
          refine (putL_gt k v z.pairs o.pairs (fun x hx => ?_)).symm
          have g := Tr.pairs_ok hw x (List.mem_append_right _ hx)
          refine ltK_of_bit p hk g.1 hp (fun i hi => ?_) hb (side_o hw x hx)
          rw [g.2.2 i hi]; exact (hsame i (by omega)).symm

/-- Without a key that the tree has. -/
def withoutT (l : List UInt8) : Tr → Option Tr
  | .leaf _ _ => none
  | .fork p k z o => if bitL l p then (match withoutT l o with | none => some z | some o' => some (.fork p k z o')) else
      (match withoutT l z with | none => some o | some z' => some (.fork p k z' o))
theorem delL_ne (k : ByteArray) (B : List Pr) (h : ∀ x ∈ B, x.1 ≠ k) : delL k B = B := filter_ne k B h
theorem without_ok (k : ByteArray) : ∀ t : Tr, t.wf → (∃ x ∈ t.pairs, x.1 = k) → (withoutT (ks k) t = none ∧ delL k t.pairs = []) ∨
    ∃ t', withoutT (ks k) t = some t' ∧ t'.wf ∧ t'.pairs = delL k t.pairs ∧ t.span ≤ t'.span ∧ ∀ i, i < t.span → bitL (ks t'.key) i = bitL (ks t.key) i
  | .leaf k' v', _, ⟨x, hx, e⟩ => by
    simp only [Tr.pairs, List.mem_singleton] at hx
    subst hx
    exact .inl ⟨rfl, by simp [Tr.pairs, delL, ← e]⟩
  | .fork p k' z o, h, ⟨x, hx, e⟩ => by
    have hw := h
    obtain ⟨hp, hpz, hpo, ez, eo, bz, bo, hz, ho⟩ := h
    refine .inr ?_
    simp only [Tr.pairs, List.mem_append] at hx
    rcases hx with hx | hx
    · have hb : bitL (ks k) p = false := by rw [← e]; exact side_z hw x hx
      have hd : delL k (Tr.fork p k' z o).pairs = delL k z.pairs ++ o.pairs := by
        rw [Tr.pairs, delL_append, delL_ne k o.pairs (side_ne_o hw hb)]
      rw [hd]
      unfold withoutT
      rw [hb, if_neg (by simp)]
      rcases without_ok k z hz ⟨x, hx, e⟩ with ⟨g1, g2⟩ | ⟨z', g1, g2, g3, g4, g5⟩
      · rw [g1, g2]
        exact ⟨o, rfl, ho, rfl, Nat.le_of_lt hpo, fun i hi => by rw [Tr.key, eo, firstB_bit]; simp [show i < p from hi]⟩
      · rw [g1]
        refine ⟨_, rfl, ⟨hp, by omega, hpo, ?_, eo, by rw [g5 p (by omega)]; exact bz, bo, g2, ho⟩, by rw [Tr.pairs, g3], Nat.le_refl _, fun _ _ => rfl⟩
        rw [ez]; exact firstB_eq _ _ p (by rw [Tr.wf_key hz, Tr.wf_key g2]) (fun i hi => (g5 i (by omega)).symm)
    · have hb : bitL (ks k) p = true := by rw [← e]; exact side_o hw x hx
      have hd : delL k (Tr.fork p k' z o).pairs = z.pairs ++ delL k o.pairs := by
        rw [Tr.pairs, delL_append, delL_ne k z.pairs (side_ne_z hw hb)]
      rw [hd]
      unfold withoutT
      rw [hb, if_pos rfl]
      rcases without_ok k o ho ⟨x, hx, e⟩ with ⟨g1, g2⟩ | ⟨o', g1, g2, g3, g4, g5⟩
      · rw [g1, g2, List.append_nil]
        exact ⟨z, rfl, hz, rfl, Nat.le_of_lt hpz, fun i hi => by rw [Tr.key, ez, firstB_bit]; simp [show i < p from hi]⟩
      · rw [g1]
        refine ⟨_, rfl, ⟨hp, hpz, by omega, ez, ?_, bz, by rw [g5 p (by omega)]; exact bo, hz, g2⟩, by rw [Tr.pairs, g3], Nat.le_refl _, fun _ _ => rfl⟩
        rw [eo]; exact firstB_eq _ _ p (by rw [Tr.wf_key ho, Tr.wf_key g2]) (fun i hi => (g5 i (by omega)).symm)

theorem tow_wf (n : Nat) (l : List UInt8) : ∀ t : Tr, t.wf → (towT n l t).wf
  | .leaf _ _, h => h
  | .fork _ _ z o, h => by
    unfold towT
    split
    · split
      · exact tow_wf n l o h.2.2.2.2.2.2.2.2
      · exact tow_wf n l z h.2.2.2.2.2.2.2.1
    · exact h
theorem get_ok (k : ByteArray) : ∀ t : Tr, t.wf → ∃ k' v', towT 256 (ks k) t = .leaf k' v' ∧ getL k t.pairs = if k' = k then some v' else none
  | .leaf k' v', _ => ⟨k', v', rfl, by simp [Tr.pairs, getL]⟩
  | .fork p k' z o, h => by
    unfold towT
    rw [if_pos h.1, Tr.pairs, getL_append]
    cases hb : bitL (ks k) p with
    | true =>
      rw [if_pos rfl, getL_none k z.pairs (side_ne_z h hb)]
      exact get_ok k o h.2.2.2.2.2.2.2.2
    | false =>
      rw [if_neg (by simp), getL_none k o.pairs (side_ne_o h hb), Option.or_none]
      exact get_ok k z h.2.2.2.2.2.2.2.1
theorem underL_append (l : List UInt8) (n : Nat) (A B : List Pr) : underL l n (A ++ B) = underL l n A ++ underL l n B := List.filter_append ..
theorem underL_nil (l : List UInt8) (n p : Nat) (b : Bool) (hp : p < n) (A : List Pr) (h : ∀ x ∈ A, bitL (ks x.1) p = b) (hb : bitL l p = !b) : underL l n A = [] := by
  unfold underL
  rw [List.filter_eq_nil_iff]
  intro x hx h1
  have := (hasL_iff _ _ _).1 h1 p hp
  rw [h x hx, hb] at this
  cases b <;> cases this
theorem under_ok (k : ByteArray) (hk : k.size = 32) (n : Nat) (hn : n ≤ 256) : ∀ t : Tr, t.wf →
    underL (ks k) n t.pairs = if comL (ks (towT n (ks k) t).key) (ks k) < n then [] else (towT n (ks k) t).pairs := by
  have top : ∀ t : Tr, t.wf → n ≤ t.span → underL (ks k) n t.pairs = if comL (ks t.key) (ks k) < n then [] else t.pairs := fun t h hs => by
    have hl : (ks t.key).length = (ks k).length := by rw [ks_length, ks_length, hk, Tr.wf_key h]
    have h8 : 8 * (ks t.key).length = 256 := by rw [ks_length, Tr.wf_key h]
    split
    · rename_i hlt
      have hd := comL_diff _ _ hl (by omega)
      unfold underL
      rw [List.filter_eq_nil_iff]
      intro x hx h1
      have g := (hasL_iff _ _ _).1 h1 _ hlt
      rw [(Tr.pairs_ok h x hx).2.2 _ (by omega)] at g
      exact hd g
    · rename_i hge
      unfold underL
      rw [List.filter_eq_self]
      intro x hx
      refine (hasL_iff _ _ _).2 fun i hi => ?_
      rw [(Tr.pairs_ok h x hx).2.2 i (by omega)]
      exact comL_same _ _ i (by omega)
  intro t h
  induction t with
  | leaf k' v' => exact top _ h hn
  | fork p k' z o iz io =>
    unfold towT
    split
    · rename_i hp
      rw [Tr.pairs, underL_append]
      cases hb : bitL (ks k) p with
      | true =>
        rw [if_pos rfl, underL_nil (ks k) n p false hp z.pairs (side_z h) hb, List.nil_append]
        exact io h.2.2.2.2.2.2.2.2
      | false =>
        rw [if_neg (show ¬ (false = true) by simp), underL_nil (ks k) n p true hp o.pairs (side_o h) hb, List.append_nil]
        exact iz h.2.2.2.2.2.2.2.1
    · rename_i hp
      exact top _ h (by show n ≤ p; omega)
end Go.Proofs.YtohcackebmmikaaDoor
