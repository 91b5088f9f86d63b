/- What is known of a part, put and taken away, goes with the map; the pure part. -/
import Derived.Test.YtmpjpaomgifpcaaGreatDoorPTop
import Derived.Test.YtmpjpaomgifpcaaGreatDoorPShow2
namespace Go.Proofs.YtmpjpaomgifpcaaGreatDoor
open Go.Op

theorem has_key (a k : ByteArray) (ha : a.size = 32) (hk : k.size = 32) : hasL (ks a) (ks k) 256 = decide (a = k) := by
  rw [Bool.eq_iff_iff, hasL_iff, decide_eq_true_eq]
  constructor
  · intro h
    exact ks_inj (bits_ext _ _ (by rw [ks_length, ks_length, ha, hk]) (fun i hi => h i (by rw [ks_length, ha] at hi; omega)))
  · intro h i _; rw [h]
theorem filter_key (k : ByteArray) : ∀ l : List Pr, l.Pairwise (fun a b => ltK a.1 b.1) → l.filter (fun y => decide (y.1 = k)) = (match getL k l with | none => [] | some v => [(k, v)])
  | [], _ => rfl
  | x :: r, h => by
    obtain ⟨h1, h2⟩ := List.pairwise_cons.1 h
    rw [List.filter_cons, getL]
    by_cases e : x.1 = k
    · rw [if_pos (by simpa using e), if_pos e]
      have : r.filter (fun y => decide (y.1 = k)) = [] := by
        rw [List.filter_eq_nil_iff]
        intro y hy h3
        exact ltK_ne (h1 y hy) (by rw [e]; exact (of_decide_eq_true h3).symm)
      rw [this]
      obtain ⟨x1, x2⟩ := x
      simp only at e
      subst e; rfl
    · rw [if_neg (by simpa using e), if_neg e]
      exact filter_key k r h2
theorem under_key (k : ByteArray) (hk : k.size = 32) (m : Option Tr) (hm : MT.wf m) : underL (ks k) 256 (MT.pairs m) = (match getL k (MT.pairs m) with | none => [] | some v => [(k, v)]) := by
  rw [← filter_key k _ (MT.sorted hm)]
  unfold underL
  apply List.filter_congr
  intro x hx
  refine has_key x.1 k ?_ hk
  match m, hm, hx with
  | some t, hm, hx => exact (Tr.pairs_ok hm x hx).1
theorem und_sound {x : Option PT} {m : Option Tr} (h : PruneM x m) (hm : MT.wf m) (k : ByteArray) (n : Int) {a : List Pr} (ha : MP.und k n x = some a) : a = undL k n (MT.pairs m) := by
  unfold undL
  match x, m, h with
  | none, none, _ =>
    obtain rfl : [] = a := by simpa [MP.und] using ha
    split <;> rfl
  | some x, some t, h =>
    cases hr : rightB k n with
    | true =>
      rw [und_right hr] at ha
      have hh := of_decide_eq_true hr
      rw [if_pos hh]
      exact prune_und k hh.1 n.toNat (by omega) x t a h hm ha
    | false =>
      rw [und_wrong hr] at ha
      rw [if_neg (of_decide_eq_false hr)]
      simpa using ha.symm
theorem get_sound {x : Option PT} {m : Option Tr} (h : PruneM x m) (hm : MT.wf m) (k : ByteArray) (hk : k.size = 32) {a : List Pr} (ha : MP.und k 256 x = some a) : a = (match getL k (MT.pairs m) with | none => [] | some v => [(k, v)]) := by
  rw [und_sound h hm k 256 ha]
  unfold undL
  rw [if_pos ⟨hk, by decide, by decide⟩]
  exact under_key k hk m hm
theorem gtV_sound {x : Option PT} {m : Option Tr} (h : PruneM x m) (hm : MT.wf m) (k : ByteArray) (hk : k.size = 32) (hn : MP.und k 256 x ≠ none) :
    gtV (MP.und k 256 x) = .tuple #[.string ((getL k (MT.pairs m)).getD ⟨#[]⟩), .bool (getL k (MT.pairs m)).isSome, .bool true] := by
  cases ha : MP.und k 256 x with
  | none => exact absurd ha hn
  | some a =>
    rw [get_sound h hm k hk ha]
    cases getL k (MT.pairs m) <;> rfl
theorem put_sound {x y : Option PT} {m : Option Tr} (h : PruneM x m) (hm : MT.wf m) (k v : ByteArray) (hp : putO k v x = some y) : PruneM y (MT.put k v m) ∧ k.size = 32 := by
  unfold putO at hp
  by_cases hk : k.size = 32
  · rw [if_pos hk] at hp
    split at hp
    · cases hp
    · rename_i hn
      obtain rfl : MP.withM k v x = y := by simpa using hp
      unfold MT.put
      rw [if_pos hk]
      refine ⟨?_, hk⟩
      match x, m, h with
      | none, none, _ => exact rfl
      | some x, some t, h =>
        rw [und_key hk] at hn
        exact prune_with k v x t h hm hn
  · rw [if_neg hk] at hp; cases hp
theorem del_sound {x y : Option PT} {m : Option Tr} (h : PruneM x m) (hm : MT.wf m) (k : ByteArray) (hp : delO k x = some y) : PruneM y (MT.del k m) ∧ k.size = 32 := by
  unfold delO at hp
  by_cases hk : k.size = 32
  · rw [if_pos hk] at hp
    refine ⟨?_, hk⟩
    unfold MT.del
    rw [if_pos hk]
    cases ha : MP.und k 256 x with
    | none => rw [ha] at hp; cases hp
    | some a =>
      have hs := get_sound h hm k hk ha
      rw [ha] at hp
      cases a with
      | nil =>
        obtain rfl : x = y := by simpa using hp
        have hg : getL k (MT.pairs m) = none := by
          cases hg : getL k (MT.pairs m) with
          | none => rfl
          | some v => rw [hg] at hs; cases hs
        rw [if_pos hg]; exact h
      | cons q r =>
        obtain rfl : MP.withoutM k x = y := by simpa using hp
        have hg : ¬ getL k (MT.pairs m) = none := fun hg => by rw [hg] at hs; cases hs
        rw [if_neg hg]
        match x, m, h with
        | none, none, _ => cases ha
        | some x, some t, h =>
          rw [und_key hk] at ha
          exact prune_without (ks k) x t _ h hm ha (by simp)
  · rw [if_neg hk] at hp; cases hp
/-- What was asked is known. -/
theorem asked_known {A : List Ask} {m : Option Tr} (k : ByteArray) (n : Int) (h : rightB k n = true → (k, n.toNat) ∈ A) : ∃ a, MP.und k n (cutM A m) = some a := by
  match m with
  | none => exact ⟨_, rfl⟩
  | some t =>
    cases hr : rightB k n with
    | true => rw [cutM, und_right hr]; exact cut_known (h hr) t
    | false => rw [cutM, und_wrong hr]; exact ⟨_, rfl⟩
theorem cut_ok (A : List Ask) : ∀ t : Tr, t.wf → (cutP A t).ok ∧ (cutP A t).leaves ≤ t.pairs.length
  | .leaf _ _, h => ⟨h, Nat.le_refl _⟩
  | .fork p k z o, h => by
    have hz := cut_ok A z h.2.2.2.2.2.2.2.1
    have ho := cut_ok A o h.2.2.2.2.2.2.2.2
    have e1 : (if sideB A (ks k) p false then cutP A z else .stub z.hash).ok ∧ (if sideB A (ks k) p false then cutP A z else .stub z.hash).leaves ≤ z.pairs.length := by
      split
      · exact hz
      · exact ⟨Tr.hash_size z, Nat.zero_le _⟩
    have e2 : (if sideB A (ks k) p true then cutP A o else .stub o.hash).ok ∧ (if sideB A (ks k) p true then cutP A o else .stub o.hash).leaves ≤ o.pairs.length := by
      split
      · exact ho
      · exact ⟨Tr.hash_size o, Nat.zero_le _⟩
    refine ⟨⟨h.1, Tr.wf_key h, e1.1, e2.1⟩, ?_⟩
    rw [Tr.pairs, List.length_append, cutP, PT.leaves]
    have := e1.2; have := e2.2; omega
theorem cutM_fit (A : List Ask) (m : Option Tr) (hm : MT.wf m) (hl : (MT.pairs m).length ≤ 1000) : MP.fit (cutM A m) := by
  match m, hm, hl with
  | none, _, _ => trivial
  | some t, hm, hl =>
    obtain ⟨h1, h2⟩ := cut_ok A t hm
    exact ⟨h1, by have : t.pairs.length ≤ 1000 := hl; omega⟩
theorem open_shown_root (A : List Ask) (m : Option Tr) (hm : MT.wf m) (hl : (MT.pairs m).length ≤ 1000) : openO (MT.root m) (ks (showT A m)) = some (cutM A m) := by
  unfold openO
  rw [ks_showT, (open_shown A m hm hl).1]
  simp only
  rw [if_pos (cutM_root A m)]
end Go.Proofs.YtmpjpaomgifpcaaGreatDoor
