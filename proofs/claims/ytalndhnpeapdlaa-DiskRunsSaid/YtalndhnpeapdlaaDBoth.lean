/- The disk and the reference's disk beside one another. -/
import Derived.Test.YtalndhnpeapdlaaDAwk
import Derived.Test.YtalndhnpeapdlaaDRef
namespace Go.Proofs.Ytalndhnpeapdlaa
open Go.RowKit

structure Pr (w : World) (b : Nat) (v : Value) (r : Nat) (S U : ByteArray) (f : Int) (off : Bool) : Prop where
  dk : Dk w b v (S ++ U) S.size off (decide (0 ≤ f)) f.toNat
  rf : Rf w r S U f off
  ne : b ≠ r
  own : v.ownBlock ≠ some r
  lo : -1 ≤ f
  hi : f ≤ 9223372036854775807

section
variable {w w' : World} {b r : Nat} {v v' : Value} {S U : ByteArray} {f : Int} {off : Bool}
theorem Dk.but {n k : Nat} {T : ByteArray} {dn lim : Bool} (h : Dk w b v T n dn lim k) (hb : But r w w') (hn : b ≠ r) (ho : v.ownBlock ≠ some r) : Dk w' b v T n dn lim k :=
  h.keep (hb.block b h.lt hn) (fun j hj => hb.block j (h.2.1.lt j hj) (fun e => ho (by rw [hj, e])))
theorem Rf.ch (h : Rf w r S U f off) (hc : Ch b v w w' v') (hn : b ≠ r) (ho : v.ownBlock ≠ some r) : Rf w' r S U f off := h.keep (hc.block r h.lt hn.symm ho)
theorem Ch.own (hc : Ch b v w w' v') (hr : r < w.heap.size) (ho : v.ownBlock ≠ some r) : v'.ownBlock ≠ some r := fun e => by
  rcases hc.loc r e with h | h
  · exact ho h
  · omega
theorem Pr.later (h : Pr w b v r S U f off) (hb : Below w.heap.size w w') : Pr w' b v r S U f off := ⟨h.dk.later hb, h.rf.later hb, h.ne, h.own, h.lo, h.hi⟩
theorem Pr.rfCh (h : Pr w b v r S U f off) (hc : Ch b v w w' v') : Rf w' r S U f off := h.rf.ch hc h.ne h.own

theorem pr_join {w2 w3 : World} {v2 : Value} {T2 S3 U3 : ByteArray} {n2 k2 : Nat} {d2 l2 o3 : Bool} {f3 : Int} (h : Pr w b v r S U f off) (hd : Dk w2 b v2 T2 n2 d2 l2 k2) (hc : Ch b v w w2 v2) (hr : Rf w3 r S3 U3 f3 o3) (hb : But r w2 w3)
    (eT : T2 = S3 ++ U3) (en : n2 = S3.size) (ed : d2 = o3) (el : l2 = decide (0 ≤ f3)) (ek : k2 = f3.toNat) (h1 : -1 ≤ f3) (h2 : f3 ≤ 9223372036854775807) : Pr w3 b v2 r S3 U3 f3 o3 := by
  subst eT; subst en; subst ed; subst el; subst ek
  have ho := hc.own h.rf.lt h.own
  exact ⟨hd.but hb h.ne ho, hr, h.ne, ho, h1, h2⟩
end

theorem extract_past (S U : ByteArray) (m : Nat) : (S ++ U).extract 0 (S.size + m) = S ++ U.extract 0 m := by
  ext1
  apply Array.toList_inj.1
  have e3 : S.size = S.data.toList.length := by simp
  simp only [ByteArray.data_extract, ByteArray.data_append, Array.toList_extract, Array.toList_append, List.extract_eq_take_drop, List.drop_zero, Nat.sub_zero, e3]
  exact List.take_length_add_append _
/-- One step, both ways. -/
theorem st_eq (f : Int) (off : Bool) (h : -1 ≤ f) : stOk off (decide (0 ≤ f)) f.toNat = rfOk f off ∧ stDn off (decide (0 ≤ f)) f.toNat = rfOff f off ∧ stK off (decide (0 ≤ f)) f.toNat = (rfF f off).toNat ∧ decide (0 ≤ f) = decide (0 ≤ rfF f off) ∧ -1 ≤ rfF f off ∧ (f ≤ 9223372036854775807 → rfF f off ≤ 9223372036854775807) := by
  unfold stOk stDn stK rfOk rfOff rfF
  cases off
  · by_cases h0 : f = -1
    · subst h0; decide
    · by_cases h1 : f = 0
      · subst h1; decide
      · have e1 : 0 < f.toNat := by omega
        have e2 : f.toNat ≠ 0 := by omega
        have e3 : 0 ≤ f := by omega
        have e4 : 0 < f := by omega
        have e5 : 0 ≤ f - 1 := by omega
        simp [h1, e1, e2, e3, e4]
        omega
  · simp; exact h

section
variable {w w2 w3 : World} {b r : Nat} {v v2 : Value} {S U : ByteArray} {f : Int} {off : Bool}
theorem append_pr (h : Pr w b v r S U f off) (s : ByteArray) (hlim : (S ++ U).size + s.size ≤ 100000) :
    Calls Try.prog 9 #[.pointer (some ⟨b, 0, none⟩), .string s] w fun e w' => e = .returned (.int .i64 (errOf (rfOk f off))) ∧
      ∃ v', Dk w' b v' (if rfOk f off then S ++ U ++ s else S ++ U) S.size (rfOff f off) (decide (0 ≤ rfF f off)) (rfF f off).toNat ∧ Ch b v w w' v' := by
  obtain ⟨e1, e2, e3, e4, e5, e6⟩ := st_eq f off h.lo
  have h1 := append_prog h.dk (by have := h.hi; omega) s hlim
  rw [e1, e2, e3, e4] at h1
  exact h1
theorem pr_append (h : Pr w b v r S U f off) (s : ByteArray) (hd : Dk w2 b v2 (if rfOk f off then S ++ U ++ s else S ++ U) S.size (rfOff f off) (decide (0 ≤ rfF f off)) (rfF f off).toNat) (hc : Ch b v w w2 v2)
    (hr : Rf w3 r S (if rfOk f off then U ++ s else U) (rfF f off) (rfOff f off)) (hb : But r w2 w3) :
    ∃ U' f' o', Pr w3 b v2 r S U' f' o' ∧ (S ++ U').size ≤ (S ++ U).size + s.size := by
  obtain ⟨_, _, _, _, e5, e6⟩ := st_eq f off h.lo
  refine ⟨_, _, _, pr_join h hd hc hr hb ?_ rfl rfl rfl rfl e5 (e6 h.hi), ?_⟩
  · split
    · rw [ByteArray.append_assoc]
    · rfl
  · split <;> simp only [ByteArray.size_append] <;> omega
theorem sync_pr (h : Pr w b v r S U f off) :
    Calls Try.prog 11 #[.pointer (some ⟨b, 0, none⟩)] w fun e w' => e = .returned (.int .i64 (errOf (rfOk f off))) ∧
      Dk w' b v (S ++ U) (if rfOk f off then (S ++ U).size else S.size) (rfOff f off) (decide (0 ≤ rfF f off)) (rfF f off).toNat ∧ Ch b v w w' v := by
  obtain ⟨e1, e2, e3, e4, e5, e6⟩ := st_eq f off h.lo
  have h1 := sync_prog h.dk (by have := h.hi; omega)
  rw [e1, e2, e3, e4] at h1
  exact h1
theorem app_none (s : ByteArray) : s ++ (⟨#[]⟩ : ByteArray) = s := by ext1; simp [ByteArray.data_append]
theorem pr_sync (h : Pr w b v r S U f off) (hd : Dk w2 b v (S ++ U) (if rfOk f off then (S ++ U).size else S.size) (rfOff f off) (decide (0 ≤ rfF f off)) (rfF f off).toNat) (hc : Ch b v w w2 v)
    (hr : Rf w3 r (if rfOk f off then S ++ U else S) (if rfOk f off then ⟨#[]⟩ else U) (rfF f off) (rfOff f off)) (hb : But r w2 w3) :
    ∃ S' U' f' o', Pr w3 b v r S' U' f' o' ∧ (S' ++ U').size ≤ (S ++ U).size := by
  obtain ⟨_, _, _, _, e5, e6⟩ := st_eq f off h.lo
  refine ⟨_, _, _, _, pr_join h hd hc hr hb ?_ ?_ rfl rfl rfl e5 (e6 h.hi), ?_⟩
  · split
    · rw [app_none]
    · rfl
  · split <;> rfl
  · split
    · rw [app_none]; omega
    · omega
theorem swap_pr (h : Pr w b v r S U f off) (s : ByteArray) (hlim : s.size ≤ 100000) :
    Calls Try.prog 13 #[.pointer (some ⟨b, 0, none⟩), .string s] w fun e w' => e = .returned (.int .i64 (errOf (rfOk f off))) ∧
      ∃ v', Dk w' b v' (if rfOk f off then s else S ++ U) (if rfOk f off then s.size else S.size) (rfOff f off) (decide (0 ≤ rfF f off)) (rfF f off).toNat ∧ Ch b v w w' v' := by
  obtain ⟨e1, e2, e3, e4, e5, e6⟩ := st_eq f off h.lo
  have h1 := swap_prog h.dk (by have := h.hi; omega) s hlim
  rw [e1, e2, e3, e4] at h1
  exact h1
theorem pr_swap (h : Pr w b v r S U f off) (s : ByteArray) (hd : Dk w2 b v2 (if rfOk f off then s else S ++ U) (if rfOk f off then s.size else S.size) (rfOff f off) (decide (0 ≤ rfF f off)) (rfF f off).toNat) (hc : Ch b v w w2 v2)
    (hr : Rf w3 r (if rfOk f off then s else S) (if rfOk f off then ⟨#[]⟩ else U) (rfF f off) (rfOff f off)) (hb : But r w2 w3) :
    ∃ S' U' f' o', Pr w3 b v2 r S' U' f' o' ∧ (S' ++ U').size ≤ (S ++ U).size + s.size := by
  obtain ⟨_, _, _, _, e5, e6⟩ := st_eq f off h.lo
  refine ⟨_, _, _, _, pr_join h hd hc hr hb ?_ ?_ rfl rfl rfl e5 (e6 h.hi), ?_⟩
  · split
    · rw [app_none]
    · rfl
  · split <;> rfl
  · split
    · rw [app_none]; omega
    · omega
theorem fuel_pr (h : Pr w b v r S U f off) (x : Int) : Calls Try.prog 15 #[.pointer (some ⟨b, 0, none⟩), .int .i64 x] w fun e w' =>
    e = .returned (.tuple #[]) ∧ Dk w' b v (S ++ U) S.size off (decide (0 ≤ x)) x.toNat ∧ Ch b v w w' v := fuel_prog h.dk x
theorem pr_fuel (h : Pr w b v r S U f off) (x X : Int) (hX : (if x < -1 then -1 else x) = X) (hx : x ≤ 9223372036854775807) (hd : Dk w2 b v (S ++ U) S.size off (decide (0 ≤ x)) x.toNat) (hc : Ch b v w w2 v) :
    Pr (w2.setCell ⟨r, 2, none⟩ (.int .i64 X)) b v r S U X off := by
  have hr := (h.rfCh hc).set2 X
  have h1 : -1 ≤ X := by split at hX <;> omega
  have h2 : X ≤ 9223372036854775807 := by split at hX <;> omega
  have h3 : x.toNat = X.toNat := by split at hX <;> omega
  have h4 : decide (0 ≤ x) = decide (0 ≤ X) := by
    congr 1
    apply propext
    split at hX <;> omega
  exact pr_join h hd hc hr (But.set r 2 _ _) rfl rfl rfl h4 h3 h1 h2
theorem crash_pr (h : Pr w b v r S U f off) (x : Int) (hT : (S ++ U).size ≤ 100000) : Calls Try.prog 16 #[.pointer (some ⟨b, 0, none⟩), .int .i64 x] w fun e w' =>
    e = .returned (.tuple #[]) ∧ ∃ v', Dk w' b v' (S ++ U.extract 0 (min x.toNat U.size)) (S ++ U.extract 0 (min x.toNat U.size)).size false false 0 ∧ Ch b v w w' v' := by
  have hs : (S ++ U).size = S.size + U.size := ByteArray.size_append
  have h1 := crash_prog h.dk (by omega) hT x
  obtain ⟨m, hm⟩ : ∃ m, m = min x.toNat U.size := ⟨_, rfl⟩
  have hmU : m ≤ U.size := by omega
  have e1 : min x.toNat ((S ++ U).size - S.size) = m := by omega
  have e2 := extract_past S U m
  have e3 : S.size + m = (S ++ U.extract 0 m).size := by rw [ByteArray.size_append, extract_size _ _ hmU]
  rw [e1, e2, e3] at h1
  rw [← hm]
  exact h1
theorem pr_crash (h : Pr w b v r S U f off) (x : Int) (hd : Dk w2 b v2 (S ++ U.extract 0 (min x.toNat U.size)) (S ++ U.extract 0 (min x.toNat U.size)).size false false 0) (hc : Ch b v w w2 v2)
    (hr : Rf w3 r (S ++ U.extract 0 (min x.toNat U.size)) ⟨#[]⟩ (-1) false) (hb : But r w2 w3) :
    ∃ S', Pr w3 b v2 r S' ⟨#[]⟩ (-1) false ∧ (S' ++ (⟨#[]⟩ : ByteArray)).size ≤ (S ++ U).size := by
  refine ⟨_, pr_join h hd hc hr hb (app_none _).symm rfl rfl rfl rfl (by omega) (by omega), ?_⟩
  rw [app_none, ByteArray.size_append, ByteArray.size_append, extract_size _ _ (by omega)]
  omega
end
end Go.Proofs.Ytalndhnpeapdlaa
