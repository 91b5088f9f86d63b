/- vidimusref03.node: all but lists. -/
import Derived.Test.YtaojcbdljgcfgaaCSz
import Derived.Test.YtaojcbdljgcfgaaCRk
namespace Go.Proofs.Ytaojcbdljgcfgaa
open Go.RowKit

/-- What the reference hands back: a node and where it ends. -/
def NRes (o : Option (Nd × List UInt8)) (s : ByteArray) (B : Nat) (w : World) (e : Ending) (w' : World) : Prop :=
  ∃ (x : Nd) (ka : Option Addr) (kn kc : Nat) (en : Int), e = .returned (.tuple #[.agg #[.int .i64 x.k, .int .u64 x.n, .string x.s, .slice ka kn kc], .int .i64 en]) ∧ Below B w w' ∧
    ((en = -1 ∧ o = none) ∨ ∃ E : Nat, en = E ∧ E ≤ s.size ∧ o = some (x, s.data.toList.drop E) ∧ KidsAt w' (fun g => B ≤ g ∧ g < w'.heap.size) x.kids (.slice ka kn kc))
def NodeOk (d : Nat) : Prop := ∀ (s : ByteArray) (A : Nat) (w : World), s.size ≤ 100000000 → A ≤ s.size → d ≤ 20 →
  Calls Try.prog 30 #[.string s, .int .i64 A, .int .i64 d] w (NRes (parse d (s.data.toList.drop A)) s w.heap.size w)

def zeroBlk : Obj := .cells #[.int .i64 0, .int .u64 0, .string ⟨#[]⟩, .slice none 0 0] 27 (0, 0)

theorem set4_blk {w2 : World} {g0 : Nat} {o1 o2 o3 o4 : Nat} {x1 x2 x3 x4 : Value} {B : Nat} (hb : Below B w2 w2) (hg : B ≤ g0) : Below B w2 ((((w2.setCell ⟨g0, o1, none⟩ x1).setCell ⟨g0, o2, none⟩ x2).setCell ⟨g0, o3, none⟩ x3).setCell ⟨g0, o4, none⟩ x4) :=
  (((hb.setCell hg _).setCell hg _).setCell hg _).setCell hg _

set_option maxRecDepth 30000 in
set_option maxHeartbeats 2000000 in
theorem node_none (s : ByteArray) (A d : Nat) (w : World) (h : s.size ≤ A ∨ d = 0) :
    Calls Try.prog 30 #[.string s, .int .i64 A, .int .i64 d] w (NRes (parse d (s.data.toList.drop A)) s w.heap.size w) := by
  have hp : Hid (parse d (s.data.toList.drop A) = none) := Lib.hid (by
    rcases h with h | h
    · rw [List.drop_of_length_le (by simpa using h)]; cases d <;> rw [parse]
    · subst h; rw [parse])
  obtain ⟨O, hO⟩ : ∃ O, parse d (s.data.toList.drop A) = O := ⟨_, rfl⟩
  rw [hO] at hp ⊢
  clear hO
  by_cases hA2 : s.size ≤ A
  · have hI : (s.size : Int) ≤ (A : Int) := by omega
    clear h
    go_enter Try.func30, Try.ntmps30
    go_wp2_with fail
    exact bodyPost_ret (v := .tuple #[nodeV 0 0 ⟨#[]⟩ (.slice none 0 0), .int .i64 (-1)]) (by simp [results, Try.results30, go_sem, nodeV]) rfl ⟨⟨0, 0, ⟨#[]⟩, .nil⟩, none, 0, 0, _, rfl, ((Below.refl _ w).alloc (Nat.le_refl _) _).alloc (by simp) _, .inl ⟨rfl, hp.out⟩⟩
  · have hI : ¬ (s.size : Int) ≤ (A : Int) := by omega
    have hd1 : (d : Int) < 1 := by omega
    clear h
    go_enter Try.func30, Try.ntmps30
    go_wp2_with fail
    exact bodyPost_ret (v := .tuple #[nodeV 0 0 ⟨#[]⟩ (.slice none 0 0), .int .i64 (-1)]) (by simp [results, Try.results30, go_sem, nodeV]) rfl ⟨⟨0, 0, ⟨#[]⟩, .nil⟩, none, 0, 0, _, rfl, ((Below.refl _ w).alloc (Nat.le_refl _) _).alloc (by simp) _, .inl ⟨rfl, hp.out⟩⟩

theorem size_some (s : ByteArray) (a : Int) (A m E : Nat) (w : World) (ha : a = (A : Int)) (hs : s.size ≤ 100000000) (hA : A ≤ s.size) (hE : E ≤ s.size) (hz : szP 4 (s.data.toList.drop A) = some (m, s.data.toList.drop E)) :
    Calls Try.prog 44 #[.string s, .int .i64 a] w fun e w' => e = .returned (.tuple #[.int .i64 m, .int .i64 E]) ∧ w = w' := by
  subst ha
  refine (size_ref s A w hs hA).mono ?_
  rintro e w' ⟨m', en, rfl, rfl, ⟨_, h⟩ | ⟨M, E', rfl, rfl, _, hE', h⟩⟩
  · rw [h] at hz; cases hz
  · rw [h] at hz
    have h1 := Option.some.inj hz
    have h2 : M = m := congrArg Prod.fst h1
    have h3 : (s.data.toList.drop E').length = (s.data.toList.drop E).length := congrArg (fun p => p.2.length) h1
    simp at h3
    obtain rfl : E' = E := by omega
    rw [h2]; exact ⟨rfl, rfl⟩
theorem size_none (s : ByteArray) (a : Int) (A : Nat) (w : World) (ha : a = (A : Int)) (hs : s.size ≤ 100000000) (hA : A ≤ s.size) (hz : szP 4 (s.data.toList.drop A) = none) :
    Calls Try.prog 44 #[.string s, .int .i64 a] w fun e w' => ∃ m : Int, e = .returned (.tuple #[.int .i64 m, .int .i64 (-1)]) ∧ w = w' := by
  subst ha
  refine (size_ref s A w hs hA).mono ?_
  rintro e w' ⟨m', en, rfl, rfl, ⟨h0, h⟩ | ⟨M, E', rfl, rfl, _, hE', h⟩⟩
  · rw [h0]; exact ⟨m', rfl, rfl⟩
  · rw [h] at hz; cases hz
/-- Two blocks of zero nodes. -/
def two (w : World) : World := (w.alloc (.cells #[.int .i64 0, .int .u64 0, .string ⟨#[]⟩, .slice none 0 0] 27)).alloc (.cells #[.int .i64 0, .int .u64 0, .string ⟨#[]⟩, .slice none 0 0] 27)
theorem two_below (w : World) : Below w.heap.size w (two w) := ((Below.refl _ w).alloc (Nat.le_refl _) _).alloc (by simp) _

def numO (o : Option (Int × List UInt8)) : Option (Nd × List UInt8) := match o with | none => none | some (n, t) => some (⟨0, n, ⟨#[]⟩, .nil⟩, t)
def txtO (o : Option (ByteArray × List UInt8)) : Option (Nd × List UInt8) := match o with | none => none | some (q, t) => some (⟨1, 0, q, .nil⟩, t)

def NnRel (l : List UInt8) (m : Nat) (w1 : World) (a i : Value) (wr : World) : Prop :=
  ∃ (k : Nat) (x : Int), k ≤ m ∧ i = .int .i64 k ∧ a = .int .u64 x ∧ Hid (x = (valB (l.take k) : Int)) ∧ w1 = wr

set_option maxRecDepth 30000 in
set_option maxHeartbeats 2000000 in
theorem node_num (s : ByteArray) (A d E m : Nat) (w : World) (hs : s.size ≤ 100000000) (hA : A < s.size) (hE : E ≤ s.size) (hm : Lim m) (hc : s[A].toNat = 110)
    (hz : szP 4 (s.data.toList.drop (A + 1)) = some (m, s.data.toList.drop E)) :
    Calls Try.prog 30 #[.string s, .int .i64 A, .int .i64 ((d + 1 : Nat) : Int)] w
      (NRes (numO (numP m (s.data.toList.drop E))) s w.heap.size w) := by
  have hsI : (s.size : Int) ≤ 100000000 := by omega
  have hAI : ¬ ((s.size : Int) ≤ (A : Int)) := by omega
  have hAs : (A : Int) ≤ 100000000 := by omega
  have hA1 : (0 : Int) ≤ (A : Int) := by omega
  have hdI : ¬ (((d + 1 : Nat) : Int) < 1) := by omega
  obtain ⟨dd, hdd⟩ : ∃ dd : Int, dd = ((d + 1 : Nat) : Int) := ⟨_, rfl⟩
  rw [← hdd] at hdI ⊢
  have hcall := Lib.hid (size_some s ((A : Int) + 1) (A + 1) m E (two w) (by omega) hs (by omega) hE hz)
  have hce : ((s[A].toNat : Int) == 110) = true := by rw [hc]; rfl
  have hEI : (E : Int) ≤ (s.size : Int) := by omega
  have hE0 : (0 : Int) ≤ (E : Int) := by omega
  have hm0 : (0 : Int) ≤ (m : Int) := by omega
  have hmI : (m : Int) ≤ 268435456 := by unfold Lim at hm; omega
  obtain ⟨O, hO⟩ : ∃ O, numO (numP m (s.data.toList.drop E)) = O := ⟨_, rfl⟩
  have HO := Lib.hid hO
  have HM := Lib.hid hm
  rw [hO]
  clear hc hz hdd hO hm
  unfold two at hcall
  by_cases h8 : 8 < m
  · have hp : Hid (O = none) := Lib.hid (by rw [← HO.out, numP, if_pos (.inl h8)]; rfl)
    have h8' : (8 : Int) < (m : Int) := by omega
    go_enter Try.func30, Try.ntmps30
    go_wp2_with fail
    refine hcall.out.mono ?_
    rintro e w1 ⟨rfl, rfl⟩
    go_wp2_with fail
    exact bodyPost_ret (v := .tuple #[nodeV 0 0 ⟨#[]⟩ (.slice none 0 0), .int .i64 (-1)]) (by simp [results, Try.results30, go_sem, nodeV]) rfl ⟨⟨0, 0, ⟨#[]⟩, .nil⟩, none, 0, 0, _, rfl, two_below w, .inl ⟨rfl, hp.out⟩⟩
  have h8' : ¬ (8 : Int) < (m : Int) := by omega
  by_cases hl : s.size < E + m
  · have hp : Hid (O = none) := Lib.hid (by rw [← HO.out, numP, if_pos (.inr (.inl (by simp; omega)))]; rfl)
    have hl' : (s.size : Int) < (E : Int) + (m : Int) := by omega
    go_enter Try.func30, Try.ntmps30
    go_wp2_with fail
    refine hcall.out.mono ?_
    rintro e w1 ⟨rfl, rfl⟩
    go_wp2_with fail
    exact bodyPost_ret (v := .tuple #[nodeV 0 0 ⟨#[]⟩ (.slice none 0 0), .int .i64 (-1)]) (by simp [results, Try.results30, go_sem, nodeV]) rfl ⟨⟨0, 0, ⟨#[]⟩, .nil⟩, none, 0, 0, _, rfl, two_below w, .inl ⟨rfl, hp.out⟩⟩
  have hl' : ¬ (s.size : Int) < (E : Int) + (m : Int) := by omega
  by_cases hz0 : 0 < m ∧ (s.data.toList.drop E).head? = some 0
  · have hp : Hid (O = none) := Lib.hid (by rw [← HO.out, numP, if_pos (.inr (.inr hz0))]; rfl)
    obtain ⟨h0, hh⟩ := hz0
    have h00 : E < s.size := by omega
    have hs0 : s[E].toNat = 0 := by
      rw [List.drop_eq_getElem_cons (by simpa using h00)] at hh
      have := Option.some.inj hh
      have h2 : s[E] = 0 := this
      rw [h2]; rfl
    have hs0' : ((s[E].toNat : Int) == 0) = true := by rw [hs0]; rfl
    have hs0n : (s[E].toNat == 0) = true := by rw [hs0]; rfl
    have h0' : (0 : Int) < (m : Int) := by omega
    have h00I : (E : Int) < (s.size : Int) := by omega
    clear hs0 hh
    go_enter Try.func30, Try.ntmps30
    go_wp2_with fail
    refine hcall.out.mono ?_
    rintro e w1 ⟨rfl, rfl⟩
    go_wp2_with fail
    exact bodyPost_ret (v := .tuple #[nodeV 0 0 ⟨#[]⟩ (.slice none 0 0), .int .i64 (-1)]) (by simp [results, Try.results30, go_sem, nodeV]) rfl ⟨⟨0, 0, ⟨#[]⟩, .nil⟩, none, 0, 0, _, rfl, two_below w, .inl ⟨rfl, hp.out⟩⟩
  have hp : Hid (O = some (⟨0, (valB ((s.data.toList.drop E).take m) : Int), ⟨#[]⟩, .nil⟩, s.data.toList.drop (E + m))) := Lib.hid (by
    rw [← HO.out, numP, if_neg (by simp; exact ⟨by omega, by omega, by simpa using hz0⟩), List.drop_drop]; rfl)
  by_cases h0 : 0 < m
  · have h00 : E < s.size := by omega
    have hs0 : s[E].toNat ≠ 0 := by
      intro h
      apply hz0
      refine ⟨h0, ?_⟩
      rw [List.drop_eq_getElem_cons (by simpa using h00)]
      have : s[E] = 0 := UInt8.toNat_inj.1 h
      exact congrArg some this
    have hs0' : ((s[E].toNat : Int) == 0) = false := by simpa using hs0
    have hs0n : (s[E].toNat == 0) = false := by simpa using hs0
    have h0' : (0 : Int) < (m : Int) := by omega
    have h00I : (E : Int) < (s.size : Int) := by omega
    clear hz0 hs0
    go_enter Try.func30, Try.ntmps30
    go_wp2_with fail
    refine hcall.out.mono ?_
    rintro e w1 ⟨rfl, rfl⟩
    go_wp2_with fail
    go_loopw [11, 12] (NnRel (s.data.toList.drop E) m (two w)) (fun _ i _ => m - (intOf i).toNat)
    case atStart => exact ⟨0, 0, by omega, rfl, rfl, Lib.hid (by simp [valB]), rfl⟩
    case round =>
      obtain ⟨k, x, hk, rfl, rfl, hx, hw⟩ := hrel
      subst hw
      unfold two
      by_cases hlt : k < m
      · have hk0 : (0 : Int) ≤ (k : Int) := by omega
        have hks : E + k < s.size := by omega
        have hksI : (E : Int) + (k : Int) < (s.size : Int) := by omega
        have hEk : ((E : Int) + (k : Int)).toNat = E + k := by omega
        have hb0 : (0 : Int) ≤ ((s[E + k]'(by omega)).toNat : Int) := by omega
        have hb1 : ((s[E + k]'(by omega)).toNat : Int) ≤ 255 := by have := (s[E + k]'(by omega)).toNat_lt; omega
        have hv := valB_lt ((s.data.toList.drop E).take k)
        have hvs : Hid (valB ((s.data.toList.drop E).take (k + 1)) = valB ((s.data.toList.drop E).take k) * 256 + s[E + k].toNat) := Lib.hid (by
          rw [List.take_succ_eq_append_getElem (by simp; omega), valB_snoc, List.getElem_drop]; rfl)
        have hpw : 256 ^ ((s.data.toList.drop E).take k).length ≤ 256 ^ 7 := Nat.pow_le_pow_right (by decide) (by simp; omega)
        have h7 : (256 : Nat) ^ 7 = 72057594037927936 := by decide
        obtain ⟨V, hV⟩ : ∃ V, V = valB ((s.data.toList.drop E).take k) := ⟨_, rfl⟩
        have hxV : x = (V : Int) := by rw [hx.out, hV]
        have x0 : 0 ≤ x := by omega
        have x1 : x < 72057594037927936 := by omega
        have HV := Lib.hid hV
        have HXV := Lib.hid hxV
        clear hV hxV hv hpw h7
        go_wp2_with fail
        go_roundw
        case rel => exact ⟨k + 1, x * 256 + (s[E + k].toNat : Int), by omega, by go_num, rfl, Lib.hid (by rw [hvs.out, HXV.out, HV.out]; simp), rfl⟩
        case measure => rw [intOf_int, intOf_int]; omega
      · obtain rfl : m = k := by omega
        go_wp2_with fail
        refine bodyPost_ret (v := .tuple #[nodeV 0 x ⟨#[]⟩ (.slice none 0 0), .int .i64 ((E : Int) + (m : Int))]) (by simp [results, Try.results30, go_sem, nodeV]) rfl ⟨⟨0, x, ⟨#[]⟩, .nil⟩, none, 0, 0, _, rfl, ?_, .inr ⟨E + m, by simp, by omega, by rw [hp.out, hx.out], .inl ⟨rfl, rfl⟩⟩⟩
        exact ((Below.refl _ w).alloc (Nat.le_refl _) _).alloc (by simp) _
  · have h0' : ¬ (0 : Int) < (m : Int) := by omega
    have h0d : decide ((0 : Int) < (m : Int)) = false := by simpa using h0'
    clear hz0 h0
    go_enter Try.func30, Try.ntmps30
    go_wp2_with fail
    refine hcall.out.mono ?_
    rintro e w1 ⟨rfl, rfl⟩
    go_wp2_with fail
    go_loopw [11, 12] (NnRel (s.data.toList.drop E) m (two w)) (fun _ i _ => m - (intOf i).toNat)
    case atStart => exact ⟨0, 0, by omega, rfl, rfl, Lib.hid (by simp [valB]), rfl⟩
    case round =>
      obtain ⟨k, x, hk, rfl, rfl, hx, hw⟩ := hrel
      subst hw
      unfold two
      by_cases hlt : k < m
      · exfalso; omega
      · obtain rfl : m = k := by omega
        go_wp2_with fail
        refine bodyPost_ret (v := .tuple #[nodeV 0 x ⟨#[]⟩ (.slice none 0 0), .int .i64 ((E : Int) + (m : Int))]) (by simp [results, Try.results30, go_sem, nodeV]) rfl ⟨⟨0, x, ⟨#[]⟩, .nil⟩, none, 0, 0, _, rfl, ?_, .inr ⟨E + m, by simp, by omega, by rw [hp.out, hx.out], .inl ⟨rfl, rfl⟩⟩⟩
        exact ((Below.refl _ w).alloc (Nat.le_refl _) _).alloc (by simp) _
end Go.Proofs.Ytaojcbdljgcfgaa
