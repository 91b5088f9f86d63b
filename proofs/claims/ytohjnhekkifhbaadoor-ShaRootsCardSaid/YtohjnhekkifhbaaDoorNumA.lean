/- The document's digits of a number, and which of two numbers is less, walked. -/
import Derived.Test.YtohjnhekkifhbaaDoorChecked
import Derived.Test.YtohjnhekkifhbaaDoorLib2
import Derived.Test.YtohjnhekkifhbaaDoorNum
import Derived.Lib.Hide
namespace Go.Proofs.YtohjnhekkifhbaaDoor
open Go.RowKit

theorem Tryd.numSl : Sl Tryd.prog 46 43 (.int .u64 0) 8 := ⟨Tryd.underlying46, by kernel_rfl, rfl⟩
def u64N (x : Nat) : Value := .int .u64 (x : Int)
/-- The digits l lie at the head of block g. -/
structure Num (w : World) (g : Nat) (l : List Nat) : Prop where
  cell : ∀ j, j < l.length → w.cell? ⟨g, j, none⟩ = some (.int .u64 ((l.getD j 0 : Nat) : Int))
  lt : g < w.heap.size
theorem Num.later {w w' : World} {g : Nat} {l : List Nat} (h : Num w g l) (hb : Below w.heap.size w w') : Num w' g l :=
  ⟨fun j hj => by rw [← h.cell j hj]; exact World.cell?_of_block (w := w) (hb.block g h.lt), Nat.lt_of_lt_of_le h.lt hb.size⟩
theorem nOwns.form {w : World} {B : Nat} {e : TypeId} {v : Value} {xs : List Value} (h : Owns w B e v xs) (hn : 0 < xs.length) : ∃ g cap, v = .slice (some ⟨g, 0, none⟩) xs.length cap := by
  rcases h.2 with ⟨_, h0⟩ | ⟨g, cap, cur, hv, _⟩
  · omega
  · exact ⟨g, cap, hv⟩
theorem Owns.num {w : World} {B g n cap : Nat} {e : TypeId} {l : List Nat} (h : Owns w B e (.slice (some ⟨g, 0, none⟩) n cap) (l.map u64N)) : Num w g l := by
  have hn : n = (l.map u64N).length := by
    rcases h.2 with ⟨hv, _⟩ | ⟨g', cap', cur, hv, _⟩
    · cases hv
    · cases hv; rfl
  subst hn
  refine ⟨fun j hj => ?_, (World.ownsRow.lt h g rfl).2⟩
  have := World.ownsRow.cellAt h j (by simpa using hj)
  rw [this]; simp [List.getD, hj, u64N]

/-- What a call that answers a number leaves. -/
def NumPost (n : Nat) (w : World) (e : Ending) (w' : World) : Prop :=
  ∃ (l : List Nat) (g cap : Nat), e = .returned (.slice (some ⟨g, 0, none⟩) l.length cap) ∧ Num w' g l ∧ Canon l ∧ val l = n ∧ 0 < l.length ∧ Below w.heap.size w w'

set_option maxRecDepth 100000 in
set_option maxHeartbeats 2000000 in
theorem digits_ref (n : Nat) (w : World) (h0 : 0 < n) (hn : n < 18446744073709551616) :
    Calls Tryd.prog 30 #[.int .u64 n] w (NumPost n w) := by
  have H0 := Lib.hid h0
  clear h0
  go_enter Tryd.func30, Tryd.ntmps30
  go_wp2_with fail
  go_loopw [0, 3] (fun mv vs WX => ∃ (m : Nat) (l : List Nat) (v : Value), v = vs ∧ mv = .int .u64 m ∧ m ≤ n ∧ l.length ≤ 5 ∧ Owns WX w.heap.size 43 v (l.map u64N) ∧ Hid (val l + 10000 ^ l.length * m = n) ∧ Hid (∀ d ∈ l, d < 10000) ∧ Hid (m = 0 → ∀ d, l.getLast? = some d → d ≠ 0) ∧ Below w.heap.size w WX) (fun mv _ _ => (intOf mv).toNat)
  case atStart => exact ⟨n, [], _, rfl, rfl, Nat.le_refl _, by simp, Owns.nil _ _ _, Lib.hid (by simp [val]), Lib.hid (fun d h => by simp at h), Lib.hid (fun _ d h => by simp at h), Below.refl _ _⟩
  case round =>
    obtain ⟨m, l, v, rfl, rfl, hmn, hl, hown, HV, HD, HT, hb⟩ := hrel
    by_cases hlt : 0 < m
    · have hl4 : l.length ≤ 4 := by
        have h1 := HV.out
        have h2 : 10000 ^ l.length * 1 ≤ 10000 ^ l.length * m := Nat.mul_le_mul_left _ hlt
        by_cases h5 : l.length ≤ 4
        · exact h5
        · have h3 : 10000 ^ 5 ≤ 10000 ^ l.length := Nat.pow_le_pow_right (by omega) (by omega)
          omega
      have hle : (l.map u64N).length ≤ 5 := by simp; omega
      obtain ⟨d, hd⟩ : ∃ d, m % 10000 = d := ⟨_, rfl⟩
      have ed : (m : Int) % 10000 = (d : Int) := by omega
      obtain ⟨q, hq⟩ : ∃ q, m / 10000 = q := ⟨_, rfl⟩
      have eq : (m : Int) / 10000 = (q : Int) := by omega
      have hqn : q ≤ n := by omega
      have hqm : q < m := by omega
      have HV2 : Hid (val (l ++ [d]) + 10000 ^ (l ++ [d]).length * q = n) := Lib.hid (by
        rw [val_append, List.length_append, ← HV.out]
        simp only [val, List.length_cons, List.length_nil, Nat.zero_add, Nat.mul_zero, Nat.add_zero, Nat.pow_succ]
        rw [Nat.mul_assoc, Nat.add_assoc, ← Nat.mul_add]
        have : d + 10000 * q = m := by omega
        rw [this])
      have HD2 : Hid (∀ x ∈ l ++ [d], x < 10000) := Lib.hid (fun x hx => by
        rcases List.mem_append.1 hx with h | h
        · exact HD.out x h
        · simp at h; omega)
      have HT2 : Hid (q = 0 → ∀ x, (l ++ [d]).getLast? = some x → x ≠ 0) := Lib.hid (fun h x hx => by
        simp at hx; omega)
      have HM : Hid ((l ++ [d]).map u64N = l.map u64N ++ [.int .u64 (d : Int)]) := Lib.hid (by simp [u64N])
      clear hd hq HV HD HT
      go_wp2_with (first
        | (at_builtin; refine list_app Tryd.numSl rfl _ _ rfl w.heap.size _ _ rfl (hown.alloc _) wr.heap.size _ rfl (heap_at_alloc wr _) (by simp [Value.oneCell']) (by simp) (by simp at hle ⊢; unfold maxLen; omega) (by simp at hle ⊢; omega) (by have := hb.size; simp; omega) ?_))
      intro v2 w2 hown2 hb2
      have hb3 := (hb.alloc hb.size _).trans hb2
      have hown3 : Owns w2 w.heap.size 43 v2 ((l ++ [d]).map u64N) := by rw [HM.out]; exact hown2
      clear hown hown2 hb hb2
      go_wp2_with fail
      go_roundw
      case rel => exact ⟨q, l ++ [d], v2, rfl, rfl, hqn, by simp; omega, hown3, HV2, HD2, HT2, hb3⟩
      case measure => simp [intOf]; omega
    · have hm0 : m = 0 := by omega
      have hv : val l = n := by have := HV.out; rw [hm0] at this; simpa using this
      have hl0 : 0 < l.length := by
        have := H0.out
        rw [← hv] at this
        cases l with
        | nil => simp [val] at this
        | cons _ _ => simp
      obtain ⟨g, cap, rfl⟩ := nOwns.form hown (by simpa using hl0)
      have hc : Canon l := ⟨HD.out, HT.out hm0⟩
      have HM0 := Lib.hid hm0
      have hmz : (m : Int) ≤ 0 := by omega
      have hnum := hown.num
      have HVV := Lib.hid hv
      clear hlt hm0 hv
      go_wp2_with fail
      go_ret
      exact ⟨l, g, cap, by simp [Array.getD], hnum, hc, HVV.out, hl0, hb⟩

theorem numCell {w : World} {g : Nat} {l : List Nat} (h : Num w g l) (j : Nat) (hj : j < l.length) (x : Nat) (hx : l.getD j 0 = x) : w.cell? ⟨g, j, none⟩ = some (.int .u64 (x : Int)) := by rw [h.cell j hj, hx]
set_option maxRecDepth 100000 in
set_option maxHeartbeats 2000000 in
theorem less_ref (ga gb ca cb : Nat) (a b : List Nat) (w : World) (ha : Canon a) (hb : Canon b) (hna : Num w ga a) (hnb : Num w gb b) (hla : a.length ≤ 100) (_hlb : b.length ≤ 100) :
    Calls Tryd.prog 32 #[.slice (some ⟨ga, 0, none⟩) a.length ca, .slice (some ⟨gb, 0, none⟩) b.length cb] w fun e w' => e = .returned (.bool (decide (val a < val b))) ∧ Below w.heap.size w w' := by
  by_cases hlen : a.length = b.length
  · have ht : ((a.length : Int) != (b.length : Int)) = false := by rw [hlen]; simp
    have h1 : a.length ≤ b.length := by omega
    have h2 : b.length ≤ a.length := by omega
    have HL := Lib.hid hlen
    clear hlen
    go_enter Tryd.func32, Tryd.ntmps32
    go_wp2_with fail
    go_loopw [5] (fun iv WX => ∃ (v : Int) (k : Nat), iv = .int .i64 v ∧ v + 1 ≤ (k : Int) ∧ (k : Int) ≤ v + 1 ∧ k ≤ a.length ∧ Hid (∀ j, k ≤ j → j < a.length → a.getD j 0 = b.getD j 0) ∧ Same w WX) (fun iv _ => (intOf iv + 1).toNat)
    case atStart => exact ⟨(a.length : Int) - 1, a.length, rfl, by omega, by omega, by omega, Lib.hid (fun j h1 h2 => by omega), Same.refl _⟩
    case round =>
      obtain ⟨v, k, rfl, hk1, hk2, hk3, HE, hsm⟩ := hrel
      by_cases hlt : 0 < k
      · obtain ⟨m, rfl⟩ := Int.eq_ofNat_of_zero_le (show 0 ≤ v by omega)
        obtain rfl : k = m + 1 := by omega
        obtain ⟨x, hx⟩ : ∃ x, a.getD m 0 = x := ⟨_, rfl⟩
        obtain ⟨y, hy⟩ : ∃ y, b.getD m 0 = y := ⟨_, rfl⟩
        have c1 := numCell (hna.later (hsm.below _)) m (by omega) x hx
        have c2 := numCell (hnb.later (hsm.below _)) m (by omega) y hy
        have i0 : (0 : Int) ≤ (m : Int) := by omega
        have i1 : (m : Int) < (a.length : Int) := by omega
        have i2 : (m : Int) < (b.length : Int) := by omega
        have HX := Lib.hid hx
        have HY := Lib.hid hy
        clear hx hy
        by_cases hxy : x = y
        · have t1 : ((x : Int) != (y : Int)) = false := by rw [hxy]; simp
          have HXY := Lib.hid hxy
          clear hxy
          go_wp2_with fail
          go_quiet (fail)
          go_wp2_with fail
          go_roundw
          case rel => exact ⟨(m : Int) - 1, m, rfl, by omega, by omega, by omega, Lib.hid (fun j h1 h2 => by
            by_cases hj : j = m
            · subst hj; rw [HX.out, HY.out, HXY.out]
            · exact HE.out j (by omega) h2), hsm.trans (Same.of _ _)⟩
          case measure => simp [intOf]
        · have t1 : ((x : Int) != (y : Int)) = true := by
            have : (x : Int) ≠ (y : Int) := by omega
            simpa using this
          have hres : decide (val a < val b) = decide (x < y) := by
            by_cases hlt2 : x < y
            · have := val_digit ha.dig HL.out m (by omega) (fun j h1 h2 => HE.out j (by omega) h2) (by rw [HX.out, HY.out]; exact hlt2)
              simp [this, hlt2]
            · have := val_digit hb.dig HL.out.symm m (by omega) (fun j h1 h2 => (HE.out j (by omega) (by omega)).symm) (by rw [HX.out, HY.out]; omega)
              have h3 : ¬ val a < val b := by omega
              simp [h3, hlt2]
          have HR := Lib.hid hres
          clear hres hxy
          go_wp2_with fail
          go_quiet (fail)
          go_wp2_with fail
          go_quiet (fail)
          go_wp2_with fail
          go_ret
          exact ⟨by rw [HR.out]; rfl, (hsm.trans ((Same.of _ _).trans (Same.of _ _))).below _⟩
      · obtain rfl : k = 0 := by omega
        have hv : v < 0 := by omega
        have hab : a = b := by
          apply List.ext_getElem HL.out
          intro j h1 h2
          have := HE.out j (by omega) h1
          simpa [List.getD, h1, h2] using this
        have hres : Hid (decide (val a < val b) = false) := Lib.hid (by rw [hab]; simp)
        clear hab
        go_wp2_with fail
        go_ret
        exact ⟨by rw [hres.out]; rfl, hsm.below _⟩
  · have ht : ((a.length : Int) != (b.length : Int)) = true := by
      have : (a.length : Int) ≠ (b.length : Int) := by omega
      simpa using this
    have hres : decide (val a < val b) = decide (a.length < b.length) := by
      by_cases h : a.length < b.length
      · have := ha.len_lt hb h
        simp [this, h]
      · have := hb.len_lt ha (by omega)
        have h3 : ¬ val a < val b := by omega
        simp [h3, h]
    have HR := Lib.hid hres
    clear hres hlen
    go_enter Tryd.func32, Tryd.ntmps32
    go_wp2_with fail
    go_ret
    exact ⟨by rw [HR.out]; rfl, Below.refl _ _⟩
end Go.Proofs.YtohjnhekkifhbaaDoor
