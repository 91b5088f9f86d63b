/- SHA-256 by lists and numbers: no program. -/
import Derived.Test.YtohcackebmmikaaDoorLib
namespace Go.Proofs.YtohcackebmmikaaDoor

def rot (x n : Int) : Int := (x / 2 ^ n.toNat + x * 2 ^ (32 - n).toNat % 4294967296) % 4294967296
def u32V (x : Int) : Value := .int .u32 x
def be4 (s : ByteArray) (i : Nat) : Int := (((s.data.getD i 0).toNat * 256 + (s.data.getD (i+1) 0).toNat) * 256 + (s.data.getD (i+2) 0).toNat) * 256 + (s.data.getD (i+3) 0).toNat
def xr (a b : Int) : Int := bits .xor .u32 a b
def an (a b : Int) : Int := bits .and .u32 a b
def sg0 (x : Int) : Int := xr (xr (rot x 7) (rot x 18)) (x / 8)
def sg1 (x : Int) : Int := xr (xr (rot x 17) (rot x 19)) (x / 1024)
def bg0 (x : Int) : Int := xr (xr (rot x 2) (rot x 13)) (rot x 22)
def bg1 (x : Int) : Int := xr (xr (rot x 6) (rot x 11)) (rot x 25)
def nt (x : Int) : Int := bits .xor .u32 (IntKind.max .u32) x
def ch (e f g : Int) : Int := xr (an e f) (an (nt e) g)
def maj (a b c : Int) : Int := xr (xr (an a b) (an a c)) (an b c)
def wNext (a b c d : Int) : Int := (a + sg0 b + c + sg1 d) % 4294967296
def wList : Nat → List Int → List Int
  | 0, l => l
  | n + 1, l => wList n (l ++ [wNext (l.getD (l.length - 16) 0) (l.getD (l.length - 15) 0) (l.getD (l.length - 7) 0) (l.getD (l.length - 2) 0)])
def wOf (b : List Int) (t : Nat) : Int := (wList 48 b).getD t 0

theorem wList_old : ∀ (n : Nat) (l : List Int) (t : Nat), t < l.length → (wList n l).getD t 0 = l.getD t 0
  | 0, _, _, _ => rfl
  | n + 1, l, t, h => by
    rw [wList, wList_old n _ t (by simp; omega)]
    simp [List.getD, List.getElem?_append_left h]
theorem wList_new : ∀ (n : Nat) (l : List Int) (t : Nat), 16 ≤ l.length → l.length ≤ t → t < l.length + n →
    (wList n l).getD t 0 = wNext ((wList n l).getD (t - 16) 0) ((wList n l).getD (t - 15) 0) ((wList n l).getD (t - 7) 0) ((wList n l).getD (t - 2) 0)
  | 0, l, t, h, h1, h2 => by omega
  | n + 1, l, t, h, h1, h2 => by
    simp only [wList]
    by_cases ht : t = l.length
    · subst ht
      rw [wList_old n _ _ (by simp), wList_old n _ (l.length - 16) (by simp; omega), wList_old n _ (l.length - 15) (by simp; omega), wList_old n _ (l.length - 7) (by simp; omega), wList_old n _ (l.length - 2) (by simp; omega)]
      have e : ∀ k, 0 < k → k ≤ l.length → (l ++ [wNext (l.getD (l.length - 16) 0) (l.getD (l.length - 15) 0) (l.getD (l.length - 7) 0) (l.getD (l.length - 2) 0)]).getD (l.length - k) 0 = l.getD (l.length - k) 0 := by
        intro k hk hk2; simp only [List.getD]; rw [List.getElem?_append_left (by omega)]
      rw [e 16 (by omega) (by omega), e 15 (by omega) (by omega), e 7 (by omega) (by omega), e 2 (by omega) (by omega)]
      simp [List.getD]
    · exact wList_new n _ t (by simp; omega) (by simp; omega) (by simp; omega)
theorem wOf_old (b : List Int) (t : Nat) (h : t < b.length) : wOf b t = b.getD t 0 := wList_old 48 b t h
theorem wOf_new (b : List Int) (hb : b.length = 16) (t : Nat) (h : 16 ≤ t) (h2 : t < 64) : wOf b t = wNext (wOf b (t - 16)) (wOf b (t - 15)) (wOf b (t - 7)) (wOf b (t - 2)) :=
  wList_new 48 b t (by omega) (by omega) (by omega)

structure St where
  a : Int
  b : Int
  c : Int
  d : Int
  e : Int
  f : Int
  g : Int
  h : Int
def St.at (s : St) : Nat → Int
  | 0 => s.a | 1 => s.b | 2 => s.c | 3 => s.d | 4 => s.e | 5 => s.f | 6 => s.g | _ => s.h
def one (s : St) (k w : Int) : Int := (s.h + bg1 s.e + ch s.e s.f s.g + k + w) % 4294967296
def two (s : St) : Int := (bg0 s.a + maj s.a s.b s.c) % 4294967296
def stp (s : St) (k w : Int) : St := ⟨(one s k w + two s) % 4294967296, s.a, s.b, s.c, (s.d + one s k w) % 4294967296, s.e, s.f, s.g⟩
def rnds (K W : Nat → Int) (x : St) : Nat → St
  | 0 => x
  | t + 1 => stp (rnds K W x t) (K t) (W t)
def St.add (x y : St) : St :=
  ⟨(x.a + y.a) % 4294967296, (x.b + y.b) % 4294967296, (x.c + y.c) % 4294967296, (x.d + y.d) % 4294967296, (x.e + y.e) % 4294967296, (x.f + y.f) % 4294967296, (x.g + y.g) % 4294967296, (x.h + y.h) % 4294967296⟩
def nums (s : ByteArray) : List Int := (List.range 16).map fun t => be4 s (4 * t)
def comp (K : Nat → Int) (x : St) (s : ByteArray) : St := (rnds K (wOf (nums s)) x 64).add x
theorem nums_length (s : ByteArray) : (nums s).length = 16 := by simp [nums]

theorem St.add_at (x y : St) (j : Nat) (h : j < 8) : (x.add y).at j = (x.at j + y.at j) % 4294967296 := by
  match j, h with
  | 0, _ => rfl | 1, _ => rfl | 2, _ => rfl | 3, _ => rfl | 4, _ => rfl | 5, _ => rfl | 6, _ => rfl | 7, _ => rfl

def inU (x : Int) : Prop := 0 ≤ x ∧ x < 4294967296
theorem inU_xr (a b : Int) : inU (xr a b) := ⟨bits_lo_u32 _ _ _, by have := bits_hi_u32 .xor a b; unfold xr; omega⟩
theorem inU_an (a b : Int) : inU (an a b) := ⟨bits_lo_u32 _ _ _, by have := bits_hi_u32 .and a b; unfold an; omega⟩
theorem inU_mod (a : Int) : inU (a % 4294967296) := ⟨by omega, by omega⟩
theorem inU_be4 (s : ByteArray) (i : Nat) : inU (be4 s i) := by
  have h0 := (s.data.getD i 0).toNat_lt; have h1 := (s.data.getD (i+1) 0).toNat_lt
  have h2 := (s.data.getD (i+2) 0).toNat_lt; have h3 := (s.data.getD (i+3) 0).toNat_lt
  unfold be4; constructor <;> omega
theorem inU_wOf (s : ByteArray) (t : Nat) : inU (wOf (nums s) t) := by
  by_cases h : t < 16
  · rw [wOf_old _ _ (by rw [nums_length]; exact h)]
    simp [nums, List.getD, h]; exact inU_be4 _ _
  · by_cases h2 : t < 64
    · rw [wOf_new _ (nums_length s) _ (by omega) h2]; exact inU_mod _
    · have hl : ∀ n (l : List Int), (wList n l).length = l.length + n := by
        intro n; induction n with
        | zero => intro l; rfl
        | succ n ih => intro l; rw [wList, ih]; simp; omega
      unfold wOf
      rw [List.getD, List.getElem?_eq_none (by rw [hl, nums_length]; omega)]
      exact ⟨by simp, by simp⟩
def St.ok (s : St) : Prop := inU s.a ∧ inU s.b ∧ inU s.c ∧ inU s.d ∧ inU s.e ∧ inU s.f ∧ inU s.g ∧ inU s.h
theorem stp_ok (s : St) (k w : Int) (h : s.ok) : (stp s k w).ok := ⟨inU_mod _, h.1, h.2.1, h.2.2.1, inU_mod _, h.2.2.2.2.1, h.2.2.2.2.2.1, h.2.2.2.2.2.2.1⟩
theorem rnds_ok (K W : Nat → Int) (x : St) (h : x.ok) : ∀ t, (rnds K W x t).ok
  | 0 => h
  | t + 1 => stp_ok _ _ _ (rnds_ok K W x h t)
theorem add_ok (x y : St) : (x.add y).ok := ⟨inU_mod _, inU_mod _, inU_mod _, inU_mod _, inU_mod _, inU_mod _, inU_mod _, inU_mod _⟩
theorem comp_ok (K : Nat → Int) (x : St) (s : ByteArray) : (comp K x s).ok := add_ok _ _
theorem St.at_ok (s : St) (h : s.ok) (j : Nat) : inU (s.at j) := by
  obtain ⟨h0, h1, h2, h3, h4, h5, h6, h7⟩ := h
  unfold St.at; split <;> assumption

theorem be4_eq (s : ByteArray) (i : Nat) (h : i + 4 ≤ s.size) :
    be4 s i = (((s[i].toNat * 256 + s[i + 1].toNat) * 256 + s[i + 2].toNat) * 256 + s[i + 3].toNat : Nat) := by
  have e : ∀ j (hj : j < s.size), s.data.getD j 0 = s[j] := by
    intro j hj; simp [Array.getD, hj]; rfl
  unfold be4
  rw [e i (by omega), e (i+1) (by omega), e (i+2) (by omega), e (i+3) (by omega)]
  simp
theorem fold_w (s : ByteArray) (t : Nat) (h16 : ¬ t < 16) (h64 : t < 64) (x : Int)
    (hx : x = wNext (wOf (nums s) (t - 16)) (wOf (nums s) (t - 15)) (wOf (nums s) (t - 7)) (wOf (nums s) (t - 2))) : Value.int .u32 x = u32V (wOf (nums s) t) := by
  rw [wOf_new (nums s) (nums_length s) t (by omega) h64, hx]; rfl
end Go.Proofs.YtohcackebmmikaaDoor
