/- SHA-256 by lists and numbers: no program. SHA-256 by lists and numbers, the text's part: no program. Bytes and digits; slices of bytes. -/
import Derived.Test.YtpkkdjmcabefbaaDoorDLib
import Derived.Test.YtpkkdjmcabefbaaDoorChecked
import Derived.StillTailTactics
namespace Go.Proofs.YtpkkdjmcabefbaaDoor

def rot (x n : Int) : Int := (x / 2 ^ n.toNat + x * 2 ^ (32 - n).toNat % 4294967296) % 4294967296
def u32V (x : Int) : Value := .int .u32 x
def be4 (s : ByteArray) (i : Nat) : Int := (((s.data.getD i 0).toNat * 256 + (s.data.getD (i+1) 0).toNat) * 256 + (s.data.getD (i+2) 0).toNat) * 256 + (s.data.getD (i+3) 0).toNat
def xr (a b : Int) : Int := bits .xor .u32 a b
def an (a b : Int) : Int := bits .and .u32 a b
def sg0 (x : Int) : Int := xr (xr (rot x 7) (rot x 18)) (x / 8)
def sg1 (x : Int) : Int := xr (xr (rot x 17) (rot x 19)) (x / 1024)
def bg0 (x : Int) : Int := xr (xr (rot x 2) (rot x 13)) (rot x 22)
def bg1 (x : Int) : Int := xr (xr (rot x 6) (rot x 11)) (rot x 25)
def nt (x : Int) : Int := bits .xor .u32 (IntKind.max .u32) x
def ch (e f g : Int) : Int := xr (an e f) (an (nt e) g)
def maj (a b c : Int) : Int := xr (xr (an a b) (an a c)) (an b c)
def wNext (a b c d : Int) : Int := (a + sg0 b + c + sg1 d) % 4294967296
def wList : Nat → List Int → List Int
  | 0, l => l
  | n + 1, l => wList n (l ++ [wNext (l.getD (l.length - 16) 0) (l.getD (l.length - 15) 0) (l.getD (l.length - 7) 0) (l.getD (l.length - 2) 0)])
def wOf (b : List Int) (t : Nat) : Int := (wList 48 b).getD t 0

theorem wList_old : ∀ (n : Nat) (l : List Int) (t : Nat), t < l.length → (wList n l).getD t 0 = l.getD t 0
  | 0, _, _, _ => rfl
  | n + 1, l, t, h => by
    rw [wList, wList_old n _ t (by simp; omega)]
    simp [List.getD, List.getElem?_append_left h]
theorem wList_new : ∀ (n : Nat) (l : List Int) (t : Nat), 16 ≤ l.length → l.length ≤ t → t < l.length + n →
    (wList n l).getD t 0 = wNext ((wList n l).getD (t - 16) 0) ((wList n l).getD (t - 15) 0) ((wList n l).getD (t - 7) 0) ((wList n l).getD (t - 2) 0)
  | 0, l, t, h, h1, h2 => by omega
  | n + 1, l, t, h, h1, h2 => by
    simp only [wList]
    by_cases ht : t = l.length
    · subst ht
      rw [wList_old n _ _ (by simp), wList_old n _ (l.length - 16) (by simp; omega), wList_old n _ (l.length - 15) (by simp; omega), wList_old n _ (l.length - 7) (by simp; omega), wList_old n _ (l.length - 2) (by simp; omega)]
      have e : ∀ k, 0 < k → k ≤ l.length → (l ++ [wNext (l.getD (l.length - 16) 0) (l.getD (l.length - 15) 0) (l.getD (l.length - 7) 0) (l.getD (l.length - 2) 0)]).getD (l.length - k) 0 = l.getD (l.length - k) 0 := by
        intro k hk hk2; simp only [List.getD]; rw [List.getElem?_append_left (by omega)]
      rw [e 16 (by omega) (by omega), e 15 (by omega) (by omega), e 7 (by omega) (by omega), e 2 (by omega) (by omega)]
      simp [List.getD]
    · exact wList_new n _ t (by simp; omega) (by simp; omega) (by simp; omega)
theorem wOf_old (b : List Int) (t : Nat) (h : t < b.length) : wOf b t = b.getD t 0 := wList_old 48 b t h
theorem wOf_new (b : List Int) (hb : b.length = 16) (t : Nat) (h : 16 ≤ t) (h2 : t < 64) : wOf b t = wNext (wOf b (t - 16)) (wOf b (t - 15)) (wOf b (t - 7)) (wOf b (t - 2)) :=
  wList_new 48 b t (by omega) (by omega) (by omega)

structure St where
  a : Int
  b : Int
  c : Int
  d : Int
  e : Int
  f : Int
  g : Int
  h : Int
def St.at (s : St) : Nat → Int
  | 0 => s.a | 1 => s.b | 2 => s.c | 3 => s.d | 4 => s.e | 5 => s.f | 6 => s.g | _ => s.h
def one (s : St) (k w : Int) : Int := (s.h + bg1 s.e + ch s.e s.f s.g + k + w) % 4294967296
def two (s : St) : Int := (bg0 s.a + maj s.a s.b s.c) % 4294967296
def stp (s : St) (k w : Int) : St := ⟨(one s k w + two s) % 4294967296, s.a, s.b, s.c, (s.d + one s k w) % 4294967296, s.e, s.f, s.g⟩
def rnds (K W : Nat → Int) (x : St) : Nat → St
  | 0 => x
  | t + 1 => stp (rnds K W x t) (K t) (W t)
def St.add (x y : St) : St :=
  ⟨(x.a + y.a) % 4294967296, (x.b + y.b) % 4294967296, (x.c + y.c) % 4294967296, (x.d + y.d) % 4294967296, (x.e + y.e) % 4294967296, (x.f + y.f) % 4294967296, (x.g + y.g) % 4294967296, (x.h + y.h) % 4294967296⟩
def nums (s : ByteArray) : List Int := (List.range 16).map fun t => be4 s (4 * t)
def comp (K : Nat → Int) (x : St) (s : ByteArray) : St := (rnds K (wOf (nums s)) x 64).add x
theorem nums_length (s : ByteArray) : (nums s).length = 16 := by simp [nums]

theorem St.add_at (x y : St) (j : Nat) (h : j < 8) : (x.add y).at j = (x.at j + y.at j) % 4294967296 := by
  match j, h with
  | 0, _ => rfl | 1, _ => rfl | 2, _ => rfl | 3, _ => rfl | 4, _ => rfl | 5, _ => rfl | 6, _ => rfl | 7, _ => rfl

def inU (x : Int) : Prop := 0 ≤ x ∧ x < 4294967296
theorem inU_xr (a b : Int) : inU (xr a b) := ⟨bits_lo_u32 _ _ _, by have := bits_hi_u32 .xor a b; unfold xr; omega⟩
theorem inU_an (a b : Int) : inU (an a b) := ⟨bits_lo_u32 _ _ _, by have := bits_hi_u32 .and a b; unfold an; omega⟩
theorem inU_mod (a : Int) : inU (a % 4294967296) := ⟨by omega, by omega⟩
theorem inU_be4 (s : ByteArray) (i : Nat) : inU (be4 s i) := by
  have h0 := (s.data.getD i 0).toNat_lt; have h1 := (s.data.getD (i+1) 0).toNat_lt
  have h2 := (s.data.getD (i+2) 0).toNat_lt; have h3 := (s.data.getD (i+3) 0).toNat_lt
  unfold be4; constructor <;> omega
theorem inU_wOf (s : ByteArray) (t : Nat) : inU (wOf (nums s) t) := by
  by_cases h : t < 16
  · rw [wOf_old _ _ (by rw [nums_length]; exact h)]
    simp [nums, List.getD, h]; exact inU_be4 _ _
  · by_cases h2 : t < 64
    · rw [wOf_new _ (nums_length s) _ (by omega) h2]; exact inU_mod _
    · have hl : ∀ n (l : List Int), (wList n l).length = l.length + n := by
        intro n; induction n with
        | zero => intro l; rfl
        | succ n ih => intro l; rw [wList, ih]; simp; omega
      unfold wOf
      rw [List.getD, List.getElem?_eq_none (by rw [hl, nums_length]; omega)]
      exact ⟨by simp, by simp⟩
def St.ok (s : St) : Prop := inU s.a ∧ inU s.b ∧ inU s.c ∧ inU s.d ∧ inU s.e ∧ inU s.f ∧ inU s.g ∧ inU s.h
theorem stp_ok (s : St) (k w : Int) (h : s.ok) : (stp s k w).ok := ⟨inU_mod _, h.1, h.2.1, h.2.2.1, inU_mod _, h.2.2.2.2.1, h.2.2.2.2.2.1, h.2.2.2.2.2.2.1⟩
theorem rnds_ok (K W : Nat → Int) (x : St) (h : x.ok) : ∀ t, (rnds K W x t).ok
  | 0 => h
  | t + 1 => stp_ok _ _ _ (rnds_ok K W x h t)
theorem add_ok (x y : St) : (x.add y).ok := ⟨inU_mod _, inU_mod _, inU_mod _, inU_mod _, inU_mod _, inU_mod _, inU_mod _, inU_mod _⟩
theorem comp_ok (K : Nat → Int) (x : St) (s : ByteArray) : (comp K x s).ok := add_ok _ _
theorem St.at_ok (s : St) (h : s.ok) (j : Nat) : inU (s.at j) := by
  obtain ⟨h0, h1, h2, h3, h4, h5, h6, h7⟩ := h
  unfold St.at; split <;> assumption

theorem be4_eq (s : ByteArray) (i : Nat) (h : i + 4 ≤ s.size) :
    be4 s i = (((s[i].toNat * 256 + s[i + 1].toNat) * 256 + s[i + 2].toNat) * 256 + s[i + 3].toNat : Nat) := by
  have e : ∀ j (hj : j < s.size), s.data.getD j 0 = s[j] := by
    intro j hj; simp [Array.getD, hj]; rfl
  unfold be4
  rw [e i (by omega), e (i+1) (by omega), e (i+2) (by omega), e (i+3) (by omega)]
  simp
theorem fold_w (s : ByteArray) (t : Nat) (h16 : ¬ t < 16) (h64 : t < 64) (x : Int)
    (hx : x = wNext (wOf (nums s) (t - 16)) (wOf (nums s) (t - 15)) (wOf (nums s) (t - 7)) (wOf (nums s) (t - 2))) : Value.int .u32 x = u32V (wOf (nums s) t) := by
  rw [wOf_new (nums s) (nums_length s) t (by omega) h64, hx]; rfl
end Go.Proofs.YtpkkdjmcabefbaaDoor
namespace Go.Proofs.YtpkkdjmcabefbaaDoor
def u64V (x : Int) : Value := .int .u64 x
def cub : List Int := [4794697085070296209, 13096744586791213989, 4131703405765792241, 10538285296827260629, 15566598207151758081, 2608012711741390275, 8268148720858477054, 11230858888332702068, 16472876343709550470, 1135362055407968716, 3308224257782482090, 6679025011744409818, 10970295157772109421, 12683024718762704839, 14330467156182405447, 489312709404862823, 2861767655337697592, 5560940570391088403, 7280758554198936251, 9350256978237205637, 11727347735703742027, 14000437183109681571, 15101387698198873636, 17586052440550711408, 1847814047869135880, 2830643534987574453, 4115178123771292234, 6601373596217405427, 8399075790807196527, 9568029438005150216, 10430055239000288491, 13761210420988836082]
def sqr : List Int := [7640891576010911365, 4354685563439150394, 5840696474761259148, 2270897967128956185]
def hv (l : List Int) : List Int := l.flatMap fun x => [x / 4294967296, x % 4294967296]
theorem hv_length (l : List Int) : (hv l).length = 2 * l.length := by
  induction l with
  | nil => rfl
  | cons c l ih => simp [hv] at ih ⊢; omega
theorem hv_take (l : List Int) (k : Nat) (h : k < l.length) : hv (l.take (k + 1)) = hv (l.take k) ++ [l.getD k 0 / 4294967296, l.getD k 0 % 4294967296] := by
  have e : l.getD k 0 = l[k] := by simp [List.getD, h]
  unfold hv
  rw [List.take_succ_eq_append_getElem h, List.flatMap_append, e]
  rfl
def Kr (j : Nat) : Int := (hv cub).getD j 0
def stOf (l : List Int) : St := ⟨l.getD 0 0, l.getD 1 0, l.getD 2 0, l.getD 3 0, l.getD 4 0, l.getD 5 0, l.getD 6 0, l.getD 7 0⟩
theorem stOf_at (l : List Int) (j : Nat) (h : j < 8) : (stOf l).at j = l.getD j 0 := by
  match j, h with
  | 0, _ => rfl | 1, _ => rfl | 2, _ => rfl | 3, _ => rfl | 4, _ => rfl | 5, _ => rfl | 6, _ => rfl | 7, _ => rfl
def X0 : St := stOf (hv sqr)

def beB (n : Nat) : Nat → List UInt8
  | 0 => []
  | k + 1 => UInt8.ofNat (n / 256 ^ k % 256) :: beB n k
theorem beB_length (n k : Nat) : (beB n k).length = k := by induction k with | zero => rfl | succ k ih => simp [beB, ih]
def hashB (K : Nat → Int) : Nat → St → List UInt8 → St
  | 0, x, _ => x
  | n + 1, x, l => hashB K n (comp K x ⟨(l.take 64).toArray⟩) (l.drop 64)
def zeros (n : Nat) : Nat := (119 - n % 64) % 64
def pad (l : List UInt8) : List UInt8 := l ++ [128] ++ List.replicate (zeros l.length) 0 ++ beB (8 * l.length) 8
theorem pad_length (l : List UInt8) : (pad l).length % 64 = 0 ∧ (pad l).length ≤ l.length + 73 := by
  simp only [pad, zeros, List.length_append, List.length_replicate, beB_length, List.length_cons, List.length_nil]
  omega
def outL (x : St) (n : Nat) : List UInt8 := (List.range n).flatMap fun j => beB (x.at j).toNat 4
theorem outL_succ (x : St) (n : Nat) : outL x (n + 1) = outL x n ++ beB (x.at n).toNat 4 := by simp [outL, List.range_succ]
theorem outL_length (x : St) (n : Nat) : (outL x n).length = 4 * n := by
  induction n with
  | zero => rfl
  | succ n ih => rw [outL_succ]; simp [ih, beB_length]; omega
def sumBy (K : Nat → Int) (x : St) (l : List UInt8) : List UInt8 := outL (hashB K ((pad l).length / 64) x (pad l)) 8
def sumL (l : List UInt8) : List UInt8 := sumBy Kr X0 l
theorem sumBy_length (K : Nat → Int) (x : St) (l : List UInt8) : (sumBy K x l).length = 32 := outL_length _ 8
theorem hashB_ok (K : Nat → Int) : ∀ (n : Nat) (x : St) (l : List UInt8), x.ok → (hashB K n x l).ok
  | 0, _, _, h => h
  | n + 1, _, _, _ => hashB_ok K n _ _ (comp_ok _ _ _)
def keyL (k : List UInt8) : List UInt8 := let q := if 64 < k.length then sumL k else k; q ++ List.replicate (64 - q.length) 0
def xorL (k : List UInt8) (m : UInt8) : List UInt8 := k.map (· ^^^ m)
def macL (k l : List UInt8) : List UInt8 := sumL (xorL (keyL k) 92 ++ sumL (xorL (keyL k) 54 ++ l))

end Go.Proofs.YtpkkdjmcabefbaaDoor
namespace Go.Proofs.YtpkkdjmcabefbaaDoor
open Go.RowKit

theorem Tryd.bytesSl : Sl Tryd.prog 57 5 (.int .u8 0) 1 := ⟨Tryd.underlying57, by kernel_rfl, rfl⟩

def hexDig (k : Nat) : UInt8 := (#[48, 49, 50, 51, 52, 53, 54, 55, 56, 57, 97, 98, 99, 100, 101, 102] : Array UInt8).getD k 0
def hexOf (l : List UInt8) : List UInt8 := l.flatMap fun c => [hexDig (c.toNat / 16), hexDig (c.toNat % 16)]

theorem bits_and15 (n : Nat) (h : n < 256) : bits BinOp.and IntKind.u8 (n : Int) 15 = (n : Int) % 16 :=
  bits_mask .u8 8 (by decide) (by intro n h0 h1; rw [IntKind.wrap_u8]; omega) 4 (by decide) n (by omega) (by omega)

theorem hexl (i : Int) (m : Nat) (h : i.toNat < 16) (e : i.toNat = m) :
    (({ data := #[48, 49, 50, 51, 52, 53, 54, 55, 56, 57, 97, 98, 99, 100, 101, 102] } : ByteArray)[i.toNat]'h) = hexDig m := by
  subst e
  generalize i.toNat = k at h ⊢
  have : ∀ k, (h : k < 16) → (({ data := #[48, 49, 50, 51, 52, 53, 54, 55, 56, 57, 97, 98, 99, 100, 101, 102] } : ByteArray)[k]'h) = hexDig k := by decide
  exact this k h

theorem hexOf_snoc (l : List UInt8) (c : UInt8) : hexOf (l ++ [c]) = hexOf l ++ [hexDig (c.toNat / 16), hexDig (c.toNat % 16)] := by simp [hexOf]
theorem hexOf_length (l : List UInt8) : (hexOf l).length = 2 * l.length := by
  induction l with
  | nil => rfl
  | cons c l ih => simp [hexOf] at ih ⊢; omega
theorem take_snoc (s : ByteArray) (k : Nat) (h : k < s.size) : s.data.toList.take (k + 1) = s.data.toList.take k ++ [s[k]] := by
  rw [List.take_succ_eq_append_getElem (by simpa using h)]; rfl

theorem hex_step (s : ByteArray) (k : Nat) (hk : k < s.size) (x y : UInt8) (hx : x = hexDig (s[k].toNat / 16)) (hy : y = hexDig (s[k].toNat % 16)) :
    (hexOf (s.data.toList.take k)).map byteV ++ [.int .u8 (x.toNat : Int), .int .u8 (y.toNat : Int)] = (hexOf (s.data.toList.take (k + 1))).map byteV := by
  rw [take_snoc s k hk, hexOf_snoc, hx, hy]; simp [byteV]

end Go.Proofs.YtpkkdjmcabefbaaDoor
namespace Go.Proofs.YtpkkdjmcabefbaaDoor
open Go.RowKit

theorem bits_xor8 (a b : UInt8) : bits BinOp.xor IntKind.u8 (a.toNat : Int) (b.toNat : Int) = ((a ^^^ b).toNat : Int) := by
  have := a.toNat_lt; have := b.toNat_lt
  unfold bits
  have e : ∀ n : Nat, n < 256 → (BitVec.ofInt IntKind.u8.bits (n : Int)).toNat = n := by
    intro n hn; show (BitVec.ofInt 8 (n : Int)).toNat = n
    rw [BitVec.ofInt_natCast, BitVec.toNat_ofNat]; omega
  have h : (BitVec.ofInt IntKind.u8.bits (a.toNat : Int) ^^^ BitVec.ofInt IntKind.u8.bits (b.toNat : Int)).toNat = a.toNat ^^^ b.toNat := by
    rw [BitVec.toNat_xor, e _ (by omega), e _ (by omega)]
  have h2 : a.toNat ^^^ b.toNat < 2 ^ 8 := Nat.xor_lt_two_pow (by omega) (by omega)
  simp only [h, IntKind.wrap_u8]
  rw [UInt8.toNat_xor]
  omega

set_option maxHeartbeats 400000 in
theorem bytes_ref (n : Nat) (c : Nat) (w : World) (h : n < 18446744073709551616) (hc : c ≤ 8) :
    Calls Tryd.prog 49 #[.int .u64 n, .int .i64 c] w fun e w' => e = .returned (.string ⟨(beB n c).toArray⟩) ∧ Below w.heap.size w w' := by
  go_enter Tryd.func49, Tryd.ntmps49
  go_wp2
  go_loopw [0, 5, 6] (fun m s i wr => ∃ k : Nat, k ≤ c ∧ i = .int .i64 k ∧ m = .int .u64 ((n / 256 ^ k : Nat) : Int) ∧ s = .string ⟨(beB n k).toArray⟩ ∧ Below w.heap.size w wr) (fun _ _ i _ => c - (intOf i).toNat)
  case atStart => exact ⟨0, by omega, rfl, by simp, rfl, Below.refl _ _⟩
  case round =>
    obtain ⟨k, hk, rfl, rfl, rfl, hb⟩ := hrel
    by_cases hlt : k < c
    · obtain ⟨m, hm⟩ : ∃ m, m = n / 256 ^ k := ⟨_, rfl⟩
      have hmn : m ≤ n := by rw [hm]; exact Nat.div_le_self _ _
      rw [← hm]
      have HM := Lib.hid hm; clear hm
      have hl := beB_length n k
      obtain ⟨l, hle⟩ : ∃ l, l = beB n k := ⟨_, rfl⟩
      rw [← hle] at hl ⊢
      have HL := Lib.hid hle; clear hle
      have HLL := Lib.hid hl
      have hll : l.length ≤ 8 := by omega
      clear hl
      have hcv := run_string_block (w := wr.alloc (.cells #[.int .u8 ((m : Int) % 256)] 5)) (src := 57) (dst := 9) Tryd.underlying57 Tryd.underlying5 Tryd.underlying9 wr.heap.size 1 [UInt8.ofNat (m % 256)] (by rw [heap_at_alloc]; simp [byteV])
      simp only [List.length_cons, List.length_nil, Nat.zero_add] at hcv
      go_wp2
      go_roundw
      case rel => exact ⟨k + 1, by omega, by go_num, by rw [Nat.pow_succ, ← Nat.div_div_eq_div_mul, ← HM.out]; simp, by simp only [beB]; rw [← HM.out, ← HL.out]; exact congrArg Value.string (ByteArray.mk_append_mk [_] l), hb.alloc hb.size _⟩
      case measure => simp [intOf]; omega
    · obtain rfl : c = k := by omega
      go_wp2
      go_ret
      exact ⟨rfl, hb⟩
end Go.Proofs.YtpkkdjmcabefbaaDoor
namespace Go.Proofs.YtpkkdjmcabefbaaDoor
open Go.RowKit

theorem Tryd.u32Sl : Sl Tryd.prog 62 80 (.int .u32 0) 4 := ⟨Tryd.underlying62, by kernel_rfl, rfl⟩

set_option maxHeartbeats 400000 in
theorem bits_ref (x n : Int) (w : World) (hn : 1 ≤ n) (hn2 : n ≤ 31) :
    Calls Tryd.prog 75 #[.int .u32 x, .int .i64 n] w fun e w' => e = .returned (.int .u32 (rot x n)) ∧ Same w w' := by
  go_enter Tryd.func75, Tryd.ntmps75
  go_wp2_with fail
  go_quiet (fail)
  go_wp2
  go_ret
  exact ⟨rfl, Same.of _ _⟩

theorem ret_u32 {a b : Int} (h : a = b) : Ending.returned (.int .u32 a) = .returned (.int .u32 b) := by rw [h]

set_option maxHeartbeats 400000 in
theorem number_ref (s : ByteArray) (i : Nat) (w : World) (h : i + 4 ≤ s.size) (hs : s.size ≤ 9223372036854775800) :
    Calls Tryd.prog 74 #[.string s, .int .i64 i] w fun e w' => e = .returned (.int .u32 (be4 s i)) ∧ w = w' := by
  go_enter Tryd.func74, Tryd.ntmps74
  go_wp2
  refine wp_loop_rounds 5 ?_
  rw [rounds_succ]; go_wp2
  rw [rounds_succ]; go_wp2
  rw [rounds_succ]; go_wp2
  rw [rounds_succ]; go_wp2
  rw [rounds_succ]; go_wp2
  go_ret
  refine ⟨ret_u32 ?_, rfl⟩
  rw [be4_eq s i h]
  simp only [Nat.add_assoc, Nat.reduceAdd]
  have h0 := s[i].toNat_lt; have h1 := s[i + 1].toNat_lt; have h2 := s[i + 2].toNat_lt; have h3 := s[i + 3].toNat_lt
  omega

def shf (Y : Nat → Int) (i j : Nat) : Value := if i < j then u32V (Y (j - 1)) else u32V (Y j)

theorem shf_step (Y : Nat → Int) (i j : Nat) (h : 0 < i) : shf Y (i - 1) j = if j = i then u32V (Y (i - 1)) else shf Y i j := by
  unfold shf
  by_cases h1 : j = i
  · subst h1; rw [if_pos (by omega), if_pos rfl]
  · rw [if_neg h1]
    by_cases h2 : i < j
    · rw [if_pos (by omega), if_pos h2]
    · rw [if_neg (by omega), if_neg h2]

set_option maxRecDepth 100000 in
theorem stp_row (Y : St) (k x : Int) (j : Nat) (hj : j < 8) :
    u32V ((stp Y k x).at j) = if j = 0 then u32V ((one Y k x + two Y) % 4294967296) else if j = 4 then u32V ((Y.d + one Y k x) % 4294967296) else shf Y.at 0 j := by
  match j, hj with
  | 0, _ => rfl | 1, _ => rfl | 2, _ => rfl | 3, _ => rfl | 4, _ => rfl | 5, _ => rfl | 6, _ => rfl | 7, _ => rfl


set_option maxRecDepth 100000 in
set_option maxHeartbeats 4000000 in
theorem block_ref (gx gk cx ck : Nat) (X : St) (K : Nat → Int) (s : ByteArray) (w : World) (hs : s.size = 64)
    (hx : ∀ j, j < 8 → w.cell? ⟨gx, j, none⟩ = some (u32V (X.at j))) (hk : ∀ j, j < 64 → w.cell? ⟨gk, j, none⟩ = some (u32V (K j)))
    (hgx : gx < w.heap.size) (hgk : gk < w.heap.size) :
    Calls Tryd.prog 50 #[.slice (some ⟨gx, 0, none⟩) 8 cx, .string s, .slice (some ⟨gk, 0, none⟩) 64 ck] w fun e w' =>
      ∃ g, e = .returned (.slice (some ⟨g, 0, none⟩) 8 8) ∧ w'.rowIs g 80 8 (fun j => u32V ((comp K X s).at j)) ∧ Below w.heap.size w w' := by
  go_enter Tryd.func50, Tryd.ntmps50
  go_wp2_with (first
      | (at_make; refine list_makeN Tryd.u32Sl rfl _ _ rfl 64 _ _ rfl rfl rfl rfl (by omega) (by unfold maxLen; omega) rfl ?_))
  intro w1 hrow hb1
  obtain ⟨W, hW⟩ : ∃ W, W = wOf (nums s) := ⟨_, rfl⟩
  have HW := Lib.hid hW; clear hW
  go_wp2_with fail
  go_loopw [8] (fun i wr => ∃ t : Nat, t ≤ 64 ∧ i = .int .i64 t ∧ wr.rowIs w.heap.size 80 64 (fun j => if j < t then u32V (W j) else u32V 0) ∧ Below w.heap.size w wr) (fun i _ => 64 - (intOf i).toNat)
  case atStart => exact ⟨0, by omega, rfl, hrow.congr (fun j hj => by simp [u32V]), hb1⟩
  case round =>
    obtain ⟨t, ht, rfl, hrow, hb⟩ := hrel
    by_cases h16 : t < 16
    · have hst := hrow.cell (i := t) (by omega)
      have hfz := hrow.frozen t
      go_wp2_with (first | (go_at_call 74; refine (number_ref s (4 * t) _ (by omega) (by omega)).mono ?_; rintro e w' ⟨rfl, rfl⟩))
      go_roundw
      case rel =>
        refine ⟨t + 1, by omega, by go_num, row_put hrow _ _ (fun j hj => ?_), hb.setCell (by simp) _⟩
        by_cases hjt : j = t
        · subst hjt
          rw [if_pos (by omega), if_pos rfl, HW.out, wOf_old _ _ (by rw [nums_length]; exact h16)]
          simp [nums, List.getD, h16, u32V]
        · rw [if_neg hjt]
          by_cases hl : j < t
          · rw [if_pos hl, if_pos (by omega)]
          · rw [if_neg hl, if_neg (by omega)]
      case measure => simp [intOf]; omega
    · by_cases h64 : t < 64
      · have c16 := hrow.cell (i := t - 16) (by omega)
        have c15 := hrow.cell (i := t - 15) (by omega)
        have c7 := hrow.cell (i := t - 7) (by omega)
        have c2 := hrow.cell (i := t - 2) (by omega)
        have hst := hrow.cell (i := t) (by omega)
        have hfz := hrow.frozen t
        simp only [if_pos (show t - 16 < t by omega), if_pos (show t - 15 < t by omega), if_pos (show t - 7 < t by omega), if_pos (show t - 2 < t by omega), u32V, Nat.lt_irrefl, if_false] at c16 c15 c7 c2 hst
        have i0 : (0 : Int) ≤ (t : Int) := by omega
        have i1 : (t : Int) < 64 := by omega
        have x0 : IntKind.i64.wrap ((t : Int) - 16) = (t : Int) - 16 := IntWalk.i64_in _ (by omega)
        have x1 : (0 : Int) ≤ (t : Int) - 16 := by omega
        have x2 : (t : Int) - 16 < 64 := by omega
        have x3 : ((t : Int) - 16).toNat = t - 16 := by omega
        have z0 : IntKind.i64.wrap ((t : Int) - 7) = (t : Int) - 7 := IntWalk.i64_in _ (by omega)
        have y1 : (16 : Int) ≤ (t : Int) := by omega
        have y2 : (7 : Int) ≤ (t : Int) := by omega
        have z1 : (0 : Int) ≤ (t : Int) - 7 := by omega
        have z2 : (t : Int) - 7 < 64 := by omega
        have z3 : ((t : Int) - 7).toNat = t - 7 := by omega
        go_wp2_with fail
        go_region_held3 (fun w' => w'.cell? ⟨w.heap.size, t - 16, none⟩ = some (.int .u32 (W (t - 16))) ∧ w'.cell? ⟨w.heap.size, t - 7, none⟩ = some (.int .u32 (W (t - 7))))
          (first | exact ⟨c16, c7⟩ | exact ⟨cell_set_ne _ _ _ _ _ _ c16 (by omega), cell_set_ne _ _ _ _ _ _ c7 (by omega)⟩) ((go_at_call 75; refine (bits_ref _ _ _ (by omega) (by omega)).mono ?_; rintro e w' ⟨rfl, n, rfl⟩))
        go_wp2
        go_roundw
        case rel =>
          refine ⟨t + 1, by omega, by go_num, row_put (f := fun j => if j < t then u32V (W j) else u32V 0) ?_ _ _ (fun j hj => ?_), (hb.trans ((Same.of wr _).below _)).setCell (Nat.le_refl _) _⟩
          · exact rowIs_same hrow (Same.of _ _)
          · by_cases hjt : j = t
            · subst hjt
              rw [if_pos (by omega), if_pos rfl, HW.out]
              refine (fold_w s j h16 h64 _ ?_).symm
              unfold wNext sg0 sg1 xr
              omega
            · rw [if_neg hjt]
              by_cases hl : j < t
              · rw [if_pos hl, if_pos (by omega)]
              · rw [if_neg hl, if_neg (by omega)]
        case measure => simp [intOf]; omega
      · obtain rfl : t = 64 := by omega
        have hrw : wr.rowIs w.heap.size 80 64 (fun j => u32V (W j)) := hrow.congr (fun j hj => by simp [hj])
        obtain ⟨wB, hwB⟩ : ∃ wB : World, wB = wr := ⟨_, rfl⟩
        subst hwB
        have hgw := hrw.lt
        have hbw := hb.size
        have hgk2 : gk < wB.heap.size := by omega
        have hgx2 : gx < wB.heap.size := by omega
        clear hrow h16 h64
        go_wp2_with (first
          | (at_make; refine list_makeN Tryd.u32Sl rfl _ _ rfl 8 _ _ rfl rfl rfl rfl (by omega) (by unfold maxLen; omega) rfl ?_))
        intro w3 hy hb3
        have hx3 : ∀ j, j < 8 → w3.cell? ⟨gx, j, none⟩ = some (u32V (X.at j)) := fun j hj => by
          rw [hb3.cell hgx2, hb.cell hgx]; exact hx j hj
        go_wp2_with (first
          | (refine list_copy_row Tryd.u32Sl rfl _ _ rfl wB.heap.size 8 rfl _ hy gx cx rfl (fun j => u32V (X.at j)) hx3 (fun _ => rfl) ?_))
        intro w4 hy4 hb4
        have hb5 : Below wB.heap.size wB w4 := hb3.trans hb4
        clear hx3 hb3 hb4 hy
        go_wp2_with fail
        go_loopw [12] (fun i wr4 => ∃ t : Nat, t ≤ 64 ∧ i = .int .i64 t ∧ wr4.rowIs wB.heap.size 80 8 (fun j => u32V ((rnds K W X t).at j)) ∧ Below wB.heap.size wB wr4) (fun i _ => 64 - (intOf i).toNat)
        case atStart => exact ⟨0, by omega, rfl, hy4, hb5⟩
        case round =>
          obtain ⟨t, ht, rfl, hy5, hb6⟩ := hrel
          by_cases h64 : t < 64
          · obtain ⟨Y, hY⟩ : ∃ Y, Y = rnds K W X t := ⟨_, rfl⟩
            rw [← hY] at hy5
            have HY := Lib.hid hY; clear hY
            have e0 := hy5.cell (i := 0) (by omega)
            have e1 := hy5.cell (i := 1) (by omega)
            have e2 := hy5.cell (i := 2) (by omega)
            have e4 := hy5.cell (i := 4) (by omega)
            have e5 := hy5.cell (i := 5) (by omega)
            have e6 := hy5.cell (i := 6) (by omega)
            have e7 := hy5.cell (i := 7) (by omega)
            have ek := (hb6.cell (p := ⟨gk, t, none⟩) hgk2).trans ((hb.cell (p := ⟨gk, t, none⟩) hgk).trans (hk t h64))
            have ew := (rowIs_below hrw hb6 hgw).cell h64
            simp only [u32V, St.at] at e0 e1 e2 e4 e5 e6 e7 ek ew
            have i0 : (0 : Int) ≤ (t : Int) := by omega
            have i1 : (t : Int) < 64 := by omega
            go_wp2_with fail
            go_quiet ((go_at_call 75; exact quietS (bits_ref _ _ _ (by omega) (by omega))))
            obtain ⟨n1, hn1⟩ : ∃ n1, n1 = nq := ⟨_, rfl⟩
            subst hn1
            go_wp2_with fail
            go_quiet ((go_at_call 75; exact quietS2 (bits_ref _ _ _ (by omega) (by omega))))
            clear e0 e1 e2 e4 e5 e6 e7 ek ew
            obtain ⟨A, hA⟩ : ∃ A, A = one Y (K t) (W t) := ⟨_, rfl⟩
            have HA := Lib.hid hA
            simp only [one, bg1, ch, xr, an, nt] at hA
            rw [← hA]
            clear hA
            obtain ⟨C, hC⟩ : ∃ C, C = two Y := ⟨_, rfl⟩
            have HC := Lib.hid hC
            simp only [two, bg0, maj, xr, an] at hC
            rw [← hC]
            clear hC
            generalize hwC : (wr.drewN n1).drewN nq = wC
            have hsm : Same wr wC := by rw [← hwC]; exact (Same.of _ _).trans (Same.of _ _)
            clear hwC
            have hb7 : Below wB.heap.size wB wC := hb6.trans (hsm.below _)
            have hy7 : wC.rowIs wB.heap.size 80 8 (shf Y.at 7) := (rowIs_same hy5 hsm).congr (fun j hj => by unfold shf; rw [if_neg (by omega)])
            clear hy5 hb6 hsm
            go_wp2_with fail
            go_loopw [17] (fun i wx => ∃ i1 : Nat, i1 ≤ 7 ∧ i = .int .i64 i1 ∧ wx.rowIs wB.heap.size 80 8 (shf Y.at i1) ∧ Below wB.heap.size wB wx) (fun i _ => (intOf i).toNat)
            case atStart => exact ⟨7, by omega, rfl, hy7, hb7⟩
            case round =>
              obtain ⟨j, hj, rfl, hy8, hb8⟩ := hrel
              by_cases h0 : 0 < j
              · have c1 := hy8.cell (i := j - 1) (by omega)
                have c2 := hy8.cell (i := j) (by omega)
                have c3 := hy8.frozen j
                have c4 : shf Y.at j (j - 1) = .int .u32 (Y.at (j - 1)) := by unfold shf; rw [if_neg (by omega)]; rfl
                have c5 : shf Y.at j j = .int .u32 (Y.at j) := by unfold shf; rw [if_neg (by omega)]; rfl
                rw [c4] at c1
                rw [c5] at c2
                clear c4 c5
                go_wp2
                go_roundw
                case rel => exact ⟨j - 1, by omega, by go_num, row_put hy8 _ _ (fun j' _ => shf_step _ _ _ h0), hb8.setCell (Nat.le_refl _) _⟩
                case measure => simp [intOf]; omega
              · obtain rfl : j = 0 := by omega
                have c4 := hy8.cell (i := 4) (by omega)
                have c0 := hy8.cell (i := 0) (by omega)
                have f4 := hy8.frozen 4
                have f0 := hy8.frozen 0
                have e4 : shf Y.at 0 4 = .int .u32 Y.d := rfl
                have e0 : shf Y.at 0 0 = .int .u32 Y.a := rfl
                rw [e4] at c4
                rw [e0] at c0
                clear e4 e0
                go_wp2
                go_roundw
                case rel =>
                  refine ⟨t + 1, by omega, by go_num, ?_, (hb8.setCell (Nat.le_refl _) _).setCell (Nat.le_refl _) _⟩
                  refine row_put (row_put hy8 4 _ (f' := fun j => if j = 4 then u32V ((Y.d + A) % 4294967296) else shf Y.at 0 j) (fun j' _ => rfl)) 0 _ (fun j' hj' => ?_)
                  simp only [rnds]
                  rw [← HY.out, stp_row _ _ _ _ hj', ← HA.out, ← HC.out]
                  rfl
                case measure => simp [intOf]; omega
          · have hte : t = 64 := by omega
            have HT := Lib.hid hte
            have hge : (64 : Int) ≤ (t : Int) := by omega
            clear hte h64
            go_wp2_with fail
            go_loopw [18] (fun i wx => ∃ i1 : Nat, i1 ≤ 8 ∧ i = .int .i64 i1 ∧ wx.rowIs wB.heap.size 80 8 (fun j => if j < i1 then u32V (((rnds K W X t).at j + X.at j) % 4294967296) else u32V ((rnds K W X t).at j)) ∧ Below wB.heap.size wB wx) (fun i _ => 8 - (intOf i).toNat)
            case atStart => exact ⟨0, by omega, rfl, hy5.congr (fun j _ => by simp), hb6⟩
            case round =>
              obtain ⟨j, hj, rfl, hy8, hb8⟩ := hrel
              by_cases h8 : j < 8
              · have c1 := hy8.cell (i := j) h8
                have c3 := hy8.frozen j
                have c2 := (hb8.cell (p := ⟨gx, j, none⟩) hgx2).trans ((hb.cell (p := ⟨gx, j, none⟩) hgx).trans (hx j h8))
                simp only [Nat.lt_irrefl, if_false, u32V] at c1 c2
                have i0 : (0 : Int) ≤ (j : Int) := by omega
                have i1 : (j : Int) < 8 := by omega
                go_wp2_with fail
                go_still_tail 12, (by kernel_rfl)
                go_wp2
                go_roundw
                case rel =>
                  refine ⟨j + 1, by omega, by go_num, row_put (f := fun j' => if j' < j then u32V (((rnds K W X t).at j' + X.at j') % 4294967296) else u32V ((rnds K W X t).at j')) hy8 _ _ (fun j' _ => ?_), (hb8.setCell (Nat.le_refl _) _).drew⟩
                  by_cases hjj : j' = j
                  · subst hjj; rw [if_pos (by omega), if_pos rfl]; rfl
                  · rw [if_neg hjj]
                    by_cases hl : j' < j
                    · rw [if_pos hl, if_pos (by omega)]
                    · rw [if_neg hl, if_neg (by omega)]
                case measure => simp [intOf]; omega
              · obtain rfl : j = 8 := by omega
                go_wp2
                go_ret
                refine ⟨_, rfl, hy8.congr (fun j hj => ?_), hb.trans (hb8.mono (Nat.le_of_lt hgw))⟩
                simp only [hj, if_true, comp]
                rw [St.add_at _ _ _ hj, HW.out, HT.out]
end Go.Proofs.YtpkkdjmcabefbaaDoor
namespace Go.Proofs.YtpkkdjmcabefbaaDoor
open Go.RowKit

theorem Tryd.u64Sl : Sl Tryd.prog 64 27 (.int .u64 0) 8 := ⟨Tryd.underlying64, by kernel_rfl, rfl⟩

theorem cellBelow {B g k : Nat} {w0 w' : World} {v : Value} (h : Below B w0 w') (hg : g < B) (c : w0.cell? ⟨g, k, none⟩ = some v) : w'.cell? ⟨g, k, none⟩ = some v := (h.cell (p := ⟨g, k, none⟩) hg).trans c

/-- A slice of n numbers at the head of a block. -/
def At64 (w : World) (g : Nat) (l : List Int) : Prop := ∀ j, j < l.length → w.cell? ⟨g, j, none⟩ = some (u64V (l.getD j 0))
def At32 (w : World) (g : Nat) (l : List Int) : Prop := ∀ j, j < l.length → w.cell? ⟨g, j, none⟩ = some (u32V (l.getD j 0))

set_option maxHeartbeats 400000 in
theorem squares_ref (w : World) : Calls Tryd.prog 31 #[] w fun e w' => e = .returned (.slice (some ⟨w.heap.size, 0, none⟩) 4 4) ∧ w.heap.size < w'.heap.size ∧ At64 w' w.heap.size sqr ∧ Below w.heap.size w w' := by
  go_enter Tryd.func31, Tryd.ntmps31
  go_wp2
  go_ret
  refine ⟨rfl, by simp, fun j hj => ?_, (Below.refl _ _).alloc (Nat.le_refl _) _⟩
  rw [cell_of_row _ _ _ _ _ _ (heap_at_alloc w _)]
  have : j < 4 := hj
  match j, this with
  | 0, _ => rfl | 1, _ => rfl | 2, _ => rfl | 3, _ => rfl

set_option maxHeartbeats 1000000 in
set_option maxRecDepth 100000 in
theorem cubes_ref (w : World) : Calls Tryd.prog 32 #[] w fun e w' => e = .returned (.slice (some ⟨w.heap.size, 0, none⟩) 32 32) ∧ w.heap.size < w'.heap.size ∧ At64 w' w.heap.size cub ∧ Below w.heap.size w w' := by
  go_enter Tryd.func32, Tryd.ntmps32
  go_wp2
  go_ret
  refine ⟨rfl, by simp, fun j hj => ?_, (Below.refl _ _).alloc (Nat.le_refl _) _⟩
  rw [cell_of_row _ _ _ _ _ _ (heap_at_alloc w _)]
  have h : cub.map u64V = _ := rfl
  have h2 : (cub.map u64V)[j]? = some (u64V (cub.getD j 0)) := by simp [List.getD, hj]
  rw [← h2]
  simp only [List.getElem?_toArray]
  rfl

set_option maxHeartbeats 1000000 in
theorem halves_ref (g n c : Nat) (L : List Int) (w : World) (hn : L.length = n) (hg : g < w.heap.size) (hn2 : n ≤ 1000) (hc : At64 w g L) (hL : ∀ x ∈ L, 0 ≤ x ∧ x < 18446744073709551616) :
    Calls Tryd.prog 30 #[.slice (some ⟨g, 0, none⟩) n c] w fun e w' => ∃ v, e = .returned v ∧ Owns w' w.heap.size 80 v ((hv L).map u32V) ∧ Below w.heap.size w w' := by
  have HN := Lib.hid hn
  have hn3 : n ≤ L.length := by omega
  clear hn
  go_enter Tryd.func30, Tryd.ntmps30
  go_wp2_with fail
  go_loopw [3, 4] (fun v i wr => ∃ k : Nat, k ≤ n ∧ i = .int .i64 k ∧ Owns wr w.heap.size 80 v ((hv (L.take k)).map u32V) ∧ Below w.heap.size w wr) (fun _ i _ => n - (intOf i).toNat)
  case atStart => exact ⟨0, by omega, rfl, Owns.nil _ _ _, Below.refl _ _⟩
  case round =>
    obtain ⟨k, hk, rfl, hw, hb⟩ := hrel
    by_cases hlt : k < n
    · have c0 := cellBelow hb hg (hc k (by omega))
      have hx : 0 ≤ L.getD k 0 ∧ L.getD k 0 < 18446744073709551616 := hL _ (by
        have : k < L.length := by omega
        simp [List.getD, this])
      have hst := hv_take L k (by omega)
      obtain ⟨x, hxe⟩ : ∃ x, x = L.getD k 0 := ⟨_, rfl⟩
      rw [← hxe] at c0 hx hst
      have HX := Lib.hid hxe; clear hxe
      have HST := Lib.hid hst; clear hst
      obtain ⟨x0, x1⟩ := hx
      simp only [u64V] at c0
      have i0 : (0 : Int) ≤ (k : Int) := by omega
      have i1 : (k : Int) < (n : Int) := by omega
      have e0 : x.tmod 4294967296 = x % 4294967296 := Int.tmod_eq_emod_of_nonneg x0
      have hl : (hv (L.take k)).length ≤ 2000 := by rw [hv_length, List.length_take]; omega
      go_wp2_with fail
      go_region_held3 (fun w' => w'.cell? ⟨g, k, none⟩ = some (.int .u64 x))
        (first | exact c0 | exact cellBelow (((Below.refl _ _).alloc hb.size _).drew) hg c0 | exact cellBelow ((((Below.refl _ _).alloc hb.size _).drew).trans hb2) hg c0)
        ((refine step_app Tryd.u32Sl rfl _ _ rfl w.heap.size _ _ (by rfl) ((hw.alloc _).drew) wr.heap.size _ (by rfl) (heap_at_alloc wr _) (by simp [Value.oneCell']) (by simp) (by simp; unfold maxLen; omega) (by simp; omega) (by have := hb.size; simp [World.drew]; omega) ?_; intro v2 w2 hown2 hb2))
      all_goals
        have hcells : (hv (L.take k)).map u32V ++ [.int .u32 (IntKind.u32.wrap (IntKind.u64.wrap (x.tdiv 4294967296))), .int .u32 (IntKind.u32.wrap (x % 4294967296))] = (hv (L.take (k + 1))).map u32V := by
          have q1 : x.tdiv 4294967296 = x / 4294967296 := Int.tdiv_eq_ediv_of_nonneg x0
          have q2 : IntKind.u64.wrap (x / 4294967296) = x / 4294967296 := by rw [IntKind.wrap_u64]; omega
          have q3 : IntKind.u32.wrap (x / 4294967296) = x / 4294967296 := by rw [IntKind.wrap_u32]; omega
          have q4 : IntKind.u32.wrap (x % 4294967296) = x % 4294967296 := by rw [IntKind.wrap_u32]; omega
          rw [HST.out, q1, q2, q3, q4]; simp [u32V]
        rw [hcells] at hown2
        have hb3 : Below w.heap.size w w2 := ((hb.alloc hb.size _).drew).trans hb2
        clear hb2 hw hb hcells
        go_wp2
        go_roundw
        case rel => exact ⟨k + 1, by omega, by go_num, hown2, hb3⟩
        case measure => simp [intOf]; omega
    · obtain rfl : n = k := by omega
      go_wp2
      go_ret
      rw [List.take_of_length_le (by rw [HN.out]; omega)] at hw
      exact ⟨_, rfl, hw, hb⟩

theorem bytes_at (m c' : Int) (n c : Nat) (bb : List UInt8) (w : World) (hbb : bb = beB n c) (h : n < 18446744073709551616) (hc : c ≤ 8) (hm : m = n) (hc' : c' = c) :
    Calls Tryd.prog 49 #[.int .u64 m, .int .i64 c'] w fun e w' => e = .returned (.string ⟨bb.toArray⟩) ∧ Below w.heap.size w w' := by
  subst hm hc' hbb; exact bytes_ref n c w h hc

theorem pad_eq (s : ByteArray) : (s.data.toList ++ [128]) ++ List.replicate (zeros s.size) 0 ++ beB (8 * s.size) 8 = pad s.data.toList := by
  unfold pad; rw [Array.length_toList]; rfl

theorem head64 (p : List UInt8) : (⟨p.toArray⟩ : ByteArray).extract 0 64 = ⟨(p.take 64).toArray⟩ := by
  apply ByteArray.ext; apply Array.toList_inj.1; simp
theorem head64_size (p : List UInt8) (h : 64 ≤ p.length) : ((⟨p.toArray⟩ : ByteArray).extract 0 64).size = 64 := by
  rw [head64, ByteArray.size_mk']; simp; omega
theorem tail64 (p : List UInt8) : (⟨p.toArray⟩ : ByteArray).extract 64 p.length = ⟨(p.drop 64).toArray⟩ := by
  apply ByteArray.ext; apply Array.toList_inj.1; simp; rw [List.take_of_length_le (by simp)]
theorem stOf_ok (F : List Int) (h : ∀ j, inU (F.getD j 0)) : (stOf F).ok := ⟨h 0, h 1, h 2, h 3, h 4, h 5, h 6, h 7⟩

theorem drop64 (q : ByteArray) (n : Nat) (h : q.size = n) (hn : 64 ≤ n) : (q.extract 64 n).data.toList = q.data.toList.drop 64 := by
  subst h; simp; rw [List.take_of_length_le (by simp)]
theorem take64 (q : ByteArray) : q.extract 0 64 = ⟨(q.data.toList.take 64).toArray⟩ := by
  apply ByteArray.ext; apply Array.toList_inj.1; simp

set_option maxRecDepth 100000 in
set_option maxHeartbeats 4000000 in
theorem by_ref (gf gk cf ck : Nat) (F : List Int) (K : Nat → Int) (s : ByteArray) (w : World) (hs : s.size ≤ 100000) (hF : F.length = 8)
    (hf : At32 w gf F) (hk : ∀ j, j < 64 → w.cell? ⟨gk, j, none⟩ = some (u32V (K j))) (hgf : gf < w.heap.size) (hgk : gk < w.heap.size) (hFu : ∀ j, inU (F.getD j 0)) :
    Calls Tryd.prog 29 #[.string s, .slice (some ⟨gf, 0, none⟩) 8 cf, .slice (some ⟨gk, 0, none⟩) 64 ck] w fun e w' =>
      e = .returned (.string ⟨(sumBy K (stOf F) s.data.toList).toArray⟩) ∧ Below w.heap.size w w' := by
  obtain ⟨l0, hl0⟩ : ∃ l0, l0 = s.data.toList ++ [128] := ⟨_, rfl⟩
  have hl1 : l0.length ≤ s.size + 1 := by rw [hl0]; simp
  have hl2 : s.size + 1 ≤ l0.length := by rw [hl0]; simp
  have hstart : s ++ ⟨#[128]⟩ = ⟨l0.toArray⟩ := by rw [hl0]; apply ByteArray.ext; apply Array.toList_inj.1; simp
  have HL0 := Lib.hid hl0
  have HST := Lib.hid hstart
  clear hl0 hstart
  go_enter Tryd.func29, Tryd.ntmps29
  go_wp2_with fail
  go_loopw [7] (fun v wr => ∃ (k : Nat) (q : List UInt8), k ≤ zeros s.size ∧ v = .string ⟨q.toArray⟩ ∧ Hid (q = l0 ++ List.replicate k 0) ∧ q.length ≤ s.size + 1 + k ∧ s.size + 1 + k ≤ q.length ∧ Below w.heap.size w wr)
    (fun v _ => s.size + 200 - strLen v)
  case atStart => exact ⟨0, l0, by omega, congrArg Value.string HST.out, Lib.hid (by simp), by omega, by omega, Below.refl _ _⟩
  case round =>
    obtain ⟨k, q, hkk, rfl, hq, hq1, hq2, hb0⟩ := hrel
    by_cases hkz : k < zeros s.size
    · have ht : (0 : Int) < ((q.length : Int) + 8) % 64 := by unfold zeros at hkz; omega
      have hz : k < 64 := by unfold zeros at hkz; omega
      have HK : Hid (k < zeros s.size) := Lib.hid hkz
      clear hkz hkk
      go_wp2
      go_roundw
      case rel => exact ⟨k + 1, q ++ [0], HK.out, congrArg Value.string (ByteArray.mk_append_mk q [0]), Lib.hid (by rw [hq.out, List.append_assoc, List.replicate_succ']), by simp; omega, by simp; omega, hb0⟩
      case measure => simp only [strLen, ByteArray.size_append', ByteArray.size_mk', List.size_toArray, List.length_cons, List.length_nil]; simp; omega
    · have ht : ((q.length : Int) + 8) % 64 = 0 := by unfold zeros at hkz hkk; omega
      have hz : k < 64 := by unfold zeros at hkk; omega
      have HK : Hid (k = zeros s.size) := Lib.hid (by omega)
      clear hkz hkk
      obtain ⟨bb, hbb⟩ : ∃ bb, bb = beB (8 * s.size) 8 := ⟨_, rfl⟩
      have hbl := beB_length (8 * s.size) 8
      rw [← hbb] at hbl
      have hbl1 : bb.length ≤ 8 := by omega
      have HBB := Lib.hid hbb
      clear hbl hbb
      go_wp2_with (first
        | (go_at_call 49; refine (bytes_at _ _ (8 * s.size) 8 bb _ HBB.out (by omega) (by omega) (by omega) rfl).mono ?_; rintro e w1 ⟨rfl, hb1⟩)
        | (at_make; refine list_makeN Tryd.u32Sl rfl _ _ rfl 8 _ _ rfl rfl rfl rfl (by omega) (by unfold maxLen; omega) rfl ?_))
      intro w2 hy hb2
      have hbs0 := hb0.size
      have hbs1 := hb1.size
      have hb01 : Below w.heap.size w w1 := hb0.trans (hb1.mono hbs0)
      have hgf2 : gf < w1.heap.size := by omega
      have hsrc : ∀ j, j < 8 → w2.cell? ⟨gf, j, none⟩ = some (u32V (F.getD j 0)) := fun j hj => cellBelow hb2 hgf2 (cellBelow hb01 hgf (hf j (by omega)))
      go_wp2_with (first
        | (refine list_copy_row Tryd.u32Sl rfl _ _ rfl w1.heap.size 8 rfl _ hy gf cf rfl (fun j => u32V (F.getD j 0)) hsrc (fun _ => rfl) ?_))
      intro w3 hy3 hb3
      have hb4 : Below w.heap.size w w3 := hb01.trans ((hb2.trans hb3).mono (by omega))
      have hy4 : w3.rowIs w1.heap.size 80 8 (fun j => u32V ((stOf F).at j)) := hy3.congr (fun j hj => by rw [stOf_at _ _ hj]; rfl)
      obtain ⟨P, hP⟩ : ∃ P, P = pad s.data.toList := ⟨_, rfl⟩
      have hpad : q ++ bb = P := by
        rw [hP, hq.out, HK.out, HBB.out, HL0.out]; exact pad_eq s
      have hpl := pad_length s.data.toList
      rw [← hP] at hpl
      have hsum : Hid (sumBy K (stOf F) s.data.toList = outL (hashB K (P.length / 64) (stOf F) P) 8) := Lib.hid (by rw [hP]; rfl)
      have hpl2 : P.length ≤ 200000 := by have := hpl.2; simp at this; omega
      have hpl1 := hpl.1
      have HP := Lib.hid hpad
      have HQ : Hid ((⟨q.toArray⟩ : ByteArray) ++ ⟨bb.toArray⟩ = ⟨P.toArray⟩) := Lib.hid (by rw [ByteArray.mk_append_mk, hpad])
      clear hpl hP hpad hsrc hy3 hb1 hb2 hb3 hy hf hb01 hb0
      go_wp2_with fail
      go_loopw [7, 8] (fun v x wr => ∃ (p : List UInt8) (Z : St) (g : Nat), v = .string ⟨p.toArray⟩ ∧ x = .slice (some ⟨g, 0, none⟩) 8 8 ∧ wr.rowIs g 80 8 (fun j => u32V (Z.at j)) ∧ p.length % 64 = 0 ∧ p.length ≤ 200000 ∧ Hid Z.ok ∧
          Hid (hashB K (p.length / 64) Z p = hashB K (P.length / 64) (stOf F) P) ∧ Below w.heap.size w wr) (fun v _ _ => strLen v)
      case atStart => exact ⟨P, stOf F, _, congrArg Value.string HQ.out, rfl, hy4, hpl1, hpl2, Lib.hid (stOf_ok F hFu), Lib.hid rfl, hb4⟩
      case round =>
        obtain ⟨p, Z, g, rfl, rfl, hZ, hp1, hp2, hok, hh, hb⟩ := hrel
        by_cases hp0 : 0 < p.length
        · have hp64 : 64 ≤ p.length := by omega
          have hsz := head64_size p hp64
          have hk2 : ∀ j, j < 64 → wr.cell? ⟨gk, j, none⟩ = some (u32V (K j)) := fun j hj => cellBelow hb hgk (hk j hj)
          have hgk2 := Nat.lt_of_lt_of_le hgk hb.size
          go_wp2_with (first
            | (go_at_call 50; refine (block_ref _ _ _ _ Z K _ _ hsz (fun j hj => hZ.cell hj) hk2 hZ.lt hgk2).mono ?_; rintro e w5 ⟨g2, rfl, hZ2, hb5⟩))
          go_roundw
          case rel =>
            rw [head64] at hZ2
            refine ⟨p.drop 64, _, g2, congrArg Value.string (tail64 p), rfl, hZ2, by simp; omega, by simp; omega, Lib.hid (comp_ok _ _ _), Lib.hid ?_, hb.trans (hb5.mono hb.size)⟩
            rw [← hh.out]
            have e : p.length / 64 = (p.drop 64).length / 64 + 1 := by simp; omega
            rw [e]; rfl
          case measure =>
            rw [tail64]
            simp only [strLen, ByteArray.size_mk', List.size_toArray, List.length_drop]; omega
        · obtain rfl : p = [] := List.eq_nil_of_length_eq_zero (by omega)
          have hZf : Hid (Z = hashB K (P.length / 64) (stOf F) P) := Lib.hid hh.out
          clear hh hp0 hp1 hp2
          have hbz := hb.size
          obtain ⟨wB, hwB⟩ : ∃ wB : World, wB = wr := ⟨_, rfl⟩
          subst hwB
          go_wp2_with fail
          go_loopw [9, 10] (fun o i wx => ∃ k : Nat, k ≤ 8 ∧ i = .int .i64 k ∧ o = .string ⟨(outL Z k).toArray⟩ ∧ Below wB.heap.size wB wx) (fun _ i _ => 8 - (intOf i).toNat)
          case atStart => exact ⟨0, by omega, rfl, rfl, Below.refl _ _⟩
          case round =>
            obtain ⟨k, hk8, rfl, rfl, hbx⟩ := hrel
            by_cases hlt : k < 8
            · have c0 := (rowIs_below hZ hbx hZ.lt).cell hlt
              have hu := Z.at_ok hok.out k
              have hos := outL_succ Z k
              have hol := outL_length Z k
              obtain ⟨y, hy⟩ : ∃ y, y = Z.at k := ⟨_, rfl⟩
              rw [← hy] at c0 hu hos
              simp only [u32V] at c0
              obtain ⟨y0, y1⟩ := hu
              obtain ⟨l, hl⟩ : ∃ l, l = outL Z k := ⟨_, rfl⟩
              rw [← hl] at hol hos ⊢
              have hll : l.length ≤ 32 := by omega
              obtain ⟨bb, hbb⟩ : ∃ bb, bb = beB y.toNat 4 := ⟨_, rfl⟩
              have hbl := beB_length y.toNat 4
              rw [← hbb] at hbl hos
              have hbl1 : bb.length ≤ 4 := by omega
              have HOS := Lib.hid hos
              have HBB := Lib.hid hbb
              clear hos hol hl hy hbb hbl
              go_wp2_with (first
                | (go_at_call 49; refine (bytes_at _ _ y.toNat 4 bb _ HBB.out (by omega) (by omega) (by omega) rfl).mono ?_; rintro e w6 ⟨rfl, hb6⟩))
              go_roundw
              case rel => exact ⟨k + 1, by omega, by go_num, by rw [HOS.out]; exact congrArg Value.string (ByteArray.mk_append_mk _ _), hbx.trans (hb6.mono hbx.size)⟩
              case measure => simp [intOf]; omega
            · have hk9 : Hid (k = 8) := Lib.hid (by omega)
              go_wp2
              go_ret
              exact ⟨by rw [hsum.out, ← hZf.out, hk9.out]; rfl, hb.trans (hbx.mono hbz)⟩
end Go.Proofs.YtpkkdjmcabefbaaDoor
namespace Go.Proofs.YtpkkdjmcabefbaaDoor
open Go.RowKit

theorem halves_at (g n c m : Nat) (L : List Int) (w : World) (hn : L.length = n) (hm : m = 2 * n) (h0 : 0 < n) (hg : g < w.heap.size) (hn2 : n ≤ 1000) (hc : At64 w g L) (hL : ∀ x ∈ L, 0 ≤ x ∧ x < 18446744073709551616) :
    Calls Tryd.prog 30 #[.slice (some ⟨g, 0, none⟩) n c] w fun e w' => ∃ g' cap, e = .returned (.slice (some ⟨g', 0, none⟩) m cap) ∧ g' < w'.heap.size ∧ At32 w' g' (hv L) ∧ Below w.heap.size w w' := by
  refine (halves_ref g n c L w hn hg hn2 hc hL).mono ?_
  rintro e w' ⟨v, rfl, hown, hb⟩
  have hlen : ((hv L).map u32V).length = m := by rw [List.length_map, hv_length]; omega
  obtain ⟨g', cap, rfl, _, hlt⟩ := World.ownsRow.form hown (by omega)
  refine ⟨g', cap, by rw [hlen], hlt, fun j hj => ?_, hb⟩
  have := World.ownsRow.cellAt hown j (by rw [Nat.mul_one, List.length_map]; exact hj)
  rw [this]; simp [List.getD, hj]

theorem sqr_u : ∀ x ∈ sqr, 0 ≤ x ∧ x < 18446744073709551616 := by decide +kernel
theorem cub_u : ∀ x ∈ cub, 0 ≤ x ∧ x < 18446744073709551616 := by decide +kernel
theorem hv_u (l : List Int) (h : ∀ x ∈ l, 0 ≤ x ∧ x < 18446744073709551616) (j : Nat) : inU ((hv l).getD j 0) := by
  have : ∀ y ∈ hv l, inU y := by
    intro y hy
    simp only [hv, List.mem_flatMap, List.mem_cons, List.not_mem_nil, or_false] at hy
    obtain ⟨x, hx, h1 | h1⟩ := hy
    · have := h x hx; subst h1; constructor <;> omega
    · have := h x hx; subst h1; constructor <;> omega
  by_cases hj : j < (hv l).length
  · have e : (hv l).getD j 0 = (hv l)[j] := by simp [List.getD, hj]
    rw [e]; exact this _ (List.getElem_mem _)
  · rw [List.getD, List.getElem?_eq_none (by omega)]; exact ⟨by simp, by simp⟩

set_option maxHeartbeats 1000000 in
theorem print_ref (s : ByteArray) (w : World) (hs : s.size ≤ 100000) :
    Calls Tryd.prog 12 #[.string s] w fun e w' => e = .returned (.string ⟨(sumL s.data.toList).toArray⟩) ∧ Below w.heap.size w w' := by
  go_enter Tryd.func12, Tryd.ntmps12
  go_wp2_with fail
  refine (squares_ref w).mono ?_
  rintro e w1 ⟨rfl, hlt1, h1, hb1⟩
  go_wp2_with fail
  refine (halves_at w.heap.size 4 4 8 sqr w1 rfl rfl (by omega) hlt1 (by omega) h1 sqr_u).mono ?_
  rintro e w2 ⟨g2, c2, rfl, hlt2, h2, hb2⟩
  go_wp2_with fail
  refine (cubes_ref w2).mono ?_
  rintro e w3 ⟨rfl, hlt3, h3, hb3⟩
  go_wp2_with fail
  refine (halves_at w2.heap.size 32 32 64 cub w3 rfl rfl (by omega) hlt3 (by omega) h3 cub_u).mono ?_
  rintro e w4 ⟨g4, c4, rfl, hlt4, h4, hb4⟩
  have z1 := hb1.size; have z2 := hb2.size; have z3 := hb3.size; have z4 := hb4.size
  have h2' : At32 w4 g2 (hv sqr) := fun j hj => cellBelow hb4 (by omega) (cellBelow hb3 hlt2 (h2 j hj))
  have h4' : ∀ j, j < 64 → w4.cell? ⟨g4, j, none⟩ = some (u32V (Kr j)) := fun j hj => h4 j (by rw [hv_length]; exact hj)
  go_wp2_with fail
  refine (by_ref g2 g4 c2 c4 (hv sqr) Kr s w4 hs rfl h2' h4' (by omega) hlt4 (hv_u _ sqr_u)).mono ?_
  rintro e w5 ⟨rfl, hb5⟩
  clear h1 h2 h3 h4 h2' h4'
  go_wp2
  go_ret
  exact ⟨rfl, hb1.trans ((hb2.trans ((hb3.trans ((hb4.trans (hb5.mono z4)).mono z3)).mono z2)).mono z1)⟩

theorem mk_size (l : List UInt8) : (⟨l.toArray⟩ : ByteArray).size = l.length := by rw [ByteArray.size_mk']; simp

theorem keyL_length (k : List UInt8) : (keyL k).length = 64 := by
  unfold keyL
  simp only [List.length_append, List.length_replicate]
  by_cases h : 64 < k.length
  · rw [if_pos h]; rw [sumL, sumBy_length]
  · rw [if_neg h]; omega
theorem xorL_take (K : ByteArray) (m : UInt8) (k : Nat) (h : k < K.size) : xorL (K.data.toList.take (k + 1)) m = xorL (K.data.toList.take k) m ++ [K[k] ^^^ m] := by
  rw [take_snoc K k h]; simp [xorL]

set_option maxRecDepth 100000 in
set_option maxHeartbeats 4000000 in
theorem mac_ref (key s : ByteArray) (w : World) (hk : key.size ≤ 10000) (hs : s.size ≤ 10000) :
    Calls Tryd.prog 52 #[.string key, .string s] w fun e w' => e = .returned (.string ⟨(macL key.data.toList s.data.toList).toArray⟩) ∧ Below w.heap.size w w' := by
  obtain ⟨q, hq⟩ : ∃ q, q = if 64 < key.data.toList.length then sumL key.data.toList else key.data.toList := ⟨_, rfl⟩
  have hql : q.length ≤ 64 := by
    rw [hq]; split
    · rw [sumL, sumBy_length]; omega
    · omega
  have hK : Hid (keyL key.data.toList = q ++ List.replicate (64 - q.length) 0) := Lib.hid (by rw [hq]; rfl)
  go_enter Tryd.func52, Tryd.ntmps52
  by_cases hbig : 64 < key.size
  all_goals
    first
      | (rw [if_pos (by simpa using hbig)] at hq)
      | (rw [if_neg (by simpa using hbig)] at hq)
    go_wp2_with (first
      | (go_at_call 12; refine (print_ref _ _ (by omega)).mono ?_; rintro e w1 ⟨rfl, hb1⟩))
    go_loopw [0] (fun v wr => ∃ (k : Nat) (p : List UInt8), k ≤ 64 - q.length ∧ v = .string ⟨p.toArray⟩ ∧ Hid (p = q ++ List.replicate k 0) ∧ p.length ≤ q.length + k ∧ q.length + k ≤ p.length ∧ Below w.heap.size w wr)
      (fun v _ => 64 - strLen v)
    case atStart =>
      refine ⟨0, q, by omega, ?_, Lib.hid (by simp), by omega, by omega, by first | exact hb1 | exact Below.refl _ _⟩
      first
        | (rw [hq]; done)
        | (rw [hq]; rfl)
    case round =>
      obtain ⟨k, p, hkk, rfl, hp, hp1, hp2, hb⟩ := hrel
      by_cases hlt : p.length < 64
      · go_wp2
        go_roundw
        case rel => exact ⟨k + 1, p ++ [0], by omega, congrArg Value.string (ByteArray.mk_append_mk p [0]), Lib.hid (by rw [hp.out, List.append_assoc, List.replicate_succ']), by simp; omega, by simp; omega, hb⟩
        case measure => simp only [strLen, ByteArray.size_append', ByteArray.size_mk', List.size_toArray, List.length_cons, List.length_nil]; simp; omega
      · obtain ⟨K, hKe⟩ : ∃ K : ByteArray, K = ⟨p.toArray⟩ := ⟨_, rfl⟩
        have hKd : Hid (K.data.toList = keyL key.data.toList) := Lib.hid (by
          rw [hKe, hK.out, hp.out]
          have : k = 64 - q.length := by omega
          rw [this])
        have hKs : K.size = 64 := by rw [hKe, ByteArray.size_mk']; simp; omega
        rw [← hKe]
        clear hKe hlt hp hp1 hp2 hkk
        have hKs1 : K.size ≤ 64 := by omega
        have hKs2 : 64 ≤ K.size := by omega
        clear hKs
        go_wp2_with fail
        go_loopw [5, 6, 7] (fun a b i wx => ∃ k : Nat, k ≤ 64 ∧ i = .int .i64 k ∧ a = .string ⟨(xorL (K.data.toList.take k) 92).toArray⟩ ∧ b = .string ⟨(xorL (K.data.toList.take k) 54).toArray⟩ ∧ Below w.heap.size w wx) (fun _ _ i _ => 64 - (intOf i).toNat)
        case atStart => exact ⟨0, by omega, rfl, rfl, rfl, hb⟩
        case round =>
          obtain ⟨k, hk8, rfl, rfl, rfl, hbx⟩ := hrel
          by_cases hlt : k < 64
          · have hkK : k < K.size := by omega
            have ha := xorL_take K 92 k hkK
            have hb' := xorL_take K 54 k hkK
            have la : (xorL (K.data.toList.take k) 92).length ≤ 64 := by simp [xorL]; omega
            have lb : (xorL (K.data.toList.take k) 54).length ≤ 64 := by simp [xorL]; omega
            obtain ⟨A, hA⟩ : ∃ A, A = xorL (K.data.toList.take k) 92 := ⟨_, rfl⟩
            obtain ⟨C, hC⟩ : ∃ C, C = xorL (K.data.toList.take k) 54 := ⟨_, rfl⟩
            rw [← hA] at ha la ⊢
            rw [← hC] at hb' lb ⊢
            have HA := Lib.hid ha
            have HB := Lib.hid hb'
            clear ha hb' hA hC
            have x1 : bits BinOp.xor IntKind.u8 (K[k].toNat : Int) 92 = ((K[k].toNat ^^^ 92 : Nat) : Int) := by rw [show ((92 : Int)) = ((92 : UInt8).toNat : Int) from rfl, bits_xor8 K[k] 92, UInt8.toNat_xor]; rfl
            have x2 : bits BinOp.xor IntKind.u8 (K[k].toNat : Int) 54 = ((K[k].toNat ^^^ 54 : Nat) : Int) := by rw [show ((54 : Int)) = ((54 : UInt8).toNat : Int) from rfl, bits_xor8 K[k] 54, UInt8.toNat_xor]; rfl
            have cv1 := run_string_block (w := wr.alloc (.cells #[.int .u8 ((K[k].toNat ^^^ 92 : Nat) : Int)] 5)) (src := 57) (dst := 9) Tryd.underlying57 Tryd.underlying5 Tryd.underlying9 wr.heap.size 1 [K[k] ^^^ 92] (by rw [heap_at_alloc]; simp [byteV])
            have cv2 := run_string_block (w := (wr.alloc (.cells #[.int .u8 ((K[k].toNat ^^^ 92 : Nat) : Int)] 5)).alloc (.cells #[.int .u8 ((K[k].toNat ^^^ 54 : Nat) : Int)] 5)) (src := 57) (dst := 9) Tryd.underlying57 Tryd.underlying5 Tryd.underlying9 (wr.heap.size + 1) 1 [K[k] ^^^ 54] (by rw [heap_alloc2_new]; simp [byteV])
            simp only [List.length_cons, List.length_nil, Nat.zero_add] at cv1 cv2
            go_wp2
            go_roundw
            case rel => exact ⟨k + 1, by omega, by go_num, by rw [HA.out]; exact congrArg Value.string (ByteArray.mk_append_mk _ _), by rw [HB.out]; exact congrArg Value.string (ByteArray.mk_append_mk _ _), (hbx.alloc hbx.size _).alloc (by have := hbx.size; simp; omega) _⟩
            case measure => simp [intOf]; omega
          · have hk9 : k = 64 := by omega
            have hkl : K.data.toList.take k = K.data.toList := List.take_of_length_le (by simp; omega)
            rw [hkl, hKd.out]
            have la : (xorL (keyL key.data.toList) 92).length ≤ 64 := by rw [xorL, List.length_map, keyL_length]; omega
            have lb : (xorL (keyL key.data.toList) 54).length ≤ 64 := by rw [xorL, List.length_map, keyL_length]; omega
            have hres : Hid (macL key.data.toList s.data.toList = sumL (xorL (keyL key.data.toList) 92 ++ sumL (xorL (keyL key.data.toList) 54 ++ s.data.toList))) := Lib.hid rfl
            obtain ⟨A, hA⟩ : ∃ A, A = xorL (keyL key.data.toList) 92 := ⟨_, rfl⟩
            obtain ⟨C, hC⟩ : ∃ C, C = xorL (keyL key.data.toList) 54 := ⟨_, rfl⟩
            rw [← hA] at la hres ⊢
            rw [← hC] at lb hres ⊢
            clear hA hC hkl
            have hge : (64 : Int) ≤ (k : Int) := by omega
            clear hk9
            go_wp2_with fail
            refine (print_ref _ _ (by rw [ByteArray.size_append', mk_size]; first | omega | (rw [mk_size]; omega))).mono ?_
            rintro e w5 ⟨rfl, hb5⟩
            have hs5 : (sumL (C ++ s.data.toList)).length = 32 := sumBy_length _ _ _
            have he5 : (({ data := C.toArray } : ByteArray) ++ s).data.toList = C ++ s.data.toList := by simp
            rw [he5]
            obtain ⟨S5, hS5⟩ : ∃ S5, S5 = sumL (C ++ s.data.toList) := ⟨_, rfl⟩
            rw [← hS5] at hs5 hres ⊢
            clear hS5 he5
            have hs6 : S5.length ≤ 32 := by omega
            clear hs5
            go_wp2_with fail
            refine (print_ref _ _ (by rw [ByteArray.size_append', mk_size]; first | omega | (rw [mk_size]; omega))).mono ?_
            rintro e w6 ⟨rfl, hb6⟩
            go_wp2
            go_ret
            refine ⟨?_, hbx.trans ((hb5.trans (hb6.mono hb5.size)).mono hbx.size)⟩
            rw [hres.out]; simp
end Go.Proofs.YtpkkdjmcabefbaaDoor
