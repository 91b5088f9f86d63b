/- SHA-256 by lists and numbers, the text's part: no program. -/
import Derived.Test.YtohcackebmmikaaDoorShaSpec
namespace Go.Proofs.YtohcackebmmikaaDoor
def u64V (x : Int) : Value := .int .u64 x
def cub : List Int := [4794697085070296209, 13096744586791213989, 4131703405765792241, 10538285296827260629, 15566598207151758081, 2608012711741390275, 8268148720858477054, 11230858888332702068, 16472876343709550470, 1135362055407968716, 3308224257782482090, 6679025011744409818, 10970295157772109421, 12683024718762704839, 14330467156182405447, 489312709404862823, 2861767655337697592, 5560940570391088403, 7280758554198936251, 9350256978237205637, 11727347735703742027, 14000437183109681571, 15101387698198873636, 17586052440550711408, 1847814047869135880, 2830643534987574453, 4115178123771292234, 6601373596217405427, 8399075790807196527, 9568029438005150216, 10430055239000288491, 13761210420988836082]
def sqr : List Int := [7640891576010911365, 4354685563439150394, 5840696474761259148, 2270897967128956185]
def hv (l : List Int) : List Int := l.flatMap fun x => [x / 4294967296, x % 4294967296]
theorem hv_length (l : List Int) : (hv l).length = 2 * l.length := by
  induction l with
  | nil => rfl
  | cons c l ih => simp [hv] at ih ⊢; omega
theorem hv_take (l : List Int) (k : Nat) (h : k < l.length) : hv (l.take (k + 1)) = hv (l.take k) ++ [l.getD k 0 / 4294967296, l.getD k 0 % 4294967296] := by
  have e : l.getD k 0 = l[k] := by simp [List.getD, h]
  unfold hv
  rw [List.take_succ_eq_append_getElem h, List.flatMap_append, e]
  rfl
def Kr (j : Nat) : Int := (hv cub).getD j 0
def stOf (l : List Int) : St := ⟨l.getD 0 0, l.getD 1 0, l.getD 2 0, l.getD 3 0, l.getD 4 0, l.getD 5 0, l.getD 6 0, l.getD 7 0⟩
theorem stOf_at (l : List Int) (j : Nat) (h : j < 8) : (stOf l).at j = l.getD j 0 := by
  match j, h with
  | 0, _ => rfl | 1, _ => rfl | 2, _ => rfl | 3, _ => rfl | 4, _ => rfl | 5, _ => rfl | 6, _ => rfl | 7, _ => rfl
def X0 : St := stOf (hv sqr)

def beB (n : Nat) : Nat → List UInt8
  | 0 => []
  | k + 1 => UInt8.ofNat (n / 256 ^ k % 256) :: beB n k
theorem beB_length (n k : Nat) : (beB n k).length = k := by induction k with | zero => rfl | succ k ih => simp [beB, ih]
def hashB (K : Nat → Int) : Nat → St → List UInt8 → St
  | 0, x, _ => x
  | n + 1, x, l => hashB K n (comp K x ⟨(l.take 64).toArray⟩) (l.drop 64)
def zeros (n : Nat) : Nat := (119 - n % 64) % 64
def pad (l : List UInt8) : List UInt8 := l ++ [128] ++ List.replicate (zeros l.length) 0 ++ beB (8 * l.length) 8
theorem pad_length (l : List UInt8) : (pad l).length % 64 = 0 ∧ (pad l).length ≤ l.length + 73 := by
  simp only [pad, zeros, List.length_append, List.length_replicate, beB_length, List.length_cons, List.length_nil]
  omega
def outL (x : St) (n : Nat) : List UInt8 := (List.range n).flatMap fun j => beB (x.at j).toNat 4
theorem outL_succ (x : St) (n : Nat) : outL x (n + 1) = outL x n ++ beB (x.at n).toNat 4 := by simp [outL, List.range_succ]
theorem outL_length (x : St) (n : Nat) : (outL x n).length = 4 * n := by
  induction n with
  | zero => rfl
  | succ n ih => rw [outL_succ]; simp [ih, beB_length]; omega
def sumBy (K : Nat → Int) (x : St) (l : List UInt8) : List UInt8 := outL (hashB K ((pad l).length / 64) x (pad l)) 8
def sumL (l : List UInt8) : List UInt8 := sumBy Kr X0 l
theorem sumBy_length (K : Nat → Int) (x : St) (l : List UInt8) : (sumBy K x l).length = 32 := outL_length _ 8
theorem hashB_ok (K : Nat → Int) : ∀ (n : Nat) (x : St) (l : List UInt8), x.ok → (hashB K n x l).ok
  | 0, _, _, h => h
  | n + 1, _, _, _ => hashB_ok K n _ _ (comp_ok _ _ _)
def keyL (k : List UInt8) : List UInt8 := let q := if 64 < k.length then sumL k else k; q ++ List.replicate (64 - q.length) 0
def xorL (k : List UInt8) (m : UInt8) : List UInt8 := k.map (· ^^^ m)
def macL (k l : List UInt8) : List UInt8 := sumL (xorL (keyL k) 92 ++ sumL (xorL (keyL k) 54 ++ l))

end Go.Proofs.YtohcackebmmikaaDoor
