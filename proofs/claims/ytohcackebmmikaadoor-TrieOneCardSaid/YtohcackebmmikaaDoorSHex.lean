/- Bytes and digits; slices of bytes. -/
import Derived.Test.YtohcackebmmikaaDoorChecked
import Derived.Test.YtohcackebmmikaaDoorLib
namespace Go.Proofs.YtohcackebmmikaaDoor
open Go.RowKit

theorem Tryd.bytesSl : Sl Tryd.prog 58 5 (.int .u8 0) 1 := ⟨Tryd.underlying58, by kernel_rfl, rfl⟩

def hexDig (k : Nat) : UInt8 := (#[48, 49, 50, 51, 52, 53, 54, 55, 56, 57, 97, 98, 99, 100, 101, 102] : Array UInt8).getD k 0
def hexOf (l : List UInt8) : List UInt8 := l.flatMap fun c => [hexDig (c.toNat / 16), hexDig (c.toNat % 16)]

theorem bits_and15 (n : Nat) (h : n < 256) : bits BinOp.and IntKind.u8 (n : Int) 15 = (n : Int) % 16 :=
  bits_mask .u8 8 (by decide) (by intro n h0 h1; rw [IntKind.wrap_u8]; omega) 4 (by decide) n (by omega) (by omega)

theorem hexl (i : Int) (m : Nat) (h : i.toNat < 16) (e : i.toNat = m) :
    (({ data := #[48, 49, 50, 51, 52, 53, 54, 55, 56, 57, 97, 98, 99, 100, 101, 102] } : ByteArray)[i.toNat]'h) = hexDig m := by
  subst e
  generalize i.toNat = k at h ⊢
  have : ∀ k, (h : k < 16) → (({ data := #[48, 49, 50, 51, 52, 53, 54, 55, 56, 57, 97, 98, 99, 100, 101, 102] } : ByteArray)[k]'h) = hexDig k := by decide
  exact this k h

theorem hexOf_snoc (l : List UInt8) (c : UInt8) : hexOf (l ++ [c]) = hexOf l ++ [hexDig (c.toNat / 16), hexDig (c.toNat % 16)] := by simp [hexOf]
theorem hexOf_length (l : List UInt8) : (hexOf l).length = 2 * l.length := by
  induction l with
  | nil => rfl
  | cons c l ih => simp [hexOf] at ih ⊢; omega
theorem take_snoc (s : ByteArray) (k : Nat) (h : k < s.size) : s.data.toList.take (k + 1) = s.data.toList.take k ++ [s[k]] := by
  rw [List.take_succ_eq_append_getElem (by simpa using h)]; rfl

theorem hex_step (s : ByteArray) (k : Nat) (hk : k < s.size) (x y : UInt8) (hx : x = hexDig (s[k].toNat / 16)) (hy : y = hexDig (s[k].toNat % 16)) :
    (hexOf (s.data.toList.take k)).map byteV ++ [.int .u8 (x.toNat : Int), .int .u8 (y.toNat : Int)] = (hexOf (s.data.toList.take (k + 1))).map byteV := by
  rw [take_snoc s k hk, hexOf_snoc, hx, hy]; simp [byteV]

end Go.Proofs.YtohcackebmmikaaDoor
