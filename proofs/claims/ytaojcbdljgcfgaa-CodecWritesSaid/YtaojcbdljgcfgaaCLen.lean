/- How long a forest's bytes are, by its weight. -/
import Derived.Test.YtaojcbdljgcfgaaCTr
import Derived.Test.YtaojcbdljgcfgaaCWr
namespace Go.Proofs.Ytaojcbdljgcfgaa
open Go.RowKit

theorem nodeL_len (k n : Int) (s : ByteArray) (len : Nat) (kb : List UInt8) (hn : 0 ≤ n ∧ n < 18446744073709551616) (hs : s.size < 268435456) (hl : len < 268435456) : (nodeL k n s len kb).length ≤ 16 + s.size + kb.length := by
  have h8 := numL_len n.toNat 8 (by omega)
  have h1 := szL_len (numL n.toNat).length (by omega)
  have h2 := szL_len s.size hs
  have h3 := szL_len len hl
  unfold nodeL
  split
  · simp; omega
  · split
    · simp; omega
    · simp; omega
theorem bytes_wt : ∀ f : F, f.nok → f.wt < 268435456 → f.bytes.length ≤ f.wt
  | .nil, _, _ => by simp [F.bytes]
  | .cons k n s c r, h, hw => by
    simp only [F.wt] at hw
    have h1 := bytes_wt c h.2.1 (by omega)
    have h2 := bytes_wt r h.2.2 (by omega)
    have h3 := wt_len c
    have h4 := nodeL_len k n s c.len c.bytes h.1 (by omega) (by omega)
    simp only [F.bytes, F.wt, List.length_append]; omega
end Go.Proofs.Ytaojcbdljgcfgaa
