/- HeaderSigns' walk. -/
import Derived.Test.YtpkkdjmcabefbaaDoorEAwk
namespace Go.Proofs.YtpkkdjmcabefbaaDoor
open Go.RowKit
/-- Texts of up to 100 bytes? -/
def Sg.small (s : Sg) : Bool := decide (s.h.prev.size ≤ 100) && (decide (s.h.root.size ≤ 100) && decide (s.mac.size ≤ 100))
def Sg.Fit (s : Sg) : Prop := U64 s.h.shard ∧ U64 s.h.seq ∧ s.h.prev.size ≤ maxLen ∧ s.h.root.size ≤ maxLen ∧ U64 s.h.who ∧ U64 s.h.stamp ∧ s.mac.size ≤ maxLen
theorem Sg.Fit.ok {s : Sg} (h : s.Fit) (k : s.small = true) : s.h.Ok 100 ∧ s.mac.size ≤ 100 := by
  unfold Sg.small at k
  simp only [Bool.and_eq_true, decide_eq_true_eq] at k
  exact ⟨⟨h.1, h.2.1, k.1, k.2.1, h.2.2.2.2.1, h.2.2.2.2.2.1⟩, k.2.2⟩
theorem sign_by (key : ByteArray) (h : Hd) : (signS key h).by key = h.is := by
  unfold signS Sg.by
  cases e : h.is with
  | true => simp [e]
  | false => simp [zeroS, zeroH, Hd.is, empty_size]
end Go.Proofs.YtpkkdjmcabefbaaDoor
