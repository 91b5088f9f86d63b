/- The reference's Write. -/
import Derived.Test.YtgdlnjhbencjkaaCRfB
namespace Go.Proofs.Ytgdlnjhbencjkaa
open Go.RowKit

set_option maxRecDepth 30000 in
set_option maxHeartbeats 1000000 in
theorem write_ref (x : Nd) (xv : Value) (w : World) (hok : x.ok) (hd : x.kids.deep ≤ 1000000) (hx : KidsAt w (· < w.heap.size) x.kids xv) (hlen : (nodeL x.k x.n x.s x.kids.len x.kids.bytes).length ≤ 16777216)
    (r : Bool) (S : ByteArray) (hr : x.right 20 = r) (hS : S = if r then ⟨(nodeL x.k x.n x.s x.kids.len x.kids.bytes).toArray⟩ else ⟨#[]⟩) :
    Calls Try.prog 38 #[nodeV x.k x.n x.s xv] w fun e w' => e = .returned (.tuple #[.string S, .bool r]) ∧ Below w.heap.size w w' := by
  obtain ⟨xa, xc, rfl⟩ := hx.shape
  obtain ⟨w1, hw1⟩ : ∃ w1, w1 = w.alloc (.cells #[.int .i64 x.k, .int .u64 x.n, .string x.s, .slice xa x.kids.len xc] 76) := ⟨_, rfl⟩
  have hbl : w1.heap[w.heap.size]? = some (.cells #[.int .i64 x.k, .int .u64 x.n, .string x.s, .slice xa x.kids.len xc] 76 (0, 0)) := by rw [hw1]; exact heap_alloc_new w _
  have hb1 : Hid (Below w.heap.size w w1) := Lib.hid (by rw [hw1]; exact (Below.refl _ w).alloc (Nat.le_refl _) _)
  have hl1 : w.heap.size < w1.heap.size := by rw [hw1]; simp
  have hx1 : Hid (KidsAt w1 (· < w.heap.size) x.kids (.slice xa x.kids.len xc)) := Lib.hid (hx.below hb1.out)
  have hcall := Lib.hid (rright_prog x (.slice xa x.kids.len xc) w1 hok hd (hx1.out.mono (fun b hb => by omega) (fun _ _ => rfl)))
  rw [hr] at hcall
  have HOK := Lib.hid hok
  have HS := Lib.hid hS
  have HLE := Lib.hid hlen
  unfold nodeV at hcall ⊢
  clear hx hok hr hS hlen
  cases r with
  | false =>
    have hse : Hid (S = ⟨#[]⟩) := Lib.hid (by rw [HS.out]; rfl)
    rw [hse.out]
    go_enter Try.func38, Try.ntmps38
    go_wp2_with fail
    rw [← hw1]
    clear hw1
    refine hcall.out.mono ?_
    rintro e w2 ⟨rfl, hb2⟩
    have HB2 := Lib.hid (hb1.out.trans (hb2.mono hb1.out.size))
    clear hcall hb2
    go_wp2_with fail
    go_ret2
    exact ⟨rfl, HB2.out⟩
  | true =>
    go_enter Try.func38, Try.ntmps38
    go_wp2_with fail
    rw [← hw1]
    clear hw1
    refine hcall.out.mono ?_
    rintro e w2 ⟨rfl, hb2⟩
    obtain ⟨x0, x1, x2, x3, _, _, _, _⟩ := block4' (blockP hb2 hbl)
    have hby := Lib.hid (bytes_ok (x.kids.deep + 1) x (.slice xa x.kids.len xc) w.heap.size w2 (by omega) HOK.out (by have := hb2.size; omega) (hx1.out.below (hb2.mono (by omega))) HLE.out)
    have hse : Hid (S = ⟨(nodeL x.k x.n x.s x.kids.len x.kids.bytes).toArray⟩) := Lib.hid (by rw [HS.out]; rfl)
    rw [← hse.out] at hby
    have hSs : S.size ≤ 16777216 := by rw [hse.out, sz_list]; exact HLE.out
    have hSI : ¬ (16777216 : Int) < (S.size : Int) := by omega
    have HB2 := Lib.hid (hb1.out.trans (hb2.mono hb1.out.size))
    unfold nodeV at hby
    clear hcall hb2 hSs
    go_wp2_with fail
    refine hby.out.mono ?_
    rintro e w3 ⟨rfl, hb3⟩
    have HB3 := Lib.hid (HB2.out.trans (hb3.mono HB2.out.size))
    clear hb3 hby
    go_wp2_with fail
    go_ret2
    exact ⟨rfl, HB3.out⟩
end Go.Proofs.Ytgdlnjhbencjkaa
