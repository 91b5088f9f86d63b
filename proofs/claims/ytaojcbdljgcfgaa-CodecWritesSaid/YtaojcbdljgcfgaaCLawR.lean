/- CodecReads' law. -/
import Derived.Test.YtaojcbdljgcfgaaCAwk
import Derived.Test.YtaojcbdljgcfgaaCRf
import Derived.Test.YtaojcbdljgcfgaaCSame
namespace Go.Proofs.Ytaojcbdljgcfgaa
open Go.RowKit

theorem readO_some {l : List UInt8} {x : Nd} (h : readO l = some x) : l = x.bytes ∧ x.right 20 = true ∧ (l.length < 268435456 → x.ok) := by
  unfold readO at h
  split at h
  · rename_i y hp
    obtain rfl := Option.some.inj h
    have := parse_inv 20 l _ _ hp
    simpa using this
  · cases h
theorem kids_later {w w' : World} {A : Nat} {f : F} {v : Value} (h : KidsAt w (fun g => A ≤ g ∧ g < w.heap.size) f v) (hb : Below w.heap.size w w') : KidsAt w' (fun g => g < w'.heap.size) f v :=
  h.mono (fun _ hb2 => Nat.lt_of_lt_of_le hb2.2 hb.size) (fun b hb2 => hb.block b hb2.2)

set_option maxRecDepth 30000 in
set_option maxHeartbeats 2000000 in
theorem reads_law (s : ByteArray) (w : World) (hmax : s.size ≤ maxLen) : Calls Try.prog 4 #[.string s] w fun e w' => e = .returned (.bool true) ∧ Below w.heap.size w w' := by
  unfold maxLen at hmax
  have HA := Lib.hid (awake_prog w)
  go_enter Try.func4, Try.ntmps4
  by_cases hbig : 3000 < s.size
  · go_wp2_with fail
    refine HA.out.mono ?_
    rintro e w1 ⟨rfl, hb1⟩
    go_wp2
    go_ret
    exact ⟨rfl, hb1⟩
  · have hs : s.size ≤ 10000000 := by omega
    have hs2 : ¬ (3000 : Int) < (s.size : Int) := by omega
    go_wp2_with fail
    refine HA.out.mono ?_
    rintro e w1 ⟨rfl, hb1⟩
    have h1 := Lib.hid (read_prog s w1 hs)
    clear HA
    go_wp2_with fail
    refine h1.out.mono ?_
    rintro e w2 ⟨x, xa, xn, xc, b, rfl, hb2, p1, p2, hk2⟩
    have h2 := Lib.hid (read_ref s (w2.alloc (.cells #[.int .i64 x.k, .int .u64 x.n, .string x.s, .slice xa xn xc] 27)) hs)
    unfold nodeV
    have HB2 := Lib.hid (hb1.trans (hb2.mono hb1.size))
    have HK2 := Lib.hid hk2
    clear h1 hb1 hb2 hk2
    go_wp2_with fail
    refine h2.out.mono ?_
    rintro e w3 ⟨y, ya, yn, yc, b', rfl, hb3, q1, q2, hk3⟩
    clear h2
    have hxy : x = y ∧ b = b' := by
      cases b with
      | true =>
        have e1 := p1 rfl
        cases b' with
        | true => have e2 := q1 rfl; rw [e1] at e2; exact ⟨Option.some.inj e2, rfl⟩
        | false => have e2 := (q2 rfl).1; rw [e1] at e2; cases e2
      | false =>
        have e1 := p2 rfl
        cases b' with
        | true => have e2 := q1 rfl; rw [e1.1] at e2; cases e2
        | false => have e2 := (q2 rfl).2; exact ⟨by rw [e1.2, e2], rfl⟩
    obtain ⟨rfl, rfl⟩ := hxy
    obtain ⟨c0, c1, c2, c3, _, _, _, _⟩ := block4 (block_kept (heap_alloc_new w2 _) (by simp) hb3)
    unfold nodeV
    have hs3 : w2.heap.size < w3.heap.size := by have := hb3.size; simp at this; omega
    have HB3 := Lib.hid ((HB2.out.alloc HB2.out.size (.cells #[.int .i64 x.k, .int .u64 x.n, .string x.s, .slice xa xn xc] 27)).trans (hb3.mono (by have := HB2.out.size; simp; omega)))
    have hb23 : Below w2.heap.size w2 w3 := ((Below.refl _ w2).alloc (Nat.le_refl _) _).trans (hb3.mono (by simp))
    have hbx : Below w2.heap.size w2 (w3.alloc (.cells #[.int .i64 x.k, .int .u64 x.n, .string x.s, .slice ya yn yc] 27)) := hb23.alloc (by have := hb23.size; omega) _
    have hky : KidsAt (w3.alloc (.cells #[.int .i64 x.k, .int .u64 x.n, .string x.s, .slice ya yn yc] 27)) (fun g => g < (w3.alloc (.cells #[.int .i64 x.k, .int .u64 x.n, .string x.s, .slice ya yn yc] 27)).heap.size) x.kids (.slice ya yn yc) :=
      kids_later hk3 ((Below.refl _ w3).alloc (Nat.le_refl _) _)
    have hkx := kids_later HK2.out hbx
    have hok : x.ok := by
      cases b with
      | true => exact (readO_some (p1 rfl)).2.2 (by simp; omega)
      | false => rw [(p2 rfl).2]; exact ⟨⟨by decide, by decide⟩, by decide, by decide, trivial⟩
    have hsame := Lib.hid (same_ok (x.kids.deep + 1) x x (.slice xa xn xc) (.slice ya yn yc) _ (w3.alloc (.cells #[.int .i64 x.k, .int .u64 x.n, .string x.s, .slice ya yn yc] 27)) (by omega) hok.2.2.1 hok.2.2.2 (Nat.le_refl _) hkx hky)
    rw [show x.eqB x = true from (ndEqB_iff x x).2 rfl] at hsame
    unfold nodeV at hsame
    have HKX := Lib.hid hkx
    have P1 := Lib.hid p1
    have HOK := Lib.hid hok
    clear hk3 q1 q2 hb23 hbx hky hb3 hkx p1 p2 hok HK2 HB2
    cases b with
    | false =>
      go_wp2_with fail
      refine hsame.out.mono ?_
      rintro e w4 ⟨rfl, hb4⟩
      have HB4 := Lib.hid ((HB3.out.alloc HB3.out.size (.cells #[.int .i64 x.k, .int .u64 x.n, .string x.s, .slice ya yn yc] 27)).trans (hb4.mono (by have := HB3.out.size; simp; omega)))
      clear hsame hb4
      go_wp2_with fail
      go_ret
      exact ⟨rfl, HB4.out⟩
    | true =>
      have PR := Lib.hid (P1.out rfl)
      clear P1
      go_wp2_with fail
      refine hsame.out.mono ?_
      rintro e w4 ⟨rfl, hb4⟩
      have HB4 := Lib.hid ((HB3.out.alloc HB3.out.size (.cells #[.int .i64 x.k, .int .u64 x.n, .string x.s, .slice ya yn yc] 27)).trans (hb4.mono (by have := HB3.out.size; simp; omega)))
      have d0 : w4.cell? ⟨w2.heap.size, 0, none⟩ = some (.int .i64 x.k) := by rw [hb4.cell (p := ⟨w2.heap.size, 0, none⟩) (by simp; omega)]; exact cell_alloc c0
      have d1 : w4.cell? ⟨w2.heap.size, 1, none⟩ = some (.int .u64 x.n) := by rw [hb4.cell (p := ⟨w2.heap.size, 1, none⟩) (by simp; omega)]; exact cell_alloc c1
      have d2 : w4.cell? ⟨w2.heap.size, 2, none⟩ = some (.string x.s) := by rw [hb4.cell (p := ⟨w2.heap.size, 2, none⟩) (by simp; omega)]; exact cell_alloc c2
      have d3 : w4.cell? ⟨w2.heap.size, 3, none⟩ = some (.slice xa xn xc) := by rw [hb4.cell (p := ⟨w2.heap.size, 3, none⟩) (by simp; omega)]; exact cell_alloc c3
      obtain ⟨e1, e2, _⟩ := readO_some PR.out
      have hk4 : KidsAt w4 (fun g => g < w4.heap.size) x.kids (.slice xa xn xc) := HKX.out.mono (fun _ h => Nat.lt_of_lt_of_le h hb4.size) (fun b h => hb4.block b h)
      have hwr := Lib.hid (write_prog x.k x.n x.s x.kids (.slice xa xn xc) w4 HOK.out hk4 (by
        have : (nodeL x.k x.n x.s x.kids.len x.kids.bytes) = s.data.toList := e1.symm
        rw [this]; unfold Fits; simp; omega) true s e2 (by
        have : (nodeL x.k x.n x.s x.kids.len x.kids.bytes) = s.data.toList := e1.symm
        rw [this]; simp))
      unfold nodeV at hwr
      clear hsame hb4 c0 c1 c2 c3 e1 e2 hk4
      go_wp2_with fail
      refine hwr.out.mono ?_
      rintro e w5 ⟨rfl, hb5⟩
      have HB5 := Lib.hid (HB4.out.trans (hb5.mono HB4.out.size))
      clear hwr hb5
      go_wp2
      go_ret
      exact ⟨rfl, HB5.out⟩
end Go.Proofs.Ytaojcbdljgcfgaa
