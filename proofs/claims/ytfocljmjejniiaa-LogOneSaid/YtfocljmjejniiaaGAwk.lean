/- log: awake of the law. -/
import Derived.Test.YtfocljmjejniiaaGLs
namespace Go.Proofs.Ytfocljmjejniiaa
open Go.RowKit

theorem esl_block {w : World} {g cap : Nat} {E : List Ent} (h : w.heap[g]? = some (.cells (entC E).toArray 37 (0, 0))) (hc : E.length ≤ cap) : ESl w (.slice (some ⟨g, 0, none⟩) E.length cap) E := by
  refine ⟨_, _, rfl, hc, fun _ => ⟨g, 0, rfl, block_lt h, fun i x hx => ?_⟩⟩
  obtain ⟨e1, e2⟩ := entC_get E i x hx
  have hcell : ∀ (j : Nat) (u : Value), (entC E)[j]? = some u → w.cell? ⟨g, 0 + j, none⟩ = some u := fun j u hu => by
    unfold World.cell?
    rw [h]
    simpa using hu
  exact ⟨hcell _ _ e1, hcell _ _ e2⟩
def sA : ByteArray := ⟨#[97]⟩
def sB : ByteArray := ⟨#[98]⟩
def sC : ByteArray := ⟨#[99]⟩
theorem smAB : SmE [(1, sA), (1, sB)] := ⟨by decide, fun x hx => by
  simp only [List.mem_cons, List.not_mem_nil, or_false] at hx
  rcases hx with rfl | rfl <;> exact ⟨by decide, by decide⟩, fun x hx => by
  simp only [List.mem_cons, List.not_mem_nil, or_false] at hx
  rcases hx with rfl | rfl <;> decide⟩
theorem smAC : SmE [(1, sA), (2, sC)] := ⟨by decide, fun x hx => by
  simp only [List.mem_cons, List.not_mem_nil, or_false] at hx
  rcases hx with rfl | rfl <;> exact ⟨by decide, by decide⟩, fun x hx => by
  simp only [List.mem_cons, List.not_mem_nil, or_false] at hx
  rcases hx with rfl | rfl <;> decide⟩
theorem smC : SmE [(2, sC)] := ⟨by decide, fun x hx => by
  simp only [List.mem_cons, List.not_mem_nil, or_false] at hx
  subst hx; exact ⟨by decide, by decide⟩, fun x hx => by
  simp only [List.mem_cons, List.not_mem_nil, or_false] at hx
  subst hx; decide⟩

/-- A new disk and the log on it. -/
theorem open_ls {w : World} {db : Nat} {dv : Value} {c : CT} {T : ByteArray} {room : Nat} (hd : Dk w db dv T T.size false false 0) (hg : Good c T room) :
    Calls Try.prog 7 #[.pointer (some ⟨db, 0, none⟩)] w fun e w' => ∃ p : Lp, e = .returned (.tuple #[.pointer (some ⟨p.lb, 0, none⟩), .int .i64 0]) ∧ p.db = db ∧ p.dv = dv ∧ LS w' p c T 0 ∧ w.heap.size ≤ p.lb ∧ (∀ k, p.v.ownBlock = some k → w.heap.size ≤ k) ∧ Below w.heap.size w w' := by
  refine (open_prog hd (by have := hg.size; omega) hg.read).mono ?_
  rintro e w' ⟨lb, v, he, h1, h2, h3, h4⟩
  exact ⟨⟨lb, db, v, dv⟩, he, rfl, rfl, ⟨h2, hd.later h4⟩, h1, h3, h4⟩

set_option maxHeartbeats 4000000 in
set_option maxRecDepth 100000 in
theorem awake_prog (w : World) : Calls Try.prog 4 #[] w fun e w' => e = .returned (.bool true) ∧ Below w.heap.size w w' := by
  go_enter Try.func4, Try.ntmps4
  go_wp2_with fail
  refine (new_prog w).mono ?_
  rintro e w1 ⟨rfl, hd1, hb1⟩
  have K2 := Lib.hid (open_ls (T := ⟨#[]⟩) hd1 good_new)
  have HB1 := Lib.hid hb1
  clear hd1 hb1
  go_wp2_with fail
  refine K2.out.mono ?_
  rintro e w2 ⟨p, rfl, hpd, hpv, hls2, hlb, hvl, hb2⟩
  have hlow2 : ∀ j, p.fp j → w.heap.size ≤ j := fun j hj => by
    have := HB1.out.size
    rcases hj with rfl | rfl | e | e
    · omega
    · rw [hpd]; omega
    · have := hvl j e; omega
    · rw [hpv] at e; simp [Value.ownBlock] at e
  have HL2 : Hid (LS w2 p (cE 0 (-1) []) ⟨#[]⟩ 0) := Lib.hid hls2
  have HLO2 := Lib.hid hlow2
  have HB2 := Lib.hid (HB1.out.trans (hb2.mono HB1.out.size))
  have HPD := Lib.hid hpd
  clear hpv hls2 hlb hvl hb2 hlow2 HB1 K2 hpd
  obtain ⟨lb, hlbb⟩ : ∃ lb, p.lb = lb := ⟨_, rfl⟩
  obtain ⟨db, hdbb⟩ : ∃ db, w.heap.size = db := ⟨_, rfl⟩
  rw [hlbb, hdbb]
  have HLB := Lib.hid hlbb
  have HDB := Lib.hid hdbb
  clear hlbb hdbb
  have hK3 : Hid (Calls Try.prog 8 #[.pointer (some ⟨lb, 0, none⟩), .int .u64 0, .slice (some ⟨w2.heap.size, 0, none⟩) 2 2] (w2.alloc (.cells #[.int .u64 1, .string ⟨#[97]⟩, .int .u64 1, .string ⟨#[98]⟩] 37)) fun e w' => e = .returned (.int .i64 0) ∧ ∃ p' T' room', p'.lb = p.lb ∧ p'.db = p.db ∧ LS w' p' (cE 0 (-1) [(1, sA), (1, sB)]) T' room' ∧
      Good (cE 0 (-1) [(1, sA), (1, sB)]) T' room' ∧ LX p (w2.alloc (.cells #[.int .u64 1, .string ⟨#[97]⟩, .int .u64 1, .string ⟨#[98]⟩] 37)) w' p') := Lib.hid (by
    have hb := (Below.refl w2.heap.size w2).alloc (Nat.le_refl _) (.cells #[.int .u64 1, .string ⟨#[97]⟩, .int .u64 1, .string ⟨#[98]⟩] 37)
    have := add_ls 0 (-1) [] [(1, sA), (1, sB)] 0 (.slice (some ⟨w2.heap.size, 0, none⟩) 2 2) (HL2.out.later hb) good_new SmE.nil smAB (by decide) (by decide) (by decide) (by decide)
      (esl_block (E := [(1, sA), (1, sB)]) (heap_alloc_new w2 _) (Nat.le_refl _)) (fun _ k hk => by
        have hk' : w2.heap.size = k := by simpa [Value.ownBlock] using hk
        subst hk'
        exact ⟨fun e => by have := HL2.out.lt _ (.inl e); omega, fun e => by have := HL2.out.lt _ (.inr (.inr (.inl e))); omega⟩)
    rw [HLB.out] at this ⊢
    exact this)
  go_wp2_with fail
  refine hK3.out.mono ?_
  rintro e w3 ⟨rfl, p3, T3, room3, hp3, hd3, hl3, hg3, hx3⟩
  have hx03 := (LX.ofBelow p ((Below.refl w2.heap.size w2).alloc (Nat.le_refl _) (.cells #[.int .u64 1, .string ⟨#[97]⟩, .int .u64 1, .string ⟨#[98]⟩] 37))).trans hx3
  have HLO3 := Lib.hid (hx03.low HLO2.out HB2.out.size)
  have HB3 := Lib.hid (HB2.out.trans (hx03.below HLO2.out HB2.out.size))
  have HL3 := Lib.hid hl3
  have HG3 := Lib.hid hg3
  have HPL3 := Lib.hid (hp3.trans HLB.out)
  have HPD3 := Lib.hid (hd3.trans HPD.out)
  clear hp3 hd3 hl3 hg3 hx3 hx03 hK3 HL2 HLO2 HB2 HLB HPD
  have hK4 : Hid (Calls Try.prog 8 #[.pointer (some ⟨lb, 0, none⟩), .int .u64 1, .slice (some ⟨w3.heap.size, 0, none⟩) 1 1] (w3.alloc (.cells #[.int .u64 2, .string ⟨#[99]⟩] 37)) fun e w' => e = .returned (.int .i64 0) ∧ ∃ p' T' room', p'.lb = p3.lb ∧ p'.db = p3.db ∧ LS w' p' (cE 0 (-1) [(1, sA), (2, sC)]) T' room' ∧
      Good (cE 0 (-1) [(1, sA), (2, sC)]) T' room' ∧ LX p3 (w3.alloc (.cells #[.int .u64 2, .string ⟨#[99]⟩] 37)) w' p') := Lib.hid (by
    have hb := (Below.refl w3.heap.size w3).alloc (Nat.le_refl _) (.cells #[.int .u64 2, .string ⟨#[99]⟩] 37)
    have := add_ls 0 (-1) [(1, sA), (1, sB)] [(2, sC)] 1 (.slice (some ⟨w3.heap.size, 0, none⟩) 1 1) (HL3.out.later hb) HG3.out smAB smC (by decide) (by decide) (by decide) (by decide)
      (esl_block (E := [(2, sC)]) (heap_alloc_new w3 _) (Nat.le_refl _)) (fun _ k hk => by
        have hk' : w3.heap.size = k := by simpa [Value.ownBlock] using hk
        subst hk'
        exact ⟨fun e => by have := HL3.out.lt _ (.inl e); omega, fun e => by have := HL3.out.lt _ (.inr (.inr (.inl e))); omega⟩)
    rw [HPL3.out] at this ⊢
    exact this)
  go_wp2_with fail
  refine hK4.out.mono ?_
  rintro e w4 ⟨rfl, p4, T4, room4, hp4, hd4, hl4, hg4, hx4⟩
  have hx04 := (LX.ofBelow p3 ((Below.refl w3.heap.size w3).alloc (Nat.le_refl _) (.cells #[.int .u64 2, .string ⟨#[99]⟩] 37))).trans hx4
  have HLO4 := Lib.hid (hx04.low HLO3.out HB3.out.size)
  have HB4 := Lib.hid (HB3.out.trans (hx04.below HLO3.out HB3.out.size))
  have hpl4 := hp4.trans HPL3.out
  have HPD4 := Lib.hid (hd4.trans HPD3.out)
  have K5 := term_ls 0 (-1) [(1, sA), (2, sC)] 3 1 hl4 hg4 smAC (by decide) (by decide) (by decide) (by decide) (by decide) (by decide) (by decide)
  rw [hpl4] at K5
  have K5 : Hid (Calls Try.prog 13 #[.pointer (some ⟨lb, 0, none⟩), .int .u64 3, .int .i64 1] w4 _) := Lib.hid K5
  clear hp4 hd4 hl4 hg4 hx4 hx04 hK4 HL3 HLO3 HB3 HPL3 HPD3 HG3 hpl4
  go_wp2_with fail
  refine K5.out.mono ?_
  rintro e w5 ⟨rfl, p5, T5, room5, hp5, hd5, hl5, hg5, hx5⟩
  have hpd5 := hd5.trans HPD4.out
  have HLO5 := Lib.hid (hx5.low HLO4.out HB4.out.size)
  have HB5 := Lib.hid (HB4.out.trans (hx5.below HLO4.out HB4.out.size))
  have hdk := hl5.disk
  rw [hpd5, HDB.out] at hdk
  have K6 := Lib.hid (crash0 hdk (by have := hg5.size; omega))
  have HG5 := Lib.hid hg5
  have HDL5 := Lib.hid (fun j (hj : p5.dv.ownBlock = some j) => HLO5.out j (.inr (.inr (.inr hj))))
  clear hp5 hd5 hl5 hg5 hx5 K5 HLO4 HB4 HPD4 hdk hpd5
  go_wp2_with fail
  refine K6.out.mono ?_
  rintro e w6 ⟨rfl, dv6, hd6, hc6⟩
  have HB6 := Lib.hid (HB5.out.trans (hc6.below (by rw [HDB.out]; exact Nat.le_refl _) HDL5.out HB5.out.size))
  have K7 := Lib.hid (open_ls hd6 HG5.out)
  clear hd6 hc6 K6 HB5 HDL5 HLO5
  go_wp2_with fail
  refine K7.out.mono ?_
  rintro e w7 ⟨q, rfl, _, _, hl7, _, _, hb7⟩
  have HB7 := Lib.hid (HB6.out.trans (hb7.mono HB6.out.size))
  have hq := hl7.log
  obtain ⟨lq, hlq⟩ : ∃ lq, q.lb = lq := ⟨_, rfl⟩
  rw [hlq] at hq ⊢
  have HQ := Lib.hid hq
  have K8 := Lib.hid (show Calls Try.prog 14 #[.pointer (some ⟨lq, 0, none⟩), .int .u64 2] w7 fun e w' => e = .returned (.tuple #[.agg #[.int .u64 2, .string ⟨#[99]⟩], .bool true]) ∧ Below w7.heap.size w7 w' from gat_prog 2 hq (by decide) (by decide))
  clear hl7 hb7 K7 HB6 hlq hq
  go_wp2_with fail
  refine K8.out.mono ?_
  rintro e w8 ⟨rfl, hb8⟩
  have HB8 := Lib.hid (HB7.out.trans (hb8.mono HB7.out.size))
  have HQ8 := Lib.hid (HQ.out.later hb8)
  clear hb8 K8 HB7 HQ
  have hb9 := HB8.out.trans ((Below.refl w.heap.size w8).alloc HB8.out.size (.cells #[.int .u64 2, .string ⟨#[99]⟩] 37))
  have hq9 := HQ8.out.later ((Below.refl w8.heap.size w8).alloc (Nat.le_refl _) (.cells #[.int .u64 2, .string ⟨#[99]⟩] 37))
  have K9 := Lib.hid (show Calls Try.prog 15 #[.pointer (some ⟨lq, 0, none⟩)] (w8.alloc (.cells #[.int .u64 2, .string ⟨#[99]⟩] 37)) fun e w' => e = .returned (.int .u64 2) ∧ Same (w8.alloc (.cells #[.int .u64 2, .string ⟨#[99]⟩] 37)) w' from glast_prog hq9 (by decide))
  have K10 := Lib.hid (fun W (hW : LgAt W lq q.db false 0 q.v (cE 3 1 [(1, sA), (2, sC)])) => show Calls Try.prog 16 #[.pointer (some ⟨lq, 0, none⟩)] W (fun e w' => e = .returned (.int .u64 3) ∧ w' = W) from gterm_prog hW)
  have K11 := Lib.hid (fun W (hW : LgAt W lq q.db false 0 q.v (cE 3 1 [(1, sA), (2, sC)])) => show Calls Try.prog 17 #[.pointer (some ⟨lq, 0, none⟩)] W (fun e w' => e = .returned (.int .i64 1) ∧ w' = W) from gvote_prog hW)
  have HB9 := Lib.hid hb9
  have HQ9 := Lib.hid hq9
  clear hb9 hq9 HB8 HQ8
  go_wp2_with fail
  refine K9.out.mono ?_
  rintro e w9 ⟨rfl, hs9⟩
  have hq10 := HQ9.out.later (hs9.below _)
  have HB10 := Lib.hid (HB9.out.trans (hs9.below _))
  have K10' := Lib.hid (K10.out w9 hq10)
  have K11' := Lib.hid (K11.out w9 hq10)
  clear hs9 hq10 K9 K10 K11 HB9 HQ9
  go_wp2_with fail
  refine K10'.out.mono ?_
  rintro e w10 ⟨rfl, rfl⟩
  go_wp2_with fail
  refine K11'.out.mono ?_
  rintro e w11 ⟨rfl, rfl⟩
  go_wp2_with fail
  go_ret
  exact ⟨rfl, HB10.out⟩
end Go.Proofs.Ytfocljmjejniiaa
