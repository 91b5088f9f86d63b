/- Prefixes in slices; part's rightOf and leading. -/
import Derived.Test.YtmpjpaomgifpcaaGreatDoorPGath
import Derived.Test.YtmpjpaomgifpcaaGreatDoorPShow
import Derived.Test.YtmpjpaomgifpcaaGreatDoorBRefB
namespace Go.Proofs.YtmpjpaomgifpcaaGreatDoor
open Go.RowKit

theorem Tryz.askSl : SlN Tryz.prog 24 46 (.agg #[.string ⟨#[]⟩, .int .i64 0]) 2 24 := ⟨Tryz.underlying24, by kernel_rfl, rfl, by decide⟩
/-- A prefix as it is handed in. -/
abbrev AI := ByteArray × Int
def askC (l : List AI) : List Value := l.flatMap fun x => [.string x.1, .int .i64 x.2]
theorem askC_append (a b : List AI) : askC (a ++ b) = askC a ++ askC b := List.flatMap_append ..
theorem askC_length (l : List AI) : (askC l).length = l.length * 2 := by
  induction l with
  | nil => rfl
  | cons x l ih => simp only [askC, List.flatMap_cons, List.length_append, List.length_cons, List.length_nil] at ih ⊢; omega
theorem askC_get : ∀ (l : List AI) (i : Nat) (x : AI), l[i]? = some x → (askC l)[i * 2]? = some (.string x.1) ∧ (askC l)[i * 2 + 1]? = some (.int .i64 x.2)
  | [], _, _, h => by cases h
  | y :: l, 0, x, h => by
    obtain rfl : y = x := by simpa using h
    exact ⟨rfl, rfl⟩
  | y :: l, i + 1, x, h => by
    have := askC_get l i x (by simpa using h)
    have e : (askC (y :: l)) = .string y.1 :: .int .i64 y.2 :: askC l := rfl
    rw [e, show (i + 1) * 2 = i * 2 + 1 + 1 by omega]
    exact this
/-- The slice value v owns these prefixes. -/
def AOwn (w : World) (B : Nat) (v : Value) (l : List AI) : Prop := w.ownsRow B 46 2 v l.length (askC l)
theorem AOwn.nil (w : World) (B : Nat) : AOwn w B (.slice none 0 0) [] := World.ownsRow_nil _ _ _ _
theorem AOwn.low {w : World} {B : Nat} {v : Value} {l : List AI} (h : AOwn w B v l) : ∀ k, v.ownBlock = some k → B ≤ k := ownN_low h
theorem AOwn.later {w w' : World} {B : Nat} {v : Value} {l : List AI} (h : AOwn w B v l) (hb : Below w.heap.size w w') : AOwn w' B v l := ownN_mv h (fun k hk => hb.block k (World.ownsRow.lt h k hk).2)
theorem AOwn.shape {w : World} {B : Nat} {v : Value} {l : List AI} (h : AOwn w B v l) : ∃ a c, v = .slice a l.length c ∧ l.length ≤ c := by
  rcases h.2 with ⟨h1, h2⟩ | ⟨g, cap, cur, hv, _, _, hn, _⟩
  · exact ⟨none, 0, by rw [h1, h2], by omega⟩
  · exact ⟨_, _, hv, hn⟩
/-- The slice's elements are these prefixes. -/
def ASl (w : World) (v : Value) (l : List AI) : Prop := ∃ a c, v = .slice a l.length c ∧ l.length ≤ c ∧ (l ≠ [] → ∃ g o, a = some ⟨g, o, none⟩ ∧ g < w.heap.size ∧
  ∀ i x, l[i]? = some x → w.cell? ⟨g, o + i * 2, none⟩ = some (.string x.1) ∧ w.cell? ⟨g, o + i * 2 + 1, none⟩ = some (.int .i64 x.2))
theorem ASl.later {w w' : World} {v : Value} {l : List AI} (h : ASl w v l) (hb : Below w.heap.size w w') : ASl w' v l := by
  obtain ⟨a, c, h1, h2, h3⟩ := h
  refine ⟨a, c, h1, h2, fun hne => ?_⟩
  obtain ⟨g, o, ha, hg, hc⟩ := h3 hne
  refine ⟨g, o, ha, Nat.lt_of_lt_of_le hg hb.size, fun i x hx => ?_⟩
  have := hc i x hx
  exact ⟨cellB hb this.1, cellB hb this.2⟩
theorem ASl.grew {w w' : World} {v u u' : Value} {l : List AI} (h : ASl w v l) (hgr : Grew w u w' u') (hne : l ≠ [] → ∀ k, v.ownBlock = some k → u.ownBlock ≠ some k) : ASl w' v l := by
  obtain ⟨a, c, h1, h2, h3⟩ := h
  refine ⟨a, c, h1, h2, fun hn => ?_⟩
  obtain ⟨g, o, ha, hg, hc⟩ := h3 hn
  have hg' : u.ownBlock ≠ some g := hne hn g (by rw [h1, ha]; rfl)
  refine ⟨g, o, ha, Nat.lt_of_lt_of_le hg hgr.size, fun i x hx => ?_⟩
  have := hc i x hx
  exact ⟨Grew.cell hgr this.1 hg', Grew.cell hgr this.2 hg'⟩
theorem ASl.lt {w : World} {v : Value} {l : List AI} (h : ASl w v l) (hn : l ≠ []) : ∀ k, v.ownBlock = some k → k < w.heap.size := by
  obtain ⟨a, c, h1, h2, h3⟩ := h
  obtain ⟨g, o, ha, hg, _⟩ := h3 hn
  intro k hk
  rw [h1, ha] at hk
  obtain rfl : g = k := by simpa [Value.ownBlock] using hk
  exact hg
/-- The prefixes don't lie in what v owns. -/
def Apart (av : Value) (l : List AI) (v : Value) : Prop := l ≠ [] → ∀ k, av.ownBlock = some k → v.ownBlock ≠ some k
theorem Apart.grew {w w' : World} {av v v' : Value} {l : List AI} (h : Apart av l v) (hs : ASl w av l) (hg : Grew w v w' v') : Apart av l v' := fun hn k hk e => by
  rcases hg.loc k e with h1 | h1
  · exact h hn k hk h1
  · have := hs.lt hn k hk; omega
theorem AOwn.sl {w : World} {B : Nat} {v : Value} {l : List AI} (h : AOwn w B v l) : ASl w v l := by
  obtain ⟨a, c, hv, hc⟩ := AOwn.shape h
  refine ⟨a, c, hv, hc, fun hne => ?_⟩
  rcases h.2 with ⟨h1, h2⟩ | ⟨g, cap, cur, he, hB, hg, hn, hm, hs, ht⟩
  · exact absurd (List.eq_nil_of_length_eq_zero h2) hne
  · rw [hv] at he
    injection he with h5 h6 h7
    refine ⟨g, 0, h5, block_lt hg, fun i x hx => ?_⟩
    have hcell : ∀ (j : Nat) (u : Value), (askC l)[j]? = some u → w.cell? ⟨g, 0 + j, none⟩ = some u := fun j u hu => by
      have hj : j < (askC l).length := (List.getElem?_eq_some_iff.1 hu).1
      rw [← ht, List.getElem?_take] at hu
      split at hu
      · unfold World.cell?
        rw [hg]
        simpa using hu
      · cases hu
    obtain ⟨g1, g2⟩ := askC_get l i x hx
    exact ⟨hcell _ _ g1, hcell _ _ g2⟩
/-- append of one prefix, in a plain region. -/
theorem list_appA {ops : Array Oper} {rest : List Oper} {o : Oper} {a : Act} {w : World} {Q : Exit → Act → World → Prop} (hgd : o.guard = none) (s x : Operand)
    (ho : o.op = .call { callee := .builtin .append, args := #[s, x], argTypes := #[24, 24] })
    (B : Nat) (v : Value) (l : List AI) (hs : a.eval s = v) (hown : AOwn w B v l)
    (g0 c : Nat) (p : AI) (hx : a.eval x = .slice (some ⟨g0, 0, none⟩) 1 c) (hblk : w.heap[g0]? = some (.cells #[.string p.1, .int .i64 p.2] 46 (0, 0)))
    (hl : l.length + 1 ≤ 100000) (hbase : B ≤ w.heap.size)
    (h : ∀ v' w', AOwn w' B v' (l ++ [p]) → Grew w v w' v' → wpList Tryz.prog ops Q rest (a.put o.dst v') w') :
    wpList Tryz.prog ops Q (o :: rest) a w := by
  refine list_appN Tryz.askSl hgd s x ho B v l.length (askC l) hs hown g0 1 c [.string p.1, .int .i64 p.2] hx hblk rfl (by simp [Value.oneCell']) (by omega) (by unfold maxLen; omega) (by omega) hbase ?_
  intro g cap w' h1 h2
  refine h _ w' ?_ h2
  unfold AOwn
  rw [List.length_append, askC_append]
  exact h1

def toI (q : Ask) : AI := (q.1, (q.2 : Int))
/-- Those that lead, one by one. -/
def ldA (k : List UInt8) (p : Nat) (s : Bool) : List Ask → List Ask → List Ask
  | acc, [] => acc
  | acc, q :: r => if leadB (ks q.1) q.2 k p s then (if q.2 ≤ p then [q] else ldA k p s (acc ++ [q]) r) else ldA k p s acc r
theorem ldA_eq (k : List UInt8) (p : Nat) (s : Bool) : ∀ (r acc : List Ask), ldA k p s acc r = match r.find? (fun q => leadB (ks q.1) q.2 k p s && decide (q.2 ≤ p)) with
    | some q => [q]
    | none => acc ++ r.filter fun q => leadB (ks q.1) q.2 k p s
  | [], acc => by simp [ldA]
  | q :: r, acc => by
    rw [ldA, List.find?_cons, List.filter_cons]
    cases h1 : leadB (ks q.1) q.2 k p s with
    | false =>
      simp only [Bool.false_and, Bool.false_eq_true, if_false]
      exact ldA_eq k p s r acc
    | true =>
      by_cases h2 : q.2 ≤ p
      · simp [h2]
      · simp only [h2, decide_false, Bool.and_false, if_true, if_false]
        rw [ldA_eq k p s r (acc ++ [q])]
        cases List.find? (fun q => leadB (ks q.1) q.2 k p s && decide (q.2 ≤ p)) r <;> simp
theorem ldA_all (k : List UInt8) (p : Nat) (s : Bool) (A : List Ask) : ldA k p s [] A = leadL k p s A := by
  rw [ldA_eq, leadL]; rfl

/-- Prefixes are answered, in a slice of this call's or in a part of what was handed in. -/
def LdRes (l : List Ask) (av : Value) (w : World) (e : Ending) (w' : World) : Prop := ∃ v, e = .returned v ∧ ASl w' v (l.map toI) ∧ (∀ k, v.ownBlock = some k → w.heap.size ≤ k ∨ av.ownBlock = some k) ∧ Below w.heap.size w w'
def LeRel (k : List UInt8) (p : Nat) (s : Bool) (A R : List Ask) (w : World) (v i : Value) (wr : World) : Prop :=
  ∃ (j : Nat) (ys : List Ask), i = .int .i64 j ∧ j ≤ A.length ∧ Hid (AOwn wr w.heap.size v (ys.map toI)) ∧ Hid (ldA k p s ys (A.drop j) = R) ∧ Hid (ys.length ≤ j) ∧ Below w.heap.size w wr

theorem addr_add (g o n : Nat) : (⟨g, o, none⟩ : Addr).add n = ⟨g, o + n, none⟩ := by
  unfold Addr.add
  split
  · rename_i h; subst h; rfl
  · rfl
theorem run_mid (ga : Addr) (L cap i : Nat) (hi : i + 1 ≤ cap) (W : World) :
    (Instr.sliceAt 24 (.slice (some ga) L cap) (some (.int .i64 (i : Int))) (some (.int .i64 ((i : Int) + 1))) none).run Tryz.prog W = .ok (.slice (some (ga.add (i * 2))) 1 (cap - i)) W := by
  obtain ⟨i0, hi0, hz, hsz, hby⟩ := info_parts Tryz.askSl.info
  have hund := Tryz.askSl.und
  have he : Tryz.prog.elem 24 = 46 := by simp [Program.elem, hund]
  rw [run_sliceAt_slice W _ _ _ _ _ (by rw [he]; exact hund), run_slice_lh W _ _ _ _ (by rw [he]; exact hund) .i64 .i64 (i : Int) ((i : Int) + 1) (by omega) (by omega) (by omega), he]
  have h1 : ((i : Int) + 1).toNat = i + 1 := by omega
  have h2 : ¬ cap = i := by omega
  simp [sizeOf, typeInfo, hi0, hsz, Result.andThen, sliced, h1, h2]

set_option maxRecDepth 30000 in
set_option maxHeartbeats 2000000 in
theorem leading_prog (A : List Ask) (av : Value) (b : Nat) (fk : ByteArray) (p : Nat) (s : Bool) (si : Int) (hsi : si = bitN s) (w : World) (hA : okA A) (hl : A.length ≤ 1000) (h : ASl w av (A.map toI)) (hf : fk.size = 32) (hp : p < 256)
    (c2 : w.cell? ⟨b, 2, none⟩ = some (.string fk)) (c4 : w.cell? ⟨b, 4, none⟩ = some (.int .i64 p)) :
    Calls Tryz.prog 68 #[av, pp b, .int .u8 si] w (LdRes (leadL (ks fk) p s A) av w) := by
  obtain ⟨la, lc, rfl, hlc, hne⟩ := h
  rw [List.length_map] at *
  have hR : ldA (ks fk) p s [] A = leadL (ks fk) p s A := ldA_all _ _ _ _
  obtain ⟨R, hR2⟩ : ∃ R, R = leadL (ks fk) p s A := ⟨_, rfl⟩
  rw [← hR2] at hR ⊢
  have HR := Lib.hid hR
  have HNE := Lib.hid hne
  have HSI := Lib.hid hsi
  have hl0 : (0 : Int) ≤ (A.length : Int) := by omega
  have hl1 : (A.length : Int) ≤ 1000 := by omega
  have C2 := Lib.hid c2
  have C4 := Lib.hid c4
  unfold pp
  clear hR hR2 hne hsi c2 c4
  go_enter Tryz.func68, Tryz.ntmps68
  go_wp2_with fail
  go_loopw [7, 12] (LeRel (ks fk) p s A R w) (fun _ i _ => 1000 - (intOf i).toNat)
  case atStart => exact ⟨0, [], rfl, by omega, Lib.hid (AOwn.nil _ _), HR, Lib.hid (Nat.le_refl _), Below.refl _ _⟩
  case round =>
    obtain ⟨j, ys, rfl, hj, hown, hld, hys, hb⟩ := hrel
    have hj0 : (0 : Int) ≤ (j : Int) := by omega
    have hj1 : (j : Int) ≤ 1000 := by omega
    have HB := Lib.hid hb
    have hsz := hb.size
    by_cases hlt : j < A.length
    · have hltI : (j : Int) < (A.length : Int) := by omega
      obtain ⟨q, hq⟩ : ∃ q, q = A[j] := ⟨_, rfl⟩
      have hd : A.drop j = q :: A.drop (j + 1) := by rw [hq]; exact List.drop_eq_getElem_cons hlt
      obtain ⟨g, o, rfl, hg, hcs⟩ := HNE.out (by intro e; rw [List.map_eq_nil_iff] at e; rw [e] at hlt; simp at hlt)
      have hqi : (A.map toI)[j]? = some (toI q) := by rw [List.getElem?_map, List.getElem?_eq_getElem hlt, hq]; rfl
      obtain ⟨d0, d1⟩ := hcs j _ hqi
      have hqA := hA q (by rw [hq]; exact List.getElem_mem hlt)
      obtain ⟨qk, qn⟩ := q
      have x0 : wr.cell? ⟨g, o + j * 2, none⟩ = some (.string qk) := cellB hb d0
      have x1 : wr.cell? ⟨g, o + j * 2 + 1, none⟩ = some (.int .i64 qn) := cellB hb d1
      have HCS := Lib.hid hcs
      have HQI := Lib.hid hqi
      have hrun := run_mid ⟨g, o, none⟩ A.length lc j (by omega)
      have hld2 : Hid ((if leadB (ks qk) qn (ks fk) p s then (if qn ≤ p then [(qk, qn)] else ldA (ks fk) p s (ys ++ [(qk, qn)]) (A.drop (j + 1))) else ldA (ks fk) p s ys (A.drop (j + 1))) = R) := Lib.hid (by
        have := hld.out; rw [hd, ldA] at this; exact this)
      have y2 := cellB hb C2.out
      have y4 := cellB hb C4.out
      clear hq hd d0 d1 hqi hb hld
      obtain ⟨W1, hW1⟩ : ∃ W1, W1 = wr.alloc (.cells #[.string qk, .int .i64 qn] 46) := ⟨_, rfl⟩
      have hbW : Below wr.heap.size wr W1 := by rw [hW1]; exact (Below.refl _ _).alloc (Nat.le_refl _) _
      obtain ⟨z0, z1⟩ := ask_cells (w := W1) (b := wr.heap.size) (k := qk) (n := qn) (by rw [hW1]; exact heap_alloc_new _ _)
      have t0 := z0
      have t1 := z1
      rw [hW1] at t0 t1
      have HB1 := Lib.hid (HB.out.trans (hbW.mono hsz))
      have HO1 : Hid (AOwn W1 w.heap.size _ (ys.map toI)) := Lib.hid (AOwn.later hown.out hbW)
      have hlead := Lib.hid (leads_at qk qn b fk p s si HSI.out W1 hqA.1 hf hp (cellB hbW y2) (cellB hbW y4))
      have Y4 := Lib.hid (cellB hbW y4)
      have HW1 := Lib.hid hW1
      have HX := Lib.hid (And.intro HCS.out HQI.out)
      obtain ⟨ld, hld⟩ : ∃ ld, ld = leadB (ks qk) qn (ks fk) p s := ⟨_, rfl⟩
      rw [← hld] at hlead hld2
      have hys1 : ys.length + 1 ≤ 1000 := by have := hys.out; omega
      unfold pp askV at hlead
      clear hW1 hbW hld hown hqA y2 y4 hcs
      cases ld with
      | false =>
        have hld3 : Hid (ldA (ks fk) p s ys (A.drop (j + 1)) = R) := Lib.hid hld2.out
        go_wp2_with fail
        rw [← HW1.out]
        (with_reducible refine hlead.out.mono ?_)
        rintro e w2 ⟨rfl, hb2⟩
        have HB2 := Lib.hid (HB1.out.trans (hb2.mono HB1.out.size))
        have HO2 := Lib.hid (AOwn.later HO1.out hb2)
        clear hb2 hlead
        go_wp2_with fail
        go_roundw
        case rel => exact ⟨j + 1, ys, by go_num, by omega, HO2, hld3, Lib.hid (by have := hys.out; omega), HB2.out⟩
        case measure => simp [intOf]; omega
      | true =>
        by_cases hle : qn ≤ p
        · have hI1 : (qn : Int) ≤ (p : Int) := by omega
          have hI2 : decide ((qn : Int) ≤ (p : Int)) = true := decide_eq_true hI1
          have hI3 : decide (qn ≤ p) = true := decide_eq_true hle
          have hRq : Hid ([(qk, qn)] = R) := Lib.hid (by have := hld2.out; rw [if_pos rfl, if_pos hle] at this; exact this)
          clear hle
          go_wp2_with fail
          rw [← HW1.out]
          (with_reducible refine hlead.out.mono ?_)
          rintro e w2 ⟨rfl, hb2⟩
          have HB2 := Lib.hid (HB1.out.trans (hb2.mono HB1.out.size))
          have u1 := cellB hb2 z1
          have u4 := cellB hb2 Y4.out
          clear hb2 hlead
          go_wp2_with fail
          go_quiet (fail)
          go_wp2_with fail
          go_ret
          refine ⟨_, rfl, ?_, fun k hk => .inr hk, HB2.out.trans ((drewN_below _ _).mono HB2.out.size)⟩
          rw [← hRq.out]
          have hbb : Below w.heap.size w (w2.drewN nq) := HB2.out.trans ((drewN_below _ _).mono HB2.out.size)
          have hc0 := HCS.out j _ HQI.out
          refine ⟨some ⟨g, o + j * 2, none⟩, lc - j, ?_, by show 1 ≤ lc - j; omega, fun _ => ⟨g, o + j * 2, rfl, Nat.lt_of_lt_of_le hg hbb.size, fun i x hx => ?_⟩⟩
          · rfl
          · obtain ⟨rfl, rfl⟩ : i = 0 ∧ x = toI (qk, qn) := by
              rcases i with _ | i
              · exact ⟨rfl, by simpa using hx.symm⟩
              · simp at hx
            rw [Nat.zero_mul, Nat.add_zero]
            exact ⟨cellB hbb hc0.1, cellB hbb hc0.2⟩
        · have hI1 : ¬ (qn : Int) ≤ (p : Int) := by omega
          have hI2 : decide ((qn : Int) ≤ (p : Int)) = false := decide_eq_false hI1
          have hI3 : decide (qn ≤ p) = false := decide_eq_false hle
          have hld3 : Hid (ldA (ks fk) p s (ys ++ [(qk, qn)]) (A.drop (j + 1)) = R) := Lib.hid (by have := hld2.out; rw [if_pos rfl, if_neg hle] at this; exact this)
          clear hle
          go_wp2_with fail
          rw [← HW1.out]
          (with_reducible refine hlead.out.mono ?_)
          rintro e w2 ⟨rfl, hb2⟩
          have HB2 := Lib.hid (HB1.out.trans (hb2.mono HB1.out.size))
          have u0 := cellB hb2 z0
          have u1 := cellB hb2 z1
          have u4 := cellB hb2 Y4.out
          have HO2 := Lib.hid (AOwn.later HO1.out hb2)
          clear hb2 hlead
          go_wp2_with fail
          go_quiet (fail)
          obtain ⟨W3, hW3⟩ : ∃ W3, W3 = w2.drewN nq := ⟨_, rfl⟩
          rw [← hW3]
          have HB3 : Hid (Below w.heap.size w W3) := Lib.hid (by rw [hW3]; exact HB2.out.trans ((drewN_below _ _).mono HB2.out.size))
          have HO3 : Hid (AOwn W3 w.heap.size u7 (ys.map toI)) := Lib.hid (by rw [hW3]; exact HO2.out)
          have v0 : W3.cell? ⟨wr.heap.size, 0, none⟩ = some (.string qk) := by rw [hW3]; exact u0
          have v1 : W3.cell? ⟨wr.heap.size, 1, none⟩ = some (.int .i64 qn) := by rw [hW3]; exact u1
          have hsz3 := HB3.out.size
          clear hW3 u0 u1 u4 z0 z1 t0 t1 x0 x1
          go_wp2_with (refine list_appA rfl _ _ rfl w.heap.size u7 (ys.map toI) rfl (World.ownsRow.alloc HO3.out _) W3.heap.size 1 (qk, (qn : Int)) rfl (heap_alloc_new W3 _) (by rw [List.length_map]; omega) (by simp; omega) ?_)
          intro v5 w5 hown5 hgr5
          have HB5 : Hid (Below w.heap.size w w5) := Lib.hid ((HB3.out.trans ((Below.refl _ W3).alloc hsz3 _)).trans (hgr5.below (by simp; omega) (AOwn.low HO3.out)))
          have HO5 : Hid (AOwn w5 w.heap.size v5 ((ys ++ [(qk, qn)]).map toI)) := Lib.hid (by rw [List.map_append]; exact hown5)
          clear hown5 hgr5
          go_wp2_with fail
          go_roundw
          case rel => exact ⟨j + 1, ys ++ [(qk, qn)], by go_num, by omega, HO5, hld3, Lib.hid (by rw [List.length_append]; have := hys.out; simp; omega), HB5.out⟩
          case measure => simp [intOf]; omega
    · have hltI : ¬ (j : Int) < (A.length : Int) := by omega
      have hfin : Hid (ys = R) := Lib.hid (by
        have := hld.out
        rw [List.drop_of_length_le (by omega), ldA] at this; exact this)
      clear hb hld
      go_wp2_with fail
      go_ret
      exact ⟨_, rfl, by rw [← hfin.out]; exact AOwn.sl hown.out, fun k hk => .inl (AOwn.low hown.out k hk), HB.out⟩

/-- Texts in a slice. -/
def StrSl (w : World) (v : Value) (l : List ByteArray) : Prop := ∃ a c, v = .slice a l.length c ∧ (l ≠ [] → ∃ g o, a = some ⟨g, o, none⟩ ∧ g < w.heap.size ∧ ∀ i x, l[i]? = some x → w.cell? ⟨g, o + i, none⟩ = some (.string x))
theorem StrSl.later {w w' : World} {v : Value} {l : List ByteArray} (h : StrSl w v l) (hb : Below w.heap.size w w') : StrSl w' v l := by
  obtain ⟨a, c, h1, h3⟩ := h
  refine ⟨a, c, h1, fun hne => ?_⟩
  obtain ⟨g, o, ha, hg, hc⟩ := h3 hne
  exact ⟨g, o, ha, Nat.lt_of_lt_of_le hg hb.size, fun i x hx => cellB hb (hc i x hx)⟩
/-- The right ones, as prefixes. -/
def rightL (keys : List ByteArray) (under : List AI) : List AI := ((keys.map fun k => (k, (256 : Int))) ++ under).filter fun x => rightB x.1 x.2
def toN (x : AI) : Ask := (x.1, x.2.toNat)
theorem rightL_ask (keys : List ByteArray) (under : List AI) : ((rightL keys under).map toN).map toI = rightL keys under := by
  rw [List.map_map]
  conv => rhs; rw [← List.map_id (rightL keys under)]
  apply List.map_congr_left
  intro x hx
  have h := (List.mem_filter.1 hx).2
  have h2 := of_decide_eq_true h
  obtain ⟨k, n⟩ := x
  simp only [Function.comp, toN, toI, id]
  rw [Int.toNat_of_nonneg h2.2.1]
theorem rightL_ok (keys : List ByteArray) (under : List AI) : okA ((rightL keys under).map toN) := by
  intro q hq
  obtain ⟨x, hx, rfl⟩ := List.mem_map.1 hq
  have h2 := of_decide_eq_true (List.mem_filter.1 hx).2
  exact ⟨h2.1, by show x.2.toNat ≤ 256; omega⟩

def ROwn (w : World) (e : Ending) (w' : World) (l : List AI) : Prop := ∃ v, e = .returned v ∧ AOwn w' w.heap.size v l ∧ Below w.heap.size w w'
def R1Rel (K : List AI) (w : World) (R : List AI) (v i : Value) (wr : World) : Prop :=
  ∃ (j : Nat) (ys : List AI), i = .int .i64 j ∧ j ≤ K.length ∧ Hid (AOwn wr w.heap.size v ys) ∧ Hid (ys ++ (K.drop j).filter (fun x => rightB x.1 x.2) = R) ∧ Hid (ys.length ≤ j) ∧ Below w.heap.size w wr
def R2Rel (K : List AI) (n0 : Nat) (w : World) (R : List AI) (v i : Value) (wr : World) : Prop :=
  ∃ (j : Nat) (ys : List AI), i = .int .i64 j ∧ j ≤ K.length ∧ Hid (AOwn wr w.heap.size v ys) ∧ Hid (ys ++ (K.drop j).filter (fun x => rightB x.1 x.2) = R) ∧ Hid (ys.length ≤ n0 + j) ∧ Below w.heap.size w wr

set_option maxRecDepth 30000 in
set_option maxHeartbeats 2000000 in
theorem rightOf_prog (keys : List ByteArray) (under : List AI) (kv uv : Value) (w : World) (hk : keys.length ≤ 100) (hu : under.length ≤ 100) (h1 : StrSl w kv keys) (h2 : ASl w uv under) :
    Calls Tryz.prog 34 #[kv, uv] w fun e w' => ROwn w e w' (rightL keys under) := by
  obtain ⟨ka, kc, rfl, hkn⟩ := h1
  have HKN := Lib.hid hkn
  have HU := Lib.hid h2
  obtain ⟨ua, uc, rfl, _, _⟩ := h2
  have hk0 : (0 : Int) ≤ (keys.length : Int) := by omega
  have hk1 : (keys.length : Int) ≤ 100 := by omega
  have hu0 : (0 : Int) ≤ (under.length : Int) := by omega
  have hu1 : (under.length : Int) ≤ 100 := by omega
  obtain ⟨K, hK⟩ : ∃ K, K = keys.map fun k => (k, (256 : Int)) := ⟨_, rfl⟩
  have hKl : K.length = keys.length := by rw [hK, List.length_map]
  have HK := Lib.hid hK
  have HKL := Lib.hid hKl
  obtain ⟨R1, hR1⟩ : ∃ R1, R1 = K.filter (fun x => rightB x.1 x.2) := ⟨_, rfl⟩
  have hR : Hid (rightL keys under = R1 ++ under.filter (fun x => rightB x.1 x.2)) := Lib.hid (by rw [rightL, List.filter_append, hR1, hK])
  have hR1' : Hid ([] ++ (K.drop 0).filter (fun x => rightB x.1 x.2) = R1) := Lib.hid (by rw [hR1]; rfl)
  rw [hR.out]
  clear hkn hK hKl hR hR1
  go_enter Tryz.func34, Tryz.ntmps34
  go_wp2_with fail
  go_loopw [5, 13] (R1Rel K w R1) (fun _ i _ => 100 - (intOf i).toNat)
  case atStart => exact ⟨0, [], rfl, by omega, Lib.hid (AOwn.nil _ _), hR1', Lib.hid (Nat.le_refl _), Below.refl _ _⟩
  case round =>
    obtain ⟨j, ys, rfl, hj, hown, hld, hys, hb⟩ := hrel
    have hj0 : (0 : Int) ≤ (j : Int) := by omega
    have hj1 : (j : Int) ≤ 100 := by have := HKL.out; omega
    have HB := Lib.hid hb
    have hsz := hb.size
    by_cases hlt : j < keys.length
    · have hltI : (j : Int) < (keys.length : Int) := by omega
      obtain ⟨q, hq⟩ : ∃ q, q = keys[j] := ⟨_, rfl⟩
      have hKj : K[j]? = some (q, 256) := by rw [HK.out, List.getElem?_map, List.getElem?_eq_getElem hlt, hq]; rfl
      have hd : K.drop j = (q, 256) :: K.drop (j + 1) := by
        obtain ⟨h3, h4⟩ := List.getElem?_eq_some_iff.1 hKj
        rw [List.drop_eq_getElem_cons h3, h4]
      obtain ⟨g, o, rfl, hg, hcs⟩ := HKN.out (by intro e; rw [e] at hlt; simp at hlt)
      have x0 : wr.cell? ⟨g, o + j, none⟩ = some (.string q) := cellB hb (hcs j q (by rw [hq]; exact List.getElem?_eq_getElem hlt))
      have hld2 : Hid (ys ++ (if rightB q 256 then (q, (256 : Int)) :: (K.drop (j + 1)).filter (fun x => rightB x.1 x.2) else (K.drop (j + 1)).filter (fun x => rightB x.1 x.2)) = R1) := Lib.hid (by
        have := hld.out; rw [hd, List.filter_cons] at this; exact this)
      obtain ⟨W1, hW1⟩ : ∃ W1, W1 = wr.alloc (.cells #[.string q, .int .i64 256] 46) := ⟨_, rfl⟩
      have hbW : Below wr.heap.size wr W1 := by rw [hW1]; exact (Below.refl _ _).alloc (Nat.le_refl _) _
      obtain ⟨z0, z1⟩ := ask_cells (w := W1) (b := wr.heap.size) (k := q) (n := 256) (by rw [hW1]; exact heap_alloc_new _ _)
      have t0 := z0
      have t1 := z1
      rw [hW1] at t0 t1
      have HB1 := Lib.hid (HB.out.trans (hbW.mono hsz))
      have HO1 : Hid (AOwn W1 w.heap.size _ ys) := Lib.hid (AOwn.later hown.out hbW)
      have hright := Lib.hid (right_prog q 256 W1)
      obtain ⟨rb, hrb⟩ : ∃ rb, rb = rightB q 256 := ⟨_, rfl⟩
      rw [← hrb] at hright hld2
      have HW1 := Lib.hid hW1
      have hys1 : ys.length + 1 ≤ 1000 := by have := hys.out; omega
      have hKl1 : Hid (j + 1 ≤ K.length) := Lib.hid (by have := HKL.out; omega)
      unfold askV at hright
      clear hq hKj hd hcs hb hld hW1 hbW hrb hown
      cases rb with
      | false =>
        go_wp2_with fail
        rw [← HW1.out]
        (with_reducible refine hright.out.mono ?_)
        rintro e w2 ⟨rfl, hb2⟩
        have HB2 := Lib.hid (HB1.out.trans (hb2.mono HB1.out.size))
        have HO2 := Lib.hid (AOwn.later HO1.out hb2)
        clear hb2 hright
        go_wp2_with fail
        go_roundw
        case rel => exact ⟨j + 1, ys, by go_num, hKl1.out, HO2, hld2, Lib.hid (by have := hys.out; omega), HB2.out⟩
        case measure => simp [intOf]; omega
      | true =>
        have hld3 : Hid ((ys ++ [(q, (256 : Int))]) ++ (K.drop (j + 1)).filter (fun x => rightB x.1 x.2) = R1) := Lib.hid (by have := hld2.out; rw [if_pos rfl] at this; rw [List.append_assoc]; exact this)
        go_wp2_with fail
        rw [← HW1.out]
        (with_reducible refine hright.out.mono ?_)
        rintro e w2 ⟨rfl, hb2⟩
        have HB2 := Lib.hid (HB1.out.trans (hb2.mono HB1.out.size))
        have HO2 := Lib.hid (AOwn.later HO1.out hb2)
        have v0 := cellB hb2 z0
        have v1 := cellB hb2 z1
        have hsz2 := HB2.out.size
        clear hb2 hright z0 z1 t0 t1 x0
        go_wp2_with (refine list_appA rfl _ _ rfl w.heap.size _ ys rfl (World.ownsRow.alloc HO2.out _) w2.heap.size 1 (q, (256 : Int)) rfl (heap_alloc_new w2 _) (by omega) (by simp; omega) ?_)
        intro v5 w5 hown5 hgr5
        have HB5 : Hid (Below w.heap.size w w5) := Lib.hid ((HB2.out.trans ((Below.refl _ w2).alloc hsz2 _)).trans (hgr5.below (by simp; omega) (AOwn.low HO2.out)))
        have HO5 := Lib.hid hown5
        clear hown5 hgr5
        go_wp2_with fail
        go_roundw
        case rel => exact ⟨j + 1, _, by go_num, hKl1.out, HO5, hld3, Lib.hid (by rw [List.length_append]; have := hys.out; simp; omega), HB5.out⟩
        case measure => simp [intOf]; omega
    · have hltI : ¬ (j : Int) < (keys.length : Int) := by omega
      have hfin : Hid (ys = R1) := Lib.hid (by
        have := hld.out
        rw [List.drop_of_length_le (by have := HKL.out; omega), List.filter_nil, List.append_nil] at this; exact this)
      have hysk : Hid (ys.length ≤ 100) := Lib.hid (by have := hys.out; omega)
      have hR2 : Hid (ys ++ (under.drop 0).filter (fun x => rightB x.1 x.2) = R1 ++ under.filter (fun x => rightB x.1 x.2)) := Lib.hid (by rw [hfin.out]; rfl)
      obtain ⟨R, hRR⟩ : ∃ R, R = R1 ++ under.filter (fun x => rightB x.1 x.2) := ⟨_, rfl⟩
      rw [← hRR] at hR2
      have HRR := Lib.hid hRR
      clear hb hld hlt hRR
      go_wp2_with fail
      go_loopw [5, 28] (R2Rel under 100 w R) (fun _ i _ => 100 - (intOf i).toNat)
      case atStart => exact ⟨0, ys, rfl, by omega, hown, hR2, hysk, HB.out⟩
      case round =>
        clear hys hfin hysk hR2 hown hltI hj0 hj1 HB hsz hj
        obtain ⟨i, zs, rfl, hi, hown, hld, hzs, hb⟩ := hrel
        have hi0 : (0 : Int) ≤ (i : Int) := by omega
        have hi1 : (i : Int) ≤ 100 := by omega
        have HB := Lib.hid hb
        have hsz := hb.size
        by_cases hlt : i < under.length
        · have hltI : (i : Int) < (under.length : Int) := by omega
          obtain ⟨q, hq⟩ : ∃ q, q = under[i] := ⟨_, rfl⟩
          have hd : under.drop i = q :: under.drop (i + 1) := by rw [hq]; exact List.drop_eq_getElem_cons hlt
          obtain ⟨a2, c2, he2, _, hne2⟩ := HU.out
          injection he2 with ee1 _ ee3
          subst ee1 ee3
          obtain ⟨g, o, rfl, hg, hcs⟩ := hne2 (by intro e; rw [e] at hlt; simp at hlt)
          obtain ⟨d0, d1⟩ := hcs i q (by rw [hq]; exact List.getElem?_eq_getElem hlt)
          obtain ⟨qk, qn⟩ := q
          have x0 : wr.cell? ⟨g, o + i * 2, none⟩ = some (.string qk) := cellB hb d0
          have x1 : wr.cell? ⟨g, o + i * 2 + 1, none⟩ = some (.int .i64 qn) := cellB hb d1
          have hld2 : Hid (zs ++ (if rightB qk qn then (qk, qn) :: (under.drop (i + 1)).filter (fun x => rightB x.1 x.2) else (under.drop (i + 1)).filter (fun x => rightB x.1 x.2)) = R) := Lib.hid (by
            have := hld.out; rw [hd, List.filter_cons] at this; exact this)
          obtain ⟨W1, hW1⟩ : ∃ W1, W1 = wr.alloc (.cells #[.string qk, .int .i64 qn] 46) := ⟨_, rfl⟩
          have hbW : Below wr.heap.size wr W1 := by rw [hW1]; exact (Below.refl _ _).alloc (Nat.le_refl _) _
          obtain ⟨z0, z1⟩ := ask_cells (w := W1) (b := wr.heap.size) (k := qk) (n := qn) (by rw [hW1]; exact heap_alloc_new _ _)
          have t0 := z0
          have t1 := z1
          rw [hW1] at t0 t1
          have HB1 := Lib.hid (HB.out.trans (hbW.mono hsz))
          have HO1 : Hid (AOwn W1 w.heap.size _ zs) := Lib.hid (AOwn.later hown.out hbW)
          have hright := Lib.hid (right_prog qk qn W1)
          obtain ⟨rb, hrb⟩ : ∃ rb, rb = rightB qk qn := ⟨_, rfl⟩
          rw [← hrb] at hright hld2
          have HW1 := Lib.hid hW1
          have hzs1 : zs.length + 1 ≤ 1000 := by have := hzs.out; omega
          unfold askV at hright
          clear hq hd d0 d1 hcs hb hld hW1 hbW hrb hown hne2
          cases rb with
          | false =>
            go_wp2_with fail
            rw [← HW1.out]
            (with_reducible refine hright.out.mono ?_)
            rintro e w2 ⟨rfl, hb2⟩
            have HB2 := Lib.hid (HB1.out.trans (hb2.mono HB1.out.size))
            have HO2 := Lib.hid (AOwn.later HO1.out hb2)
            clear hb2 hright
            go_wp2_with fail
            go_roundw
            case rel => exact ⟨i + 1, zs, by go_num, by omega, HO2, hld2, Lib.hid (by have := hzs.out; omega), HB2.out⟩
            case measure => simp [intOf]; omega
          | true =>
            have hld3 : Hid ((zs ++ [(qk, qn)]) ++ (under.drop (i + 1)).filter (fun x => rightB x.1 x.2) = R) := Lib.hid (by have := hld2.out; rw [if_pos rfl] at this; rw [List.append_assoc]; exact this)
            go_wp2_with fail
            rw [← HW1.out]
            (with_reducible refine hright.out.mono ?_)
            rintro e w2 ⟨rfl, hb2⟩
            have HB2 := Lib.hid (HB1.out.trans (hb2.mono HB1.out.size))
            have HO2 := Lib.hid (AOwn.later HO1.out hb2)
            have v0 := cellB hb2 z0
            have v1 := cellB hb2 z1
            have hsz2 := HB2.out.size
            clear hb2 hright z0 z1 t0 t1 x0 x1
            go_wp2_with (refine list_appA rfl _ _ rfl w.heap.size _ zs rfl (World.ownsRow.alloc HO2.out _) w2.heap.size 1 (qk, qn) rfl (heap_alloc_new w2 _) (by omega) (by simp; omega) ?_)
            intro v5 w5 hown5 hgr5
            have HB5 : Hid (Below w.heap.size w w5) := Lib.hid ((HB2.out.trans ((Below.refl _ w2).alloc hsz2 _)).trans (hgr5.below (by simp; omega) (AOwn.low HO2.out)))
            have HO5 := Lib.hid hown5
            clear hown5 hgr5
            go_wp2_with fail
            go_roundw
            case rel => exact ⟨i + 1, _, by go_num, by omega, HO5, hld3, Lib.hid (by rw [List.length_append]; have := hzs.out; simp; omega), HB5.out⟩
            case measure => simp [intOf]; omega
        · have hltI : ¬ (i : Int) < (under.length : Int) := by omega
          have hfin : Hid (zs = R) := Lib.hid (by
            have := hld.out
            rw [List.drop_of_length_le (by omega), List.filter_nil, List.append_nil] at this; exact this)
          clear hb hld
          go_wp2_with fail
          go_ret
          exact ⟨_, rfl, by rw [← HRR.out, ← hfin.out]; exact hown.out, HB.out⟩
end Go.Proofs.YtmpjpaomgifpcaaGreatDoor
