/- The law's keys. -/
import Derived.Test.YtmpjpaomgifpcaaGreatDoorPAsk
import Derived.Test.YtmpjpaomgifpcaaGreatDoorBClash
namespace Go.Proofs.YtmpjpaomgifpcaaGreatDoor
open Go.RowKit

/-- append of one prefix, at a step of a region that draws. -/
theorem step_appA {ops : Array Oper} {o : Oper} {a : Act} {w : World} {K : Act → World → Prop} {Q : Exit → Act → World → Prop} {E : Prop} (hgd : o.guard = none) (s x : Operand)
    (ho : o.op = .call { callee := .builtin .append, args := #[s, x], argTypes := #[24, 24] })
    (B : Nat) (v : Value) (l : List AI) (hs : a.eval s = v) (hown : AOwn w B v l)
    (g0 c : Nat) (p : AI) (hx : a.eval x = .slice (some ⟨g0, 0, none⟩) 1 c) (hblk : w.heap[g0]? = some (.cells #[.string p.1, .int .i64 p.2] 46 (0, 0)))
    (hl : l.length + 1 ≤ 100000) (hbase : B ≤ w.heap.size)
    (h : ∀ v' w', AOwn w' B v' (l ++ [p]) → Grew w v w' v' → K (a.put o.dst v') w') :
    if Region.wanted o (yielded ops a.tmps) = true then Oper.wp Tryz.prog o a w K Q else E := by
  refine step_appN Tryz.askSl hgd s x ho B v l.length (askC l) hs hown g0 1 c [.string p.1, .int .i64 p.2] hx hblk rfl (by simp [Value.oneCell']) (by omega) (by unfold maxLen; omega) (by omega) hbase ?_
  intro g cap w' h1 h2
  refine h _ w' ?_ h2
  unfold AOwn
  rw [List.length_append, askC_append]
  exact h1
theorem SOwn.strs {w : World} {B : Nat} {v : Value} {l : List ByteArray} (h : SOwn w B v l) : StrSl w v l := by
  obtain ⟨a, c, hv⟩ := SOwn.shape h
  refine ⟨a, c, hv, fun hne => ?_⟩
  obtain ⟨g, c', he, _, _, hg, hc⟩ := SOwn.at h hne
  rw [hv] at he
  injection he with e1 _ _
  exact ⟨g, 0, e1, hg, fun i x hx => by rw [Nat.zero_add]; exact hc i x hx⟩

theorem SOwn.caps {w : World} {B : Nat} {v : Value} {l : List ByteArray} (h : SOwn w B v l) : ∃ a c, v = .slice a l.length c ∧ l.length ≤ c := by
  rcases h.2 with ⟨h1, h2⟩ | ⟨g, cap, cur, hv, _, _, hn, _⟩
  · exact ⟨none, 0, by rw [h1, h2], by omega⟩
  · exact ⟨_, _, hv, hn⟩
def keyI (x : AI) : AI := (keyB x.1, x.2)
def shortK (l : List ByteArray) : Prop := ∀ x ∈ l, x.size ≤ 100
def shortI (l : List AI) : Prop := ∀ x ∈ l, x.1.size ≤ 100
/-- What keys() answers. -/
def KyRes (K : List ByteArray) (U : List AI) (w : World) (e : Ending) (w' : World) : Prop := ∃ kv uv b, e = .returned (.tuple #[kv, uv, .bool b]) ∧ Below w.heap.size w w' ∧
  (b = true → StrSl w' kv (K.map keyB) ∧ ASl w' uv (U.map keyI) ∧ K.length ≤ 8 ∧ U.length ≤ 4 ∧ shortK K ∧ shortI U ∧ ∃ a c, kv = .slice a K.length c ∧ K.length ≤ c)
def K1Rel (K : List ByteArray) (w : World) (v i : Value) (wr : World) : Prop := ∃ j : Nat, i = .int .i64 j ∧ j ≤ K.length ∧ Hid (SOwn wr w.heap.size v ((K.take j).map keyB)) ∧ Hid (shortK (K.take j)) ∧ Below w.heap.size w wr
def K2Rel (U : List AI) (w : World) (v i : Value) (wr : World) : Prop := ∃ j : Nat, i = .int .i64 j ∧ j ≤ U.length ∧ Hid (AOwn wr w.heap.size v ((U.take j).map keyI)) ∧ Hid (shortI (U.take j)) ∧ Below w.heap.size w wr
theorem takeK {α : Type} (l : List α) (j : Nat) (x : α) (h : l[j]? = some x) : l.take (j + 1) = l.take j ++ [x] := by
  obtain ⟨h1, h2⟩ := List.getElem?_eq_some_iff.1 h
  rw [List.take_succ_eq_append_getElem h1, h2]

set_option maxRecDepth 30000 in
set_option maxHeartbeats 4000000 in
theorem keys_prog (K : List ByteArray) (U : List AI) (kv uv : Value) (w : World) (hK : K.length ≤ maxLen) (hU : U.length ≤ maxLen) (hKs : ∀ x ∈ K, x.size ≤ maxLen) (hUs : ∀ x ∈ U, x.1.size ≤ maxLen) (h1 : StrSl w kv K) (h2 : ASl w uv U) :
    Calls Tryz.prog 6 #[.agg #[kv, uv]] w (KyRes K U w) := by
  unfold maxLen at hK hU hKs hUs
  have HK1 := Lib.hid h1
  have HU1 := Lib.hid h2
  have HKS := Lib.hid hKs
  have HUS := Lib.hid hUs
  obtain ⟨ka, kc, rfl, _⟩ := h1
  obtain ⟨ua, uc, rfl, _, _⟩ := h2
  have hk0 : (0 : Int) ≤ (K.length : Int) := by omega
  have hu0 : (0 : Int) ≤ (U.length : Int) := by omega
  obtain ⟨W, hW⟩ : ∃ W, W = w.alloc (.cells #[.slice ka K.length kc, .slice ua U.length uc] 26) := ⟨_, rfl⟩
  have hbW : Below w.heap.size w W := by rw [hW]; exact (Below.refl _ _).alloc (Nat.le_refl _) _
  obtain ⟨c0, c1⟩ := two_cells (w := W) (b := w.heap.size) (by rw [hW]; exact heap_alloc_new _ _)
  have z0 := c0
  have z1 := c1
  rw [hW] at z0 z1
  have HW := Lib.hid hW
  have HBW := Lib.hid hbW
  have hsW := hbW.size
  clear hKs hUs hbW hW
  by_cases hk8 : (8 : Int) < (K.length : Int)
  · have hd : decide ((8 : Int) < (K.length : Int)) = true := decide_eq_true hk8
    go_enter Tryz.func6, Tryz.ntmps6
    go_wp2
    go_ret3
    exact ⟨_, _, _, rfl, by rw [← HW.out]; exact HBW.out, fun h => by cases h⟩
  · by_cases hu4 : (4 : Int) < (U.length : Int)
    · have hd : decide ((8 : Int) < (K.length : Int)) = false := decide_eq_false hk8
      have hd2 : decide ((4 : Int) < (U.length : Int)) = true := decide_eq_true hu4
      go_enter Tryz.func6, Tryz.ntmps6
      go_wp2
      go_ret3
      exact ⟨_, _, _, rfl, by rw [← HW.out]; exact HBW.out, fun h => by cases h⟩
    · have hd : decide ((8 : Int) < (K.length : Int)) = false := decide_eq_false hk8
      have hd2 : decide ((4 : Int) < (U.length : Int)) = false := decide_eq_false hu4
      go_enter Tryz.func6, Tryz.ntmps6
      go_wp2_with fail
      rw [← HW.out]
      go_loopw [5, 24] (K1Rel K W) (fun _ i _ => 9 - (intOf i).toNat)
      case atStart => exact ⟨0, rfl, by omega, Lib.hid (SOwn.nil _ _), Lib.hid (by intro x hx; simp at hx), Below.refl _ _⟩
      case round =>
        obtain ⟨j, rfl, hj, hown, hsh, hb⟩ := hrel
        have hj0 : (0 : Int) ≤ (j : Int) := by omega
        have hj1 : (j : Int) ≤ 8 := by omega
        have HB := Lib.hid hb
        have hsz := hb.size
        by_cases hlt : j < K.length
        · have hltI : (j : Int) < (K.length : Int) := by omega
          obtain ⟨q, hq⟩ : ∃ q, q = K[j] := ⟨_, rfl⟩
          have hqj : K[j]? = some q := by rw [hq]; exact List.getElem?_eq_getElem hlt
          have hqs := HKS.out q (by rw [hq]; exact List.getElem_mem hlt)
          obtain ⟨a2, c2, he2, hne2⟩ := HK1.out
          injection he2 with ee1 _ ee3
          subst ee1 ee3
          obtain ⟨g, o, rfl, hg, hcs⟩ := hne2 (by intro e; rw [e] at hlt; simp at hlt)
          have x0 : wr.cell? ⟨g, o + j, none⟩ = some (.string q) := cellB (HBW.out.trans (hb.mono hsW)) (hcs j q hqj)
          have hts := takeK K j q hqj
          have HTS := Lib.hid hts
          clear hq hqj hcs hne2 hb hts
          by_cases hbig : (100 : Int) < (q.size : Int)
          · go_wp2_with fail
            go_ret3
            exact ⟨_, _, _, rfl, HBW.out.trans (HB.out.mono hsW), fun h => by cases h⟩
          · have hq100 : q.size ≤ 100 := by omega
            have hsh2 : Hid (shortK (K.take (j + 1))) := Lib.hid (by
              rw [HTS.out]
              intro x hx
              rcases List.mem_append.1 hx with h | h
              · exact hsh.out x h
              · obtain rfl : x = q := by simpa using h
                exact hq100)
            go_wp2_with fail
            refine (key_prog q wr (by omega)).mono ?_
            rintro e w2 ⟨rfl, hb2⟩
            have HB2 := Lib.hid (HB.out.trans (hb2.mono HB.out.size))
            have HO2 := Lib.hid (hown.out.later hb2)
            have hsz2 := HB2.out.size
            have hlen : ((K.take j).map keyB).length ≤ 8 := by simp; omega
            clear hb2 x0
            go_wp2_with (refine list_appS rfl _ _ rfl W.heap.size _ ((K.take j).map keyB) rfl (HO2.out.alloc _) _ W.heap.size [keyB q] rfl (one_own w2 _ hsz2 _) (by simp; omega) (by simp; omega) ?_)
            intro v5 w5 hown5 hgr5
            have HB5 : Hid (Below W.heap.size W w5) := Lib.hid ((HB2.out.trans ((Below.refl _ w2).alloc hsz2 _)).trans (hgr5.below (by simp; omega) (SOwn.low HO2.out)))
            have HO5 : Hid (SOwn w5 W.heap.size v5 ((K.take (j + 1)).map keyB)) := Lib.hid (by rw [HTS.out, List.map_append, List.map_take]; exact hown5)
            clear hown5 hgr5
            go_wp2_with fail
            go_roundw
            case rel => exact ⟨j + 1, by go_num, by omega, HO5, hsh2, HB5.out⟩
            case measure => simp [intOf]; omega
        · have hltI : ¬ (j : Int) < (K.length : Int) := by omega
          have hall : K.take j = K := List.take_of_length_le (by omega)
          have HKO : Hid (SOwn wr W.heap.size u5 (K.map keyB)) := Lib.hid (by have := hown.out; rw [hall] at this; exact this)
          have HKSH : Hid (shortK K) := Lib.hid (by have := hsh.out; rw [hall] at this; exact this)
          have y1 := cellB hb c1
          have HUR : Hid (ASl wr (.slice ua U.length uc) U) := Lib.hid (HU1.out.later (HBW.out.trans (hb.mono hsW)))
          obtain ⟨sa, sc, rfl, hcap⟩ := HKO.out.caps
          rw [List.length_map] at HKO hcap
          have HCAP := Lib.hid hcap
          clear hcap
          have HBO := Lib.hid (HBW.out.trans (hb.mono hsW))
          clear hall hown hsh hb hlt c1 c0 z0 z1 HB hsz hj
          obtain ⟨wo, hwo⟩ : ∃ x, x = wr := ⟨_, rfl⟩
          subst hwo
          go_wp2_with fail
          clear hltI hj0 hj1
          go_loopw [6, 40] (K2Rel U wo) (fun _ i _ => 5 - (intOf i).toNat)
          case atStart => exact ⟨0, rfl, by omega, Lib.hid (AOwn.nil _ _), Lib.hid (by intro x hx; simp at hx), Below.refl _ _⟩
          case round =>
            obtain ⟨i, rfl, hi, hown, hsh, hb⟩ := hrel
            have hi0 : (0 : Int) ≤ (i : Int) := by omega
            have hi1 : (i : Int) ≤ 4 := by omega
            have HB := Lib.hid hb
            have hsz := hb.size
            by_cases hlt : i < U.length
            · have hltI : (i : Int) < (U.length : Int) := by omega
              obtain ⟨q, hq⟩ : ∃ q, q = U[i] := ⟨_, rfl⟩
              have hqj : U[i]? = some q := by rw [hq]; exact List.getElem?_eq_getElem hlt
              have hqs := HUS.out q (by rw [hq]; exact List.getElem_mem hlt)
              obtain ⟨a2, c2, he2, _, hne2⟩ := HUR.out
              injection he2 with ee1 _ ee3
              subst ee1 ee3
              obtain ⟨g, o, rfl, hg, hcs⟩ := hne2 (by intro e; rw [e] at hlt; simp at hlt)
              obtain ⟨d0, d1⟩ := hcs i q hqj
              have hts := takeK U i q hqj
              have HTS := Lib.hid hts
              obtain ⟨qk, qn⟩ := q
              have x0 : wr.cell? ⟨g, o + i * 2, none⟩ = some (.string qk) := cellB hb d0
              have x1 : wr.cell? ⟨g, o + i * 2 + 1, none⟩ = some (.int .i64 qn) := cellB hb d1
              obtain ⟨W1, hW1⟩ : ∃ W1, W1 = wr.alloc (.cells #[.string qk, .int .i64 qn] 46) := ⟨_, rfl⟩
              have hb1 : Below wr.heap.size wr W1 := by rw [hW1]; exact (Below.refl _ _).alloc (Nat.le_refl _) _
              obtain ⟨q0, q1⟩ := ask_cells (w := W1) (b := wr.heap.size) (k := qk) (n := qn) (by rw [hW1]; exact heap_alloc_new _ _)
              have t0 := q0
              have t1 := q1
              rw [hW1] at t0 t1
              have HB1 := Lib.hid (HB.out.trans (hb1.mono hsz))
              have HO1 : Hid (AOwn W1 wo.heap.size _ ((U.take i).map keyI)) := Lib.hid (AOwn.later hown.out hb1)
              have HNE : Hid (∀ k, u6.ownBlock = some k → k < wr.heap.size) := Lib.hid (fun k hk => (World.ownsRow.lt hown.out k hk).2)
              have hqs' : qk.size ≤ 9223372036854775807 := hqs
              have HW1 := Lib.hid hW1
              have hs1 : wr.heap.size < W1.heap.size := by rw [hW1]; simp
              clear hq hqj hcs hne2 hb hts d0 d1 hown hb1 hW1
              by_cases hbig : (100 : Int) < (qk.size : Int)
              · go_wp2_with fail
                go_ret3
                exact ⟨_, _, _, rfl, HBO.out.trans ((by rw [← HW1.out]; exact HB1.out : Below wo.heap.size wo _).mono HBO.out.size), fun h => by cases h⟩
              · have hq100 : qk.size ≤ 100 := by omega
                have hsh2 : Hid (shortI (U.take (i + 1))) := Lib.hid (by
                  rw [HTS.out]
                  intro x hx
                  rcases List.mem_append.1 hx with h | h
                  · exact hsh.out x h
                  · obtain rfl : x = (qk, qn) := by simpa using h
                    exact hq100)
                have hlen : ((U.take i).map keyI).length + 1 ≤ 100000 := by simp; omega
                have HO1D : Hid (AOwn W1.drew wo.heap.size _ ((U.take i).map keyI)) := Lib.hid (AOwn.later HO1.out (Below.refl _ W1).drew)
                have HB1D : Hid (Below wo.heap.size wo W1.drew) := Lib.hid (HB1.out.trans ((Below.refl _ W1).drew.mono HB1.out.size))
                have HKY := Lib.hid (fun W => key_prog qk W (by omega))
                have HN6 : Hid (u6.ownBlock ≠ some wr.heap.size) := Lib.hid (fun e => by have := HNE.out _ e; omega)
                go_wp2_with fail
                rw [← HW1.out]
                go_region_held3 (fun X => X.cell? ⟨wr.heap.size, 0, none⟩ = some (.string qk) ∧ X.cell? ⟨wr.heap.size, 1, none⟩ = some (.int .i64 qn))
                  (first | exact ⟨q0, q1⟩ | exact hcs7 | exact hcs4 | exact ⟨cellA _ hcs4.1, cellA _ hcs4.2⟩)
                  (first
                    | (go_at_call 27; (with_reducible refine (HKY.out _).mono ?_); rintro e w4 ⟨rfl, hb4⟩; have hcs4 := And.intro (cellD hb4 q0) (cellD hb4 q1); have HO4 := Lib.hid (AOwn.later HO1D.out hb4); have HB4 := Lib.hid (HB1D.out.trans (hb4.mono HB1D.out.size)); have HBA4 := Lib.hid ((Below.refl _ w4).alloc (Nat.le_refl _) (.cells #[.string (keyB qk), .int .i64 qn] 46)); have hsz4 := Nat.le_trans HB4.out.size HBA4.out.size)
                    | (refine step_appA rfl _ _ rfl wo.heap.size u6 ((U.take i).map keyI) rfl (AOwn.later HO4.out HBA4.out) w4.heap.size 1 (keyB qk, qn) rfl (heap_alloc_new w4 _) hlen hsz4 ?_; intro v7 w7 hown7 hgr7; have hcs7 := And.intro (Grew.cell hgr7 (cellA _ hcs4.1) HN6.out) (Grew.cell hgr7 (cellA _ hcs4.2) HN6.out)))
                have HB7 : Hid (Below wo.heap.size wo w7) := Lib.hid ((HB4.out.trans (HBA4.out.mono HB4.out.size)).trans (hgr7.below hsz4 (AOwn.low HO4.out)))
                have HO7 : Hid (AOwn w7 wo.heap.size v7 ((U.take (i + 1)).map keyI)) := Lib.hid (by rw [HTS.out, List.map_append]; exact hown7)
                clear hown7 hgr7
                go_wp2_with fail
                go_roundw
                case rel => exact ⟨i + 1, by go_num, by omega, HO7, hsh2, HB7.out⟩
                case measure => simp [intOf]; omega
            · have hltI : ¬ (i : Int) < (U.length : Int) := by omega
              have hall : U.take i = U := List.take_of_length_le (by omega)
              have HUO : Hid (AOwn wr wo.heap.size u6 (U.map keyI)) := Lib.hid (by have := hown.out; rw [hall] at this; exact this)
              have HUSH : Hid (shortI U) := Lib.hid (by have := hsh.out; rw [hall] at this; exact this)
              clear hall hown hsh hb hlt
              go_wp2_with fail
              go_ret3
              exact ⟨_, _, _, rfl, HBO.out.trans (HB.out.mono HBO.out.size), fun _ => ⟨(SOwn.strs HKO.out).later HB.out, AOwn.sl HUO.out, by omega, by omega, HKSH.out, HUSH.out, _, _, rfl, HCAP.out⟩⟩
end Go.Proofs.YtmpjpaomgifpcaaGreatDoor
