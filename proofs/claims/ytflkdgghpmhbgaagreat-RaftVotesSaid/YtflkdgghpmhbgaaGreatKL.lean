/- raft: awake: the call. -/
import Derived.Test.YtflkdgghpmhbgaaGreatKK
import Derived.Test.YtflkdgghpmhbgaaGreatKG
namespace Go.Proofs.YtflkdgghpmhbgaaGreat
open Go.RowKit

theorem madeP (n : Nat) : (madeCells (Value.agg #[.bool false, .int .u64 0, .int .u64 0]).cells (n * 3)).toList = prC (List.replicate n ⟨false, 0, 0⟩) := by
  rw [← zeroP n]
  rfl
section
variable {w : World}
theorem list_makeP {ops : Array Oper} {rest : List Oper} {o : Oper} {a : Act} {Q : Exit → Act → World → Prop} (hgd : o.guard = none) (l c : Operand)
    (ho : o.op = .makeSlice 125 l c) (n : Nat) (hl : a.eval l = .int .i64 (n : Int)) (hc : a.eval c = .int .i64 (n : Int)) (hn : n ≤ 9)
    (h : ∀ w', w'.heap[w.heap.size]? = some (.cells (prC (List.replicate n ⟨false, 0, 0⟩)).toArray 188 (0, 0)) → Below w.heap.size w w' → wpList Tryz.prog ops Q rest (a.put o.dst (.slice (some ⟨w.heap.size, 0, none⟩) n n)) w') :
    wpList Tryz.prog ops Q (o :: rest) a w := by
  obtain ⟨i, hi, hz, hsz, hby⟩ := info_parts Tryz.prSl.info
  refine wpList_make_full w hgd l c 125 ho w.heap.size 188 i _ 3 Tryz.prSl.und hi hz hsz .i64 .i64 (n : Int) (n : Int) n hl hc rfl rfl (by rw [hby]; omega) (by unfold maxLen; omega) (Nat.le_refl _) ?_
  intro w' h2 h3
  refine h w' ?_ ((Below.refl _ w).grown h3 (Nat.le_refl _) (by intro k hk; cases hk))
  rcases h2.2 with ⟨hv, _⟩ | ⟨g, cap, cur, hv, hB, hg, h4, h5, h6, h7⟩
  · cases hv
  · cases hv
    have h8 : cur.toList = (madeCells (Value.agg #[.bool false, .int .u64 0, .int .u64 0]).cells (n * 3)).toList := by
      rw [← h7, List.take_of_length_le (by simp [h6])]
    rw [madeP] at h8
    rw [hg, ← h8, Array.toArray_toList]
end
/-- A node that starts. -/
def RN.start (id n : Nat) (s : LgS) : RN := ⟨id, s, 0, -1, s.c.base, 0, List.replicate n ⟨false, 0, 0⟩⟩
section
variable {w : World} {lb db : Nat} {v dv : Value} {s : LgS}
set_option maxRecDepth 100000 in
theorem lwdown_q (h : LW w lb db v dv s) (hk : s.Knows) : Calls Tryz.prog 60 #[.pointer (some ⟨lb, 0, none⟩)] w fun e w' => e = .returned (.bool s.dn) ∧ w' = w := by
  obtain ⟨m6, m7, m8⟩ := h.log.more
  have z7 := CtAt.free h.log 7
  have K := Lib.hid (down_prog h.disk)
  have HS := Lib.hid (setCell_id m7)
  unfold LgS.Knows at hk
  obtain ⟨a, ha⟩ : ∃ a, s.dn = a := ⟨_, rfl⟩
  obtain ⟨b, hb⟩ : ∃ b, s.d.dn = b := ⟨_, rfl⟩
  rw [ha] at m7 HS hk ⊢
  rw [hb] at K hk
  clear h m8 ha hb
  cases a
  · cases b
    · clear hk
      go_enter Tryz.func60, Tryz.ntmps60
      go_wp2_with fail
      refine K.out.mono ?_
      rintro e w1 ⟨rfl, rfl⟩
      go_wp2_with fail
      go_ret
      exact ⟨rfl, HS.out⟩
    · simp at hk
  · clear hk
    go_enter Tryz.func60, Tryz.ntmps60
    go_wp2_with fail
    go_ret
    exact ⟨rfl, HS.out⟩
set_option maxHeartbeats 2000000 in
set_option maxRecDepth 100000 in
theorem start_prog (h : LW w lb db v dv s) (hk : s.Knows) (hdn : s.dn = false) (id n : Nat) (hid : id < n) (hn : n ≤ 9) :
    Calls Tryz.prog 15 #[.int .i64 (id : Int), .int .i64 (n : Int), .pointer (some ⟨lb, 0, none⟩)] w fun e w' => ∃ xb nb, e = .returned (.tuple #[.pointer (some ⟨xb, 0, none⟩), .int .i64 0]) ∧ XW w' ⟨xb, lb, db, nb, v, dv⟩ (RN.start id n s) ∧ Below w.heap.size w w' ∧ w.heap.size ≤ xb ∧ w.heap.size ≤ nb := by
  have KD := Lib.hid (lwdown_q h hk)
  rw [hdn] at KD
  have KB := Lib.hid (gbase_prog h.log)
  have H := Lib.hid h
  have b1 : ¬ (n : Int) < 1 := by omega
  have b2 : ¬ (9 : Int) < (n : Int) := by omega
  have b3 : ¬ (id : Int) < 0 := by omega
  have b4 : ¬ (n : Int) ≤ (id : Int) := by omega
  have b1' : decide ((n : Int) < 1) = false := decide_eq_false b1
  have b2' : decide ((9 : Int) < (n : Int)) = false := decide_eq_false b2
  have b3' : decide ((id : Int) < 0) = false := decide_eq_false b3
  have b4' : decide (n ≤ id) = false := decide_eq_false (by omega)
  have hn9 := Lib.hid hn
  have hnI : (n : Int) ≤ 9 := by omega
  have hn0 : (0 : Int) ≤ (n : Int) := by omega
  clear h hk hdn hn hid b1 b2 b3 b4
  go_enter Tryz.func15, Tryz.ntmps15
  go_wp2_with fail
  refine KD.out.mono ?_
  rintro e w1 ⟨rfl, rfl⟩
  go_wp2_with fail
  refine KB.out.mono ?_
  rintro e w2 ⟨rfl, q2, rfl⟩
  go_wp2_with (at_make; refine list_makeP rfl _ _ rfl n rfl rfl hn9.out ?_)
  intro w3 hp3 hb3
  have HP3 := Lib.hid hp3
  have HB3 := Lib.hid hb3
  clear hp3 hb3
  go_wp2_with fail
  go_ret2
  have hb03 : Below w1.heap.size w1 w3 := ((Same.of w1 q2).below _).trans HB3.out
  refine ⟨w3.heap.size, w1.heap.size, rfl, ⟨?_, ?_, ?_⟩, hb03.alloc hb03.size _, hb03.size, Nat.le_refl _⟩
  · have := heap_alloc_new w3 (.cells #[.int .i64 (id : Int), .pointer (some ⟨lb, 0, none⟩), .int .i64 0, .int .i64 (-1), .int .u64 (s.c.base : Int), .int .i64 0, .slice (some ⟨w1.heap.size, 0, none⟩) n n] 127)
    rw [this]
    unfold nodeC RN.start
    simp
  · exact (Lib.alloc_old _ _ _ (block_lt HP3.out)).trans HP3.out
  · exact H.out.later (hb03.alloc hb03.size _)
end

/-- A command. -/
def RN.propose (x : RN) (cmd : ByteArray) : RN × Nat × Nat × List Mg :=
  if x.role = 2 then (if (x.addS cmd).2 = 0 then ((x.add cmd).count, (x.add cmd).count.s.c.lastN, (x.add cmd).count.s.c.term, (x.add cmd).count.feedAll) else (x.add cmd, 0, 0, [])) else (x, 0, 0, [])
section
variable {w : World} {p : Pl} {x : RN} {M K : Nat}
set_option maxHeartbeats 4000000 in
set_option maxRecDepth 100000 in
theorem propose_prog (h : XW w p x) (hi : x.In M K) (hM : M ≤ 80000000) (hK : K ≤ 10000000000000000) (cmd : ByteArray) (hc : cmd.size ≤ 1000000) :
    Calls Tryz.prog 24 #[.pointer (some ⟨p.xb, 0, none⟩), .string cmd] w fun e w' => (∃ v, e = .returned (.tuple #[.int .u64 ((x.propose cmd).2.1 : Int), .int .u64 ((x.propose cmd).2.2.1 : Int), v]) ∧ MOwn w' w.heap.size v (x.propose cmd).2.2.2) ∧ XO p w (x.propose cmd).1 w' := by
  have EW : Hid (x.propose cmd = if x.role = 2 then (if (x.addS cmd).2 = 0 then ((x.add cmd).count, (x.add cmd).count.s.c.lastN, (x.add cmd).count.s.c.term, (x.add cmd).count.feedAll) else (x.add cmd, 0, 0, [])) else (x, 0, 0, [])) := Lib.hid rfl
  have KR := Lib.hid (role_prog h)
  have KA := Lib.hid (add_prog h (hi.fit (by omega) (by omega)) cmd hc)
  have hia := hi.add cmd hc (by omega) (by omega)
  have KC := Lib.hid (fun W p' (hW : XW W p' (x.add cmd)) => count_prog hW (hia.fit (by omega) (by omega)))
  have hic := hia.count
  have HIC := Lib.hid (hic.fit (by omega) (by omega))
  have H := Lib.hid h
  obtain ⟨r, hr⟩ : ∃ r, (x.addS cmd).2 = r := ⟨_, rfl⟩
  obtain ⟨xa, hxa⟩ : ∃ xa, x.add cmd = xa := ⟨_, rfl⟩
  rw [hxa] at EW KA KC HIC
  rw [hr] at EW KA
  obtain ⟨xc, hxc⟩ : ∃ xc, xa.count = xc := ⟨_, rfl⟩
  rw [hxc] at EW KC HIC
  clear h hi hM hK hc hia hic hr hxa hxc
  by_cases hro : x.role = 2
  · have hrI : (x.role != 2) = false := by simp [hro]
    rw [if_pos hro] at EW
    clear hro
    by_cases hr0 : r = 0
    · rw [if_pos hr0] at EW
      subst hr0
      go_enter Tryz.func24, Tryz.ntmps24
      go_wp2_with fail
      refine KR.out.mono ?_
      rintro e w1 ⟨rfl, rfl⟩
      go_wp2_with fail
      refine KA.out.mono ?_
      rintro e w2 ⟨rfl, ho2⟩
      obtain ⟨v2, dv2, hx2, hc2⟩ := XO.get ho2
      obtain ⟨p2, hp2⟩ : ∃ p2 : Pl, { p with v := v2, dv := dv2 } = p2 := ⟨_, rfl⟩
      have HX : Hid (p2.xb = p.xb ∧ p2.lb = p.lb) := Lib.hid (by rw [← hp2]; exact ⟨rfl, rfl⟩)
      rw [hp2] at hx2 hc2
      have K2 := Lib.hid (KC.out _ _ hx2)
      rw [HX.out.1] at K2
      have HC2 := Lib.hid hc2
      clear hp2 hx2 hc2 ho2 KA KC KR
      go_wp2_with fail
      refine K2.out.mono ?_
      rintro e w3 ⟨rfl, hx3, hc3⟩
      obtain ⟨c0, c1, _, _, _, _, _⟩ := hx3.cells
      rw [HX.out.1, HX.out.2] at c1
      have KL := Lib.hid (fun q => xlast_prog (hx3.drewN q) HIC.out)
      have KT := Lib.hid (fun q => xterm_prog (hx3.drewN q))
      have KF := Lib.hid (fun q => feedAll_prog (hx3.drewN q) HIC.out)
      rw [HX.out.2] at KL KT
      rw [HX.out.1] at KF
      have HX3 := Lib.hid hx3
      have HC3 := Lib.hid (HC2.out.trans hc3)
      clear hx3 hc3 K2 c0
      obtain ⟨L, hL⟩ : ∃ L, xc.s.c.lastN = L := ⟨_, rfl⟩
      obtain ⟨T, hT⟩ : ∃ T, xc.s.c.term = T := ⟨_, rfl⟩
      rw [hL] at KL EW
      rw [hT] at KT EW
      clear hL hT
      go_wp2_with fail
      go_region_held3 (fun X => X.cell? ⟨p.xb, 1, none⟩ = some (.pointer (some ⟨p.lb, 0, none⟩)))
        (first | exact c1 | exact hcs)
        (first
          | (go_at_call 31; refine (KL.out 1).mono ?_; rintro e w4 ⟨rfl, q4, rfl⟩)
          | (go_at_call 28; refine (KT.out (1 + q4)).mono ?_; rintro e w5 ⟨rfl, rfl⟩)
          | (go_at_call 70; refine (KF.out (1 + q4)).mono ?_; rintro e w6 ⟨⟨v6, rfl, hv6⟩, hb6⟩; have hcs := cellB (w := World.drewN _ _) hb6 c1))
      have HV6 := Lib.hid (hv6.base (B' := w1.heap.size) HC3.out.size)
      have HX6 := Lib.hid ((HX3.out.drewN (1 + q4)).later hb6)
      have HC6 := Lib.hid ((HC3.out.trans (XCh.ofBelow p2 ((Same.of w3 (1 + q4)).below _))).trans (XCh.ofBelow p2 hb6))
      clear hv6 hb6 hcs c1
      go_wp2_with fail
      go_ret3
      rw [EW.out]
      exact ⟨⟨_, rfl, HV6.out⟩, XO.of HX6.out HC6.out⟩
    · rw [if_neg hr0] at EW
      have hrI2 : (r != 0) = true := by simp [hr0]
      clear hr0 KC HIC
      go_enter Tryz.func24, Tryz.ntmps24
      go_wp2_with fail
      refine KR.out.mono ?_
      rintro e w1 ⟨rfl, rfl⟩
      go_wp2_with fail
      refine KA.out.mono ?_
      rintro e w2 ⟨rfl, ho2⟩
      have HO2 := Lib.hid ho2
      clear ho2 KA KR
      go_wp2_with fail
      go_ret3
      rw [EW.out]
      exact ⟨⟨_, rfl, MOwn.nil _ _⟩, HO2.out⟩
  · have hrI : (x.role != 2) = true := by simp [hro]
    rw [if_neg hro] at EW
    clear hro KA KC HIC
    go_enter Tryz.func24, Tryz.ntmps24
    go_wp2_with fail
    refine KR.out.mono ?_
    rintro e w1 ⟨rfl, rfl⟩
    go_wp2_with fail
    go_ret3
    rw [EW.out]
    exact ⟨⟨_, rfl, MOwn.nil _ _⟩, XO.of H.out (XCh.refl p _)⟩
end
end Go.Proofs.YtflkdgghpmhbgaaGreat
namespace Go.Proofs.YtflkdgghpmhbgaaGreat
open Go.RowKit

/-- A block that is none of a node's. -/
structure Pl.Off (p : Pl) (g : Nat) : Prop where
  xb : g ≠ p.xb
  nb : g ≠ p.nb
  lb : g ≠ p.lb
  db : g ≠ p.db
  v : p.v.ownBlock ≠ some g
  dv : p.dv.ownBlock ≠ some g
theorem XCh.off {w w' : World} {p p' : Pl} {g : Nat} (h : XCh p w w' p') (ho : p.Off g) (hg : g < w.heap.size) : p'.Off g ∧ w'.heap[g]? = w.heap[g]? := by
  refine ⟨⟨by rw [h.xb]; exact ho.xb, by rw [h.nb]; exact ho.nb, by rw [h.lb]; exact ho.lb, by rw [h.db]; exact ho.db, fun e => ?_, fun e => ?_⟩, h.block g hg ho.xb ho.nb ho.lb ho.db ho.v ho.dv⟩
  · rcases h.vloc g e with h1 | h1
    · exact ho.v h1
    · omega
  · rcases h.dloc g e with h1 | h1
    · exact ho.dv h1
    · omega
theorem Pl.Low.off {p : Pl} {B g : Nat} (h : p.Low B) (hg : B ≤ g) : p.Off g :=
  ⟨by have := h.xb; omega, by have := h.nb; omega, by have := h.lb; omega, by have := h.db; omega, fun e => by have := h.v g e; omega, fun e => by have := h.dv g e; omega⟩
/-- The disk and the log that were made just now. -/
def disk0 : DS := ⟨⟨#[]⟩, 0, false, false, 0⟩
def log0 : LgS := ⟨fresh, 0, false, disk0⟩
theorem log0_free : log0.Free := ⟨rfl, rfl, rfl⟩
theorem log0_sure : log0.Sure := ⟨rfl, readC_nil, .inl rfl⟩
theorem results_r08 {f : Func} {k : Nat} {tmps : Array Value} {w : World} {H : Nat} {cs : Array Value} (hf : f.results = #[.cell k 44]) (h2 : tmps.getD k undef = .pointer (some ⟨H, 0, none⟩))
    (hg : w.heap[H]? = some (.cells cs 44 (0, 0))) (hs : cs.size = 6) : (results f tmps).run Tryz.prog w = .ok (.agg cs) w := by
  have hi : (Tryz.prog.info? 44).map (·.size) = some cs.size := by rw [hs]; kernel_rfl
  have h3 : tmps[k]?.getD undef = .pointer (some ⟨H, 0, none⟩) := by simpa using h2
  simp only [results, hf]
  simp [h3, asAddr, run_loadVar_row w H 44 44 cs (0, 0) _ hg Tryz.underlying44 rfl hi]
theorem results_r09 {f : Func} {k : Nat} {tmps : Array Value} {w : World} {H : Nat} {cs : Array Value} (hf : f.results = #[.cell k 48]) (h2 : tmps.getD k undef = .pointer (some ⟨H, 0, none⟩))
    (hg : w.heap[H]? = some (.cells cs 48 (0, 0))) (hs : cs.size = 15) : (results f tmps).run Tryz.prog w = .ok (.agg cs) w := by
  have hi : (Tryz.prog.info? 48).map (·.size) = some cs.size := by rw [hs]; kernel_rfl
  have h3 : tmps[k]?.getD undef = .pointer (some ⟨H, 0, none⟩) := by simpa using h2
  simp only [results, hf]
  simp [h3, asAddr, run_loadVar_row w H 48 48 cs (0, 0) _ hg Tryz.underlying48 rfl hi]
/-- The cells of the document's node. -/
def qnL (id n : Int) (c : CT) (v : Value) (role leader commit pat : Value) (vs nx mt : Value) : List Value :=
  [.int .i64 id, .int .i64 n, .int .u64 (c.term : Int), .int .i64 c.vote, .int .u64 (c.base : Int), .int .u64 (c.bterm : Int), .string c.state, v, role, leader, commit, pat, vs, nx, mt]
section
variable {w : World}
set_option maxRecDepth 100000 in
theorem new08_prog (w : World) : Calls Tryz.prog 61 #[] w fun e w' => e = .returned (.agg (ctC fresh (.slice none 0 0))) ∧ Below w.heap.size w w' := by
  go_enter Tryz.func61, Tryz.ntmps61
  go_wp2_with fail
  exact bodyPost_ret (results_r08 rfl rfl (heap_alloc_new w _) rfl) rfl ⟨rfl, (Below.refl _ _).alloc (Nat.le_refl _) _⟩
set_option maxRecDepth 100000 in
theorem start09_prog (id n : Nat) (c : CT) (v : Value) (w : World) (hv : ∃ a m k, v = .slice a m k) : Calls Tryz.prog 19 #[.int .i64 (id : Int), .int .i64 (n : Int), .agg (ctC c v)] w fun e w' => e = .returned (.agg (qnL id n c v (.int .i64 0) (.int .i64 (-1)) (.int .u64 (c.base : Int)) (.int .i64 0) (.slice none 0 0) (.slice none 0 0) (.slice none 0 0)).toArray) ∧ Below w.heap.size w w' := by
  obtain ⟨a, m, k, rfl⟩ := hv
  unfold ctC qnL
  go_enter Tryz.func19, Tryz.ntmps19
  go_wp2_with fail
  exact bodyPost_ret (results_r09 rfl rfl (alloc2 w _ _) rfl) rfl ⟨rfl, ((Below.refl _ _).alloc (Nat.le_refl _) _).alloc (by simp) _⟩
set_option maxHeartbeats 2000000 in
set_option maxRecDepth 100000 in
theorem lstart_prog (id n : Nat) (hid : id < n) (hn : n ≤ 9) (w : World) : Calls Tryz.prog 17 #[.int .i64 (id : Int), .int .i64 (n : Int)] w fun e w' =>
    ∃ g p, e = .returned (.tuple #[.pointer (some ⟨g, 0, none⟩), .bool true]) ∧ XW w' p (RN.start id n log0) ∧ Below w.heap.size w w' ∧ p.Off g ∧ w.heap.size ≤ g ∧
      w'.heap[g]? = some (.cells (([.pointer (some ⟨p.db, 0, none⟩), .pointer (some ⟨p.xb, 0, none⟩)] : List Value) ++ qnL id n fresh (.slice none 0 0) (.int .i64 0) (.int .i64 (-1)) (.int .u64 0) (.int .i64 0) (.slice none 0 0) (.slice none 0 0) (.slice none 0 0)).toArray 50 (0, 0)) ∧
      (∀ k, k = p.xb ∨ k = p.nb ∨ k = p.lb ∨ k = p.db ∨ p.v.ownBlock = some k ∨ p.dv.ownBlock = some k → w.heap.size ≤ k) := by
  have KN := Lib.hid (new_prog w)
  have KO := Lib.hid (fun W db (hd : DkS W db (.slice none 0 0) disk0) => hopen_prog hd (by show (0 : Nat) ≤ _; omega) (by show (0 : Nat) ≤ _; omega) (by show (0 : Nat) ≤ _; omega))
  have eo : openO disk0 = (some fresh, 0, disk0) := rfl
  rw [eo] at KO
  dsimp only at KO
  clear eo
  go_enter Tryz.func17, Tryz.ntmps17
  go_wp2_with fail
  refine KN.out.mono ?_
  rintro e w1 ⟨rfl, hd1, hb1⟩
  have K1 := Lib.hid (KO.out w1 w.heap.size hd1)
  have HB1 := Lib.hid hb1
  have HS1 := Lib.hid (show w.heap.size < w1.heap.size from Dk.lt hd1)
  clear hb1 hd1 KO KN
  go_wp2_with fail
  refine K1.out.mono ?_
  rintro e w2 ⟨⟨lb, v, rfl, hlb, hl2, hv2⟩, hd2, hc2⟩
  have HW2 : Hid (LW w2 lb w.heap.size v (.slice none 0 0) log0) := Lib.hid ⟨hl2, hd2⟩
  have hb2 : Below w.heap.size w w2 := HB1.out.trans (hc2.below (Nat.le_refl _) (fun j hj => by simp [Value.ownBlock] at hj) HB1.out.size)
  have HB2 := Lib.hid hb2
  have HV2 := Lib.hid hv2
  have HLB := Lib.hid hlb
  have K2 := Lib.hid (start_prog HW2.out (fun h => by cases h) rfl id n hid hn)
  clear hl2 hd2 hc2 hb2 hv2 hlb K1 hid hn
  go_wp2_with fail
  refine K2.out.mono ?_
  rintro e w3 ⟨xb, nb, rfl, hx3, hb3, hxb, hnb⟩
  have HX3 := Lib.hid hx3
  have HB3 := Lib.hid (HB2.out.trans (hb3.mono HB2.out.size))
  have HXN := Lib.hid (And.intro hxb hnb)
  have K3 := Lib.hid (new08_prog w3)
  clear hx3 hb3 hxb hnb K2
  go_wp2_with fail
  refine K3.out.mono ?_
  rintro e w4 ⟨rfl, hb4⟩
  have HX4 := Lib.hid (HX3.out.later hb4)
  have HB4 := Lib.hid (HB3.out.trans (hb4.mono HB3.out.size))
  have K4 := Lib.hid (start09_prog id n fresh (.slice none 0 0) w4 ⟨none, 0, 0, rfl⟩)
  unfold qnL at K4
  clear hb4 K3
  go_wp2_with fail
  refine K4.out.mono ?_
  rintro e w5 ⟨rfl, hb5⟩
  have HX5 := Lib.hid (HX4.out.later hb5)
  have HB5 := Lib.hid (HB4.out.trans (hb5.mono HB4.out.size))
  clear hb5 K4
  go_wp2_with fail
  go_ret2
  have hb6 := HB5.out.alloc HB5.out.size (.cells #[.pointer (some ⟨w.heap.size, 0, none⟩), .pointer (some ⟨xb, 0, none⟩), .int .i64 (id : Int), .int .i64 (n : Int), .int .u64 (fresh.term : Int), .int .i64 fresh.vote, .int .u64 (fresh.base : Int), .int .u64 (fresh.bterm : Int), .string fresh.state, .slice none 0 0, .int .i64 0, .int .i64 (-1), .int .u64 (fresh.base : Int), .int .i64 0, .slice none 0 0, .slice none 0 0, .slice none 0 0] 50)
  refine ⟨w5.heap.size, _, rfl, HX5.out.later ((Below.refl _ _).alloc (Nat.le_refl _) _), hb6, HX5.out.low.off (Nat.le_refl _), HB5.out.size, heap_alloc_new w5 _, fun k hk => ?_⟩
  have h2s := HB2.out.size
  rcases hk with rfl | rfl | rfl | rfl | e | e
  · exact Nat.le_trans h2s HXN.out.1
  · exact Nat.le_trans h2s HXN.out.2
  · exact Nat.le_trans HB1.out.size HLB.out
  · exact Nat.le_refl _
  · exact Nat.le_trans HB1.out.size (HV2.out k e)
  · simp [Value.ownBlock] at e
end
end Go.Proofs.YtflkdgghpmhbgaaGreat
namespace Go.Proofs.YtflkdgghpmhbgaaGreat
open Go.RowKit

section
variable {x : RN} {M K : Nat}
theorem RN.In.win (h : x.In M K) (hM : M ≤ 90000000) (hK : K ≤ 100000000000000000) : x.win.1.In (M + 49) (K + 1) := by
  have hz0 : (⟨#[]⟩ : ByteArray).size = 0 := rfl
  have h1 := h.led.add ⟨#[]⟩ (by omega) (by omega) (by omega)
  rw [hz0] at h1
  unfold RN.win
  split
  · exact h1
  · exact h1.count
theorem RN.In.stand (h : x.In M K) (hM : M ≤ 80000000) (hK : K ≤ 10000000000000000) : x.stand.1.In (M + 90) (K + 2) := by
  have hid := h.id
  have hn := h.n
  have ht := h.term
  have h1 := (h.mono (Nat.le_refl M) (Nat.le_succ K)).setTerm (x.s.c.term + 1) (x.id : Int) 0 0 0 (by omega) (by omega) (by omega) (by omega)
  have h2 := (h.mono (Nat.le_refl M) (Nat.le_succ K)).setTerm (x.s.c.term + 1) (x.id : Int) x.role x.leader x.pat (by omega) (by omega) (by omega) h.pat
  unfold RN.stand
  split
  · split
    · exact (h1.cand.win (by omega) (by omega)).mono (by omega) (by omega)
    · exact h1.cand.mono (by omega) (by omega)
  · exact h2.mono (by omega) (by omega)
theorem RN.In.tick (h : x.In M K) (hp : x.pat ≤ 900000000) (hM : M ≤ 80000000) (hK : K ≤ 10000000000000000) : x.tick.1.In (M + 90) (K + 2) := by
  unfold RN.tick
  split
  · exact h.down.mono (by omega) (by omega)
  · split
    · split
      · exact h.beat.mono (by omega) (by omega)
      · exact (h.wait hp).mono (by omega) (by omega)
    · split
      · exact (h.wait hp).stand hM hK
      · exact (h.wait hp).mono (by omega) (by omega)
theorem RN.In.propose (h : x.In M K) (cmd : ByteArray) (hc : cmd.size ≤ 1000000) (hM : M ≤ 80000000) (hK : K ≤ 10000000000000000) : (x.propose cmd).1.In (M + cmd.size + 49) (K + 1) := by
  unfold RN.propose
  split
  · split
    · exact (h.add cmd hc (by omega) (by omega)).count
    · exact h.add cmd hc (by omega) (by omega)
  · exact h.mono (by omega) (by omega)
theorem LgS.Free.knows {s : LgS} (h : s.Free) : s.Knows := fun e => by rw [h.disk] at e; cases e
theorem RN.wait_eq (h : x.s.Free) : x.wait = { x with pat := x.pat + 1 } := by unfold RN.wait; rw [RN.down_id h.knows]
theorem RN.beat_eq (h : x.s.Free) : x.beat = { x with pat := 0 } := by unfold RN.beat; rw [RN.down_id h.knows]
theorem tick_wait (h : x.s.Free) (hr : x.role ≠ 2) (hl : x.pat + 1 < x.limit) : x.tick = ({ x with pat := x.pat + 1 }, []) := by
  unfold RN.tick
  rw [if_neg (by rw [h.notdn]; simp), if_neg hr, if_neg (by omega), x.wait_eq h]
theorem tick_stand (h : x.s.Free) (hr : x.role ≠ 2) (hl : x.limit ≤ x.pat + 1) : x.tick = RN.stand { x with pat := x.pat + 1 } := by
  unfold RN.tick
  rw [if_neg (by rw [h.notdn]; simp), if_neg hr, if_pos hl, x.wait_eq h]
theorem tick_lead (h : x.s.Free) (hr : x.role = 2) : ∃ pt, pt ≤ x.pat + 1 ∧ pt ≤ 2 ∧ x.tick.1 = { x with pat := pt } := by
  unfold RN.tick
  rw [if_neg (by rw [h.notdn]; simp), if_pos hr]
  split
  · exact ⟨0, by omega, by omega, x.beat_eq h⟩
  · exact ⟨x.pat + 1, by omega, by omega, x.wait_eq h⟩
/-- It stands: its log is so. -/
theorem stand_free (h : x.s.Free) (hs : x.s.Sure) (hc : x.s.c.Ok) (hw : (bodyL x.s.c).length < m64) (ht : x.s.c.term + 1 < m64) (hid : x.id < 100) :
    ∃ s', LgS.Done x.s (s', 0) { x.s.c with term := x.s.c.term + 1, vote := (x.id : Int) } ∧ x.stand = (if (x.cand s').elected = true then (x.cand s').win else (x.cand s', (x.cand s').askAll)) := by
  have hd := hs.doneT h hc hw ht (x := (x.id : Int)) (by omega) (by simp [CT.votes]; try omega)
  obtain ⟨⟨s', r⟩, hr⟩ : ∃ S, x.s.setTerm (x.s.c.term + 1) (x.id : Int) = S := ⟨_, rfl⟩
  rw [hr] at hd
  obtain rfl : r = 0 := hd.ans
  refine ⟨s', hd, ?_⟩
  unfold RN.stand
  rw [hr, if_pos rfl]
theorem takes_last {c : CT} (h : c.base + c.ents.length < 1000000000000000000) : c.takes c.lastN 1 = true := by
  have hl : c.lastN = c.base + c.ents.length := lastN_of (by unfold m64; omega)
  unfold CT.takes
  rw [hl]
  simp
  omega
/-- An entry more: its log is so. -/
theorem add_free (h : x.s.Free) (hs : x.s.Sure) (hc : x.s.c.Ok) (hw : (bodyL x.s.c).length < m64) (hl : x.s.c.base + x.s.c.ents.length < 1000000000000000000) (cmd : ByteArray) (hcs : cmd.size ≤ 1000000) :
    LgS.Done x.s (x.addS cmd) (x.s.c.addE x.s.c.lastN [(x.s.c.term, cmd)]) := by
  refine hs.doneA h hc hw (Nat.mod_lt _ (by unfold m64; omega)) (fun y hy => ?_) (by rw [ent_one_len]; omega) (takes_last hl)
  obtain rfl : y = (x.s.c.term, cmd) := by simpa using hy
  exact ⟨hc.term, by unfold m64; simp only; omega⟩
end
end Go.Proofs.YtflkdgghpmhbgaaGreat
namespace Go.Proofs.YtflkdgghpmhbgaaGreat
open Go.RowKit

theorem ordered_one (a : Nat) : ordered [a] = [a] := List.perm_singleton.1 (ordered_perm [a])
def awkC1 : CT := { fresh with term := 1, vote := 0 }
def awkC2 : CT := { awkC1 with ents := [(1, ⟨#[]⟩)] }
def awkC3 : CT := { awkC1 with ents := [(1, ⟨#[]⟩), (1, ⟨#[97]⟩)] }
theorem fresh_ok : fresh.Ok := ⟨by decide, by decide, by decide, by decide, by decide, by decide, fun x hx => by cases hx⟩
theorem awkC1_ok : awkC1.Ok := ⟨by decide, by decide, by decide, by decide, by decide, by decide, fun x hx => by cases hx⟩
theorem awkC2_ok : awkC2.Ok := ⟨by decide, by decide, by decide, by decide, by decide, by decide, fun x hx => by
  obtain rfl : x = (1, ⟨#[]⟩) := by simpa [awkC2] using hx
  exact ⟨by decide, by decide⟩⟩
/-- The one node that leads. -/
def awk (s : LgS) (commit pat : Nat) : RN := ⟨0, s, 2, 0, commit, pat, [⟨false, 0, 0⟩]⟩
/-- The one node at its tenth tick. -/
theorem awk_stand : ∃ s, (s.Free ∧ s.Sure ∧ s.c = awkC2) ∧ (RN.stand { RN.start 0 1 log0 with pat := 10 }).1 = awk s 1 0 := by
  obtain ⟨s1, d1, e1⟩ := stand_free (x := { RN.start 0 1 log0 with pat := 10 }) log0_free log0_sure fresh_ok (by decide) (by decide) (by decide)
  have hc1 : s1.c = awkC1 := d1.c
  obtain ⟨xc, hxc⟩ : ∃ xc, RN.cand { RN.start 0 1 log0 with pat := 10 } s1 = xc := ⟨_, rfl⟩
  rw [hxc] at e1
  have hx : xc = ⟨0, s1, 1, -1, 0, 0, [⟨true, 0, 0⟩]⟩ := by rw [← hxc]; rfl
  have hel : xc.elected = true := by rw [hx]; simp [RN.elected, RN.maj, RN.votesN]
  rw [if_pos hel] at e1
  have d2 := add_free (x := xc.led) (by rw [hx]; exact d1.free) (by rw [hx]; exact d1.sure) (by rw [hx]; show s1.c.Ok; rw [hc1]; exact awkC1_ok) (by rw [hx]; show (bodyL s1.c).length < _; rw [hc1]; decide) (by rw [hx]; show s1.c.base + s1.c.ents.length < _; rw [hc1]; decide) ⟨#[]⟩ (by decide)
  obtain ⟨⟨s2, r⟩, hr⟩ : ∃ S, xc.led.addS ⟨#[]⟩ = S := ⟨_, rfl⟩
  rw [hr] at d2
  obtain rfl : r = 0 := d2.ans
  have hc2 : s2.c = awkC2 := by
    have := d2.c
    rw [hx] at this
    have e : s2.c = s1.c.addE s1.c.lastN [(s1.c.term, ⟨#[]⟩)] := this
    rw [e, hc1]; rfl
  refine ⟨s2, ⟨d2.free, d2.sure, hc2⟩, ?_⟩
  rw [e1]
  unfold RN.win
  rw [hr, if_neg (show ¬ (0 : Int) = 3 by decide)]
  have ha : xc.led.add ⟨#[]⟩ = ⟨0, s2, 2, 0, 0, 0, [⟨false, 0, 0⟩]⟩ := by
    unfold RN.add
    rw [hr, hx]
    show (⟨0, s2, 2, 0, 0, 0, [⟨false, s1.c.lastN, 0⟩]⟩ : RN) = _
    rw [hc1]; rfl
  rw [ha]
  have hag : RN.agreed ⟨0, s2, 2, 0, 0, 0, [⟨false, 0, 0⟩]⟩ = 1 := by
    unfold RN.agreed RN.reach
    show (ordered [s2.c.lastN]).getD (1 - (1 / 2 + 1)) 0 = 1
    rw [ordered_one, hc2]; rfl
  unfold RN.count
  rw [hag]
  show (if (s2.c.termAt 1).isSome && decide (0 < 1) && decide ((s2.c.termAt 1).getD 0 = s2.c.term) then _ else _) = _
  rw [hc2]
  rfl
theorem awk_propose {s : LgS} {pat : Nat} (h : s.Free ∧ s.Sure ∧ s.c = awkC2) : ∃ s', s'.c = awkC3 ∧ (awk s 1 pat).propose ⟨#[97]⟩ = (awk s' 2 pat, 2, 1, []) := by
  obtain ⟨hf, hs, hc⟩ := h
  have d2 := add_free (x := awk s 1 pat) hf hs (by show s.c.Ok; rw [hc]; exact awkC2_ok) (by show (bodyL s.c).length < _; rw [hc]; decide) (by show s.c.base + s.c.ents.length < _; rw [hc]; decide) ⟨#[97]⟩ (by decide)
  obtain ⟨⟨s2, r⟩, hr⟩ : ∃ S, (awk s 1 pat).addS ⟨#[97]⟩ = S := ⟨_, rfl⟩
  rw [hr] at d2
  obtain rfl : r = 0 := d2.ans
  have hc2 : s2.c = awkC3 := by
    have e : s2.c = s.c.addE s.c.lastN [(s.c.term, ⟨#[97]⟩)] := d2.c
    rw [e, hc]; rfl
  refine ⟨s2, hc2, ?_⟩
  unfold RN.propose
  rw [if_pos (show (awk s 1 pat).role = 2 from rfl), hr, if_pos (show (0 : Int) = 0 from rfl)]
  have ha : (awk s 1 pat).add ⟨#[97]⟩ = awk s2 1 pat := by unfold RN.add; rw [hr]; rfl
  rw [ha]
  have hag : (awk s2 1 pat).agreed = 2 := by
    unfold RN.agreed RN.reach
    show (ordered [s2.c.lastN]).getD (1 - (1 / 2 + 1)) 0 = 2
    rw [ordered_one, hc2]; rfl
  have hco : (awk s2 1 pat).count = awk s2 2 pat := by
    unfold RN.count
    rw [hag]
    show (if (s2.c.termAt 2).isSome && decide (1 < 2) && decide ((s2.c.termAt 2).getD 0 = s2.c.term) then _ else _) = _
    rw [hc2]
    rfl
  rw [hco]
  show (awk s2 2 pat, s2.c.lastN, s2.c.term, _) = _
  rw [hc2]
  rfl
theorem awk_in {s : LgS} {k pat : Nat} (hs : s.Sm 10000) (hc : s.c = awkC2) (hk : k ≤ 1) (hp : pat ≤ 2) : (awk s k pat).In 10000 100 :=
  ⟨hs, by show 0 < 1; decide, by show 1 ≤ 9; decide, by show s.c.term ≤ 100; rw [hc]; decide, by show s.c.base + s.c.ents.length ≤ 100; rw [hc]; decide, by show k ≤ 100; omega, by show pat ≤ _; omega, fun q hq => by
    obtain rfl : q = ⟨false, 0, 0⟩ := by simpa [awk] using hq
    exact ⟨by decide, by decide⟩⟩
theorem start_in {n : Nat} (h0 : 0 < n) (hn : n ≤ 9) (pat : Nat) (hp : pat ≤ 100) : RN.In { RN.start 0 n log0 with pat := pat } 200 1 := by
  refine ⟨⟨by show 0 ≤ _; omega, fresh_ok, by show (wholeB fresh).size ≤ 200; decide, by show 0 ≤ _; omega, by show 0 ≤ _; omega⟩, ?_, ?_, by show 0 ≤ _; omega, by show 0 ≤ _; omega, by show 0 ≤ _; omega, ?_, fun q hq => ?_⟩
  · show 0 < (List.replicate n _).length; rw [List.length_replicate]; exact h0
  · show (List.replicate n _).length ≤ 9; rw [List.length_replicate]; exact hn
  · show pat ≤ _; omega
  · obtain ⟨_, rfl⟩ := List.mem_replicate.1 hq
    exact ⟨by decide, by decide⟩
end Go.Proofs.YtflkdgghpmhbgaaGreat
namespace Go.Proofs.YtflkdgghpmhbgaaGreat
open Go.RowKit

/-- All blocks of a node lie from B on. -/
structure Pl.Up (p : Pl) (B : Nat) : Prop where
  xb : B ≤ p.xb
  nb : B ≤ p.nb
  lb : B ≤ p.lb
  db : B ≤ p.db
  v : ∀ k, p.v.ownBlock = some k → B ≤ k
  dv : ∀ k, p.dv.ownBlock = some k → B ≤ k
theorem XCh.up {w w' : World} {p p' : Pl} {B : Nat} (h : XCh p w w' p') (hu : p.Up B) (hw : B ≤ w.heap.size) : p'.Up B ∧ Below B w w' := by
  refine ⟨⟨by rw [h.xb]; exact hu.xb, by rw [h.nb]; exact hu.nb, by rw [h.lb]; exact hu.lb, by rw [h.db]; exact hu.db, fun k hk => ?_, fun k hk => ?_⟩, h.os, h.tape, h.output, h.size, fun k hk => ?_⟩
  · rcases h.vloc k hk with e | e
    · exact hu.v k e
    · omega
  · rcases h.dloc k hk with e | e
    · exact hu.dv k e
    · omega
  · exact h.block k (by omega) (by have := hu.xb; omega) (by have := hu.nb; omega) (by have := hu.lb; omega) (by have := hu.db; omega) (fun e => by have := hu.v k e; omega) (fun e => by have := hu.dv k e; omega)
/-- The one node behind k ticks. -/
def AwkAt (x : RN) (k : Nat) : Prop := (k < 10 ∧ x = { RN.start 0 1 log0 with pat := k }) ∨ (10 ≤ k ∧ ∃ s pt, pt ≤ 2 ∧ x = awk s 1 pt ∧ (s.Free ∧ s.Sure ∧ s.c = awkC2) ∧ s.Sm 10000)
theorem AwkAt.tick {x : RN} {k : Nat} (h : AwkAt x k) : AwkAt x.tick.1 (k + 1) := by
  rcases h with ⟨hk, rfl⟩ | ⟨hk, s, pt, hpt, rfl, hs, hm⟩
  · have hl : RN.limit { RN.start 0 1 log0 with pat := k } = 10 := rfl
    by_cases h10 : k + 1 < 10
    · refine .inl ⟨h10, ?_⟩
      rw [tick_wait log0_free (by show ¬ (0 : Int) = 2; decide) (by rw [hl]; exact h10)]
    · obtain rfl : k = 9 := by omega
      refine .inr ⟨by omega, ?_⟩
      rw [tick_stand log0_free (by show ¬ (0 : Int) = 2; decide) (by rw [hl]; exact Nat.le_refl 10)]
      obtain ⟨s, hs, e⟩ := awk_stand
      have hin := (start_in (n := 1) (by omega) (by omega) 10 (by omega)).stand (by omega) (by omega)
      have e2 : (RN.stand { { RN.start 0 1 log0 with pat := 9 } with pat := { RN.start 0 1 log0 with pat := 9 }.pat + 1 }).1 = awk s 1 0 := e
      rw [e] at hin
      exact ⟨s, 0, by omega, e2, hs, hin.s.mono (by omega)⟩
  · refine .inr ⟨by omega, ?_⟩
    obtain ⟨pt2, _, h2, e⟩ := tick_lead (x := awk s 1 pt) hs.1 rfl
    exact ⟨s, pt2, h2, by rw [e]; rfl, hs, hm⟩
theorem AwkAt.in {x : RN} {k : Nat} (h : AwkAt x k) : x.In 10000 100 ∧ x.pat ≤ 900000000 := by
  rcases h with ⟨hk, rfl⟩ | ⟨hk, s, pt, hpt, rfl, hs, hm⟩
  · exact ⟨(start_in (n := 1) (by omega) (by omega) k (by omega)).mono (by omega) (by omega), by show k ≤ _; omega⟩
  · exact ⟨awk_in hm hs.2.2 (by omega) hpt, by show pt ≤ _; omega⟩
theorem AwkAt.end_ {x : RN} (h : AwkAt x 30) : ∃ s', s'.c = awkC3 ∧ ∃ pt, x.propose ⟨#[97]⟩ = (awk s' 2 pt, 2, 1, []) := by
  rcases h with ⟨hk, _⟩ | ⟨hk, s, pt, hpt, rfl, hs, hm⟩
  · omega
  · obtain ⟨s', h1, h2⟩ := awk_propose (pat := pt) hs
    exact ⟨s', h1, pt, h2⟩
set_option maxHeartbeats 4000000 in
set_option maxRecDepth 100000 in
theorem awake_prog (w : World) : Calls Tryz.prog 12 #[] w fun e w' => e = .returned (.bool true) ∧ Below w.heap.size w w' := by
  have KN := Lib.hid (new_prog w)
  have KO := Lib.hid (fun W db (hd : DkS W db (.slice none 0 0) disk0) => hopen_prog hd (by show (0 : Nat) ≤ _; omega) (by show (0 : Nat) ≤ _; omega) (by show (0 : Nat) ≤ _; omega))
  have eo : openO disk0 = (some fresh, 0, disk0) := rfl
  rw [eo] at KO
  dsimp only at KO
  clear eo
  go_enter Tryz.func12, Tryz.ntmps12
  go_wp2_with fail
  refine KN.out.mono ?_
  rintro e w1 ⟨rfl, hd1, hb1⟩
  have K1 := Lib.hid (KO.out w1 w.heap.size hd1)
  have HB1 := Lib.hid hb1
  clear hb1 hd1 KO KN
  go_wp2_with fail
  refine K1.out.mono ?_
  rintro e w2 ⟨⟨lb, v, rfl, hlb, hl2, hv2⟩, hd2, hc2⟩
  have HW2 : Hid (LW w2 lb w.heap.size v (.slice none 0 0) log0) := Lib.hid ⟨hl2, hd2⟩
  have hb2 : Below w.heap.size w w2 := HB1.out.trans (hc2.below (Nat.le_refl _) (fun j hj => by simp [Value.ownBlock] at hj) HB1.out.size)
  have HB2 := Lib.hid hb2
  have HV2 := Lib.hid hv2
  have HLB := Lib.hid hlb
  have K2 := Lib.hid (start_prog HW2.out (fun h => by cases h) rfl 0 1 (by omega) (by omega))
  clear hl2 hd2 hc2 hb2 hv2 hlb K1
  go_wp2_with fail
  refine K2.out.mono ?_
  rintro e w3 ⟨xb, nb, rfl, hx3, hb3, hxb, hnb⟩
  have HX3 := Lib.hid hx3
  have HB3 := Lib.hid (HB2.out.trans (hb3.mono HB2.out.size))
  have HU3 : Hid (Pl.Up ⟨xb, lb, w.heap.size, nb, v, .slice none 0 0⟩ w.heap.size) := Lib.hid ⟨Nat.le_trans HB2.out.size hxb, Nat.le_trans HB2.out.size hnb, Nat.le_trans HB1.out.size HLB.out, Nat.le_refl _, fun k hk => Nat.le_trans HB1.out.size (HV2.out k hk), fun k hk => by simp [Value.ownBlock] at hk⟩
  clear hx3 hb3 hxb hnb K2
  go_wp2_with fail
  go_loopw [18] (fun i wr => ∃ (k : Nat) (p : Pl) (x : RN), k ≤ 30 ∧ i = .int .i64 (k : Int) ∧ Hid (XW wr p x ∧ p.xb = xb ∧ p.Up w.heap.size ∧ AwkAt x k ∧ Below w.heap.size w wr)) (fun i _ => 30 - (intOf i).toNat)
  case atStart => exact ⟨0, _, _, by omega, rfl, Lib.hid ⟨HX3.out, rfl, HU3.out, .inl ⟨by omega, rfl⟩, HB3.out⟩⟩
  case round =>
    obtain ⟨k, p, x, hk, rfl, HR⟩ := hrel
    by_cases hlt : k < 30
    · have hkI : (k : Int) < 30 := by omega
      have hk0 : (0 : Int) ≤ (k : Int) := by omega
      have hin := HR.out.2.2.2.1.in
      have KT := Lib.hid (tick_prog HR.out.1 hin.1 hin.2 (by omega) (by omega))
      rw [HR.out.2.1] at KT
      clear hin
      go_wp2_with fail
      refine KT.out.mono ?_
      rintro e w4 ⟨⟨u, rfl, _⟩, p4, hx4, hc4⟩
      obtain ⟨hu4, hb4⟩ := hc4.up HR.out.2.2.1 HR.out.2.2.2.2.size
      have HR4 : Hid (XW w4 p4 x.tick.1 ∧ p4.xb = xb ∧ p4.Up w.heap.size ∧ AwkAt x.tick.1 (k + 1) ∧ Below w.heap.size w w4) := Lib.hid ⟨hx4, hc4.xb.trans HR.out.2.1, hu4, HR.out.2.2.2.1.tick, HR.out.2.2.2.2.trans hb4⟩
      clear hx4 hc4 hu4 hb4 KT
      go_wp2_with fail
      go_roundw
      case rel => exact ⟨k + 1, p4, _, by omega, by go_num, HR4⟩
      case measure => simp [intOf]; omega
    · have hke : k = 30 := by omega
      subst hke
      have hkI : ¬ ((30 : Nat) : Int) < 30 := by omega
      have hin := HR.out.2.2.2.1.in
      have KP := Lib.hid (propose_prog HR.out.1 hin.1 (by omega) (by omega) ⟨#[97]⟩ (by decide))
      obtain ⟨s', hs', pt, hpr⟩ := HR.out.2.2.2.1.end_
      rw [hpr, HR.out.2.1] at KP
      dsimp only at KP
      have HS := Lib.hid hs'
      clear hin hpr hs'
      go_wp2_with fail
      refine KP.out.mono ?_
      rintro e w4 ⟨⟨u, rfl, _⟩, p4, hx4, hc4⟩
      obtain ⟨hu4, hb4⟩ := hc4.up HR.out.2.2.1 HR.out.2.2.2.2.size
      have hxb4 : p4.xb = xb := hc4.xb.trans HR.out.2.1
      have KR := Lib.hid (role_prog hx4)
      have KE := Lib.hid (leader_prog hx4)
      have KC := Lib.hid (commit_prog hx4)
      have KG := Lib.hid (log_prog hx4)
      have hlen : (awk s' 2 pt).s.c.ents.length ≤ 10000000000 := by show s'.c.ents.length ≤ _; rw [HS.out]; decide
      have KL := Lib.hid (glast_prog hx4.lw.log hlen)
      have el : (awk s' 2 pt).s.c.lastN = 2 := by show s'.c.lastN = 2; rw [HS.out]; rfl
      rw [el] at KL
      rw [hxb4] at KR KE KC KG
      have e1 : (awk s' 2 pt).role = 2 := rfl
      have e2 : (awk s' 2 pt).leader = 0 := rfl
      have e3 : (awk s' 2 pt).commit = 2 := rfl
      rw [e1] at KR
      rw [e2] at KE
      rw [e3] at KC
      have HB4 := Lib.hid (HR.out.2.2.2.2.trans hb4)
      clear hx4 hc4 hu4 hb4 hxb4 hlen el e1 e2 e3 KP
      go_wp2_with fail
      refine KR.out.mono ?_
      rintro e w5 ⟨rfl, rfl⟩
      go_wp2_with fail
      refine KE.out.mono ?_
      rintro e w6 ⟨rfl, rfl⟩
      go_wp2_with fail
      refine KC.out.mono ?_
      rintro e w7 ⟨rfl, rfl⟩
      go_wp2_with fail
      refine KG.out.mono ?_
      rintro e w8 ⟨rfl, rfl⟩
      go_wp2_with fail
      refine KL.out.mono ?_
      rintro e w9 ⟨rfl, q9, rfl⟩
      go_wp2_with fail
      go_ret
      exact ⟨by rfl, HB4.out.trans ((Same.of _ q9).below _)⟩
end Go.Proofs.YtflkdgghpmhbgaaGreat
