/- What the reference says is hashed for what is open. -/
import Derived.Test.YtmpjpaomgifpcaaGreatDoorPRefO
import Derived.Deep.AppendLies
namespace Go.Proofs.YtmpjpaomgifpcaaGreatDoor
open Go.RowKit

def PT.txs (t : PT) : List ByteArray := t.texts.map bs
theorem own_one (w : World) (B : Nat) (hB : B ≤ w.heap.size) (x : ByteArray) : SOwn (w.alloc (.cells #[.string x] 9)) B (.slice (some ⟨w.heap.size, 0, none⟩) 1 1) [x] :=
  World.ownsRow_lit w #[.string x] 1 hB (by decide) (by simp)
theorem SOwn.grew {w w' : World} {B : Nat} {v u u' : Value} {l : List ByteArray} (h : SOwn w B v l) (hg : Grew w u w' u') (hne : ∀ k, v.ownBlock = some k → u.ownBlock ≠ some k) : SOwn w' B v l :=
  ownN_mv h (fun k hk => hg.block (World.ownsRow.lt h k hk).2 (hne k hk))
theorem SOwn.lt {w : World} {B : Nat} {v : Value} {l : List ByteArray} (h : SOwn w B v l) : ∀ k, v.ownBlock = some k → k < w.heap.size := fun k hk => (World.ownsRow.lt h k hk).2
theorem SOwn.news {w : World} {B : Nat} {v : Value} {l : List ByteArray} (h : SOwn w B v l) : ∃ ad c, v = .slice ad l.length c ∧ (0 < l.length → ∃ g o, ad = some ⟨g, o, none⟩ ∧ ∀ j u, (l.map Value.string)[j]? = some u → w.cell? ⟨g, o + j, none⟩ = some u) := by
  by_cases hl : l = []
  · subst hl
    rcases h.2 with ⟨h1, _⟩ | ⟨g, cap, cur, he, _⟩
    · exact ⟨none, 0, h1, fun h => absurd h (by decide)⟩
    · exact ⟨_, cap, he, fun h => absurd h (by decide)⟩
  · obtain ⟨g, c, he, _, _, _, hc⟩ := SOwn.at h hl
    refine ⟨_, c, he, fun _ => ⟨g, 0, rfl, fun j u hu => ?_⟩⟩
    rw [List.getElem?_map] at hu
    cases hj : l[j]? with
    | none => rw [hj] at hu; cases hu
    | some s =>
      rw [hj] at hu
      obtain rfl : Value.string s = u := by simpa using hu
      rw [Nat.zero_add]; exact hc j s hj
/-- append of owned texts. -/
theorem step_appS {ops : Array Oper} {o : Oper} {a : Act} {w : World} {K : Act → World → Prop} {Q : Exit → Act → World → Prop} {E : Prop} (hgd : o.guard = none) (s x : Operand)
    (ho : o.op = .call { callee := .builtin .append, args := #[s, x], argTypes := #[23, 23] })
    (B B' : Nat) (va vb : Value) (la lb : List ByteArray) (hs : a.eval s = va) (hown : SOwn w B va la) (hx : a.eval x = vb) (hnew : SOwn w B' vb lb)
    (hl : la.length + lb.length ≤ 100000) (hbase : B ≤ w.heap.size)
    (h : ∀ v' w', SOwn w' B v' (la ++ lb) → Grew w va w' v' → K (a.put o.dst v') w') :
    if Region.wanted o (yielded ops a.tmps) = true then Oper.wp Tryz.prog o a w K Q else E := by
  obtain ⟨ad, c, rfl, hn⟩ := hnew.news
  have h' : ∀ v' w', w'.ownsRow B 9 1 v' (la.length + lb.length) (la.map Value.string ++ lb.map Value.string) → Grew w va w' v' → K (a.put o.dst v') w' := fun v' w' h1 h2 => h v' w' (by
    unfold SOwn; rw [List.length_append, List.map_append]; exact h1) h2
  obtain ⟨i, hi, hz, hsz, hby⟩ := info_parts Tryz.strSl.info
  by_cases hm : 0 < lb.length
  · obtain ⟨g0, o0, rfl, hc⟩ := hn hm
    refine step_append_lies w hgd s x _ ho B _ i _ _ _ Tryz.strSl.und hi hz hsz hby Tryz.strSl.zc Tryz.strSl.pos va la.length (la.map Value.string) hs hown ⟨g0, o0, none⟩ lb.length c (lb.map Value.string) hx (by simp)
      (fun j u hu => by
        have := hc j u hu
        unfold Addr.add
        split
        · rename_i h0; subst h0; simpa using this
        · exact this) (strs_one lb) hm (by unfold maxLen; omega) (by omega) hbase _ rfl ?_
    intro g cap w' h2 h3 h4 _
    refine h' _ w' h2 ⟨h3, fun k hk => ?_⟩
    have : g = k := by simpa [Value.ownBlock] using hk
    subst this
    rcases h4 with h4 | h4
    · exact .inl h4
    · exact .inr (by omega)
  · have h0 : lb.length = 0 := by omega
    obtain rfl : lb = [] := List.eq_nil_of_length_eq_zero h0
    have hrun := run_append_empty (P := Tryz.prog) (w := w) B 23 o.type 9 i 1 Tryz.strSl.und hi va la.length (la.map Value.string) hown ad c
    have hw : Region.wanted o (yielded ops a.tmps) = true := by simp [Region.wanted, hgd]
    rw [if_pos hw]
    unfold Oper.wp
    rw [h0] at hx
    simp only [execOp, ho, resolve, invoke, builtin, Sem.run_bind, Sem.run_pure, Result.andThen_ok, List.map_toArray, List.map_cons, List.map_nil, hs, hx, hrun]
    exact h' va w (by simp only [List.length_nil, Nat.add_zero, List.map_nil, List.append_nil]; exact hown) (Grew.refl w va)

set_option maxRecDepth 30000 in
theorem rtexts_stub (h : ByteArray) (w : World) : Calls Tryz.prog 24 #[tv 0 ⟨#[]⟩ ⟨#[]⟩ 0 (.slice none 0 0) h] w (TxRes w []) := by
  have HB := Lib.hid ((Below.refl _ w).alloc (Nat.le_refl _) (.cells #[.int .i64 0, .string ⟨#[]⟩, .string ⟨#[]⟩, .int .i64 0, .slice none 0 0, .string h] 54))
  unfold tv
  go_enter Tryz.func24, Tryz.ntmps24
  go_wp2_with fail
  go_ret
  exact ⟨_, rfl, World.ownsRow_nil _ _ _ _, HB.out⟩

set_option maxRecDepth 30000 in
set_option maxHeartbeats 2000000 in
theorem rtexts_leaf (k v h : ByteArray) (w : World) (hk : k.size = 32) (hv : v.size ≤ 5000) : Calls Tryz.prog 24 #[tv 1 k v 0 (.slice none 0 0) h] w (TxRes w (PT.leaf k v).txs) := by
  obtain ⟨W, hW⟩ : ∃ W, W = w.alloc (.cells #[.int .i64 1, .string k, .string v, .int .i64 0, .slice none 0 0, .string h] 54) := ⟨_, rfl⟩
  have hb : Below w.heap.size w W := by rw [hW]; exact (Below.refl _ w).alloc (Nat.le_refl _) _
  obtain ⟨_, c1, c2, _⟩ := six_cells (w := W) (b := w.heap.size) (by rw [hW]; exact heap_alloc_new _ _)
  have HW := Lib.hid hW
  have HB := Lib.hid hb
  obtain ⟨S, hS⟩ : ∃ S, sumB (ks v) = S := ⟨_, rfl⟩
  have hSs : S.size ≤ 32 := by rw [← hS, sumB_size]; omega
  have HP := Lib.hid (fun W => print_at v S W hS (by omega))
  have hk2 : k.size ≤ 32 := by omega
  have H3 := Lib.hid (leaf_three k v S hS)
  have q1 : ¬ 9223372036854775807 < 1 + k.size := by omega
  have q2 : ¬ 9223372036854775807 < 1 + k.size + S.size := by omega
  clear hS hk hW hb hv
  unfold tv
  go_enter Tryz.func24, Tryz.ntmps24
  go_wp2_with fail
  rw [← HW.out]
  go_region_held3 (fun w' => w'.cell? ⟨w.heap.size, 1, none⟩ = some (.string k) ∧ w'.cell? ⟨w.heap.size, 2, none⟩ = some (.string v))
    (first | exact ⟨c1, c2⟩ | exact e4 | exact ⟨cellA _ e4.1, cellA _ e4.2⟩)
    ((go_at_call 52; refine (HP.out _).mono ?_; rintro e w4 ⟨rfl, hb4⟩; have e4 := And.intro (cellD hb4 c1) (cellD hb4 c2); have HB4 := Lib.hid ((HB.out.drew).trans (hb4.mono HB.out.size))))
  go_wp2
  go_ret
  refine ⟨_, rfl, ?_, HB4.out.alloc HB4.out.size _⟩
  show SOwn _ _ _ [bs (ks v), bs (leafT k v)]
  rw [bs_ks, ← H3.out]
  exact own_two w4 _ HB4.out.size _ _
set_option maxRecDepth 30000 in
set_option maxHeartbeats 4000000 in
theorem rtexts_prog (t : PT) : ∀ (x : Value) (B : Nat) (w : World), t.ok → t.texts.length ≤ 10000 → RT B w t x →
    Calls Tryz.prog 24 #[x] w (TxRes w t.txs) := by
  induction t with
  | stub h => intro x B w _ _ hr; rw [show x = _ from hr]; exact rtexts_stub h w
  | leaf k u => intro x B w ho _ hr; rw [show x = _ from hr]; exact rtexts_leaf k u _ w ho.1 ho.2
  | fork p k z o iz io =>
    intro x B w hok hlen hr
    obtain ⟨g, c, zk, zp, ok, op, zkey, zval, okey, oval, zs, os, rfl, _, hg, a0, a1, a2, a3, a4, a5, b0, b1, b2, b3, b4, b5, hrz, hro⟩ := hr
    obtain ⟨za, zn, zc, rfl⟩ := RT.one hrz
    obtain ⟨oa, on, oc, rfl⟩ := RT.one hro
    obtain ⟨H, hH⟩ : ∃ H, H = (PT.fork p k z o).hash := ⟨_, rfl⟩
    rw [← hH]
    obtain ⟨W, hW⟩ : ∃ W, W = w.alloc (.cells #[.int .i64 2, .string k, .string ⟨#[]⟩, .int .i64 p, .slice (some ⟨g, 0, none⟩) 2 c, .string H] 54) := ⟨_, rfl⟩
    have hb : Below w.heap.size w W := by rw [hW]; exact (Below.refl _ w).alloc (Nat.le_refl _) _
    have hbl := heap_alloc_new w (.cells #[.int .i64 2, .string k, .string ⟨#[]⟩, .int .i64 p, .slice (some ⟨g, 0, none⟩) 2 c, .string H] 54)
    rw [← hW] at hbl
    have hwW : w.heap.size < W.heap.size := World.lt_of_block hbl
    obtain ⟨t0, t1, t2, t3, t4, t5⟩ := six_cells hbl
    have HTS : Hid (∀ X, Below W.heap.size W X → X.cell? ⟨w.heap.size, 0, none⟩ = some (.int .i64 2) ∧ X.cell? ⟨w.heap.size, 1, none⟩ = some (.string k) ∧ X.cell? ⟨w.heap.size, 2, none⟩ = some (.string ⟨#[]⟩) ∧ X.cell? ⟨w.heap.size, 3, none⟩ = some (.int .i64 p) ∧ X.cell? ⟨w.heap.size, 4, none⟩ = some (.slice (some ⟨g, 0, none⟩) 2 c) ∧ X.cell? ⟨w.heap.size, 5, none⟩ = some (.string H) ∧ X.cell? ⟨g, 0, none⟩ = some (.int .i64 zk) ∧ X.cell? ⟨g, 1, none⟩ = some (.string zkey) ∧ X.cell? ⟨g, 2, none⟩ = some (.string zval) ∧ X.cell? ⟨g, 3, none⟩ = some (.int .i64 zp) ∧ X.cell? ⟨g, 4, none⟩ = some (.slice za zn zc) ∧ X.cell? ⟨g, 5, none⟩ = some (.string z.hash) ∧ X.cell? ⟨g, 6, none⟩ = some (.int .i64 ok) ∧ X.cell? ⟨g, 7, none⟩ = some (.string okey) ∧ X.cell? ⟨g, 8, none⟩ = some (.string oval) ∧ X.cell? ⟨g, 9, none⟩ = some (.int .i64 op) ∧ X.cell? ⟨g, 10, none⟩ = some (.slice oa on oc) ∧ X.cell? ⟨g, 11, none⟩ = some (.string o.hash)) := Lib.hid (fun X h => ⟨cellB h t0, cellB h t1, cellB h t2, cellB h t3, cellB h t4, cellB h t5, cellB h (cellB hb a0), cellB h (cellB hb a1), cellB h (cellB hb a2), cellB h (cellB hb a3), cellB h (cellB hb a4), cellB h (cellB hb a5), cellB h (cellB hb b0), cellB h (cellB hb b1), cellB h (cellB hb b2), cellB h (cellB hb b3), cellB h (cellB hb b4), cellB h (cellB hb b5)⟩)
    have hlen2 : z.texts.length + o.texts.length + 1 ≤ 10000 := by
      simp only [PT.texts, List.length_append, List.length_cons, List.length_nil] at hlen; omega
    have HZ := Lib.hid (fun (V : World) (h1 : Below W.heap.size W V) => iz _ B V hok.2.2.1 (by omega) (hrz.later (hb.trans (h1.mono hb.size))))
    have HO := Lib.hid (fun (V : World) (h1 : Below W.heap.size W V) => io _ B V hok.2.2.2 (by omega) (hro.later (hb.trans (h1.mono hb.size))))
    have hkk := hok.2.1
    have hpp := hok.1
    have HT := Lib.hid (fun (V : World) (h1 : Below W.heap.size W V) => text_prog 2 k ⟨#[]⟩ z.hash o.hash H p g c V hpp hkk (PT.hash_size z hok.2.2.1) (PT.hash_size o hok.2.2.2) (cellB h1 (cellB hb a5)) (cellB h1 (cellB hb b5)))
    obtain ⟨FT, hFT⟩ : ∃ T, T = bs (forkT p k z.hash o.hash) := ⟨_, rfl⟩
    rw [← hFT] at HT
    have HFT : Hid (PT.txs (.fork p k z o) = z.txs ++ o.txs ++ [FT]) := Lib.hid (by rw [hFT]; simp [PT.txs, PT.texts])
    have HL : Hid (z.txs.length + o.txs.length + 1 ≤ 10000) := Lib.hid (by unfold PT.txs; rw [List.length_map, List.length_map]; exact hlen2)
    have HW := Lib.hid hW
    have HBW := Lib.hid hb
    have HB0 : Hid (Below W.heap.size W W.drew) := Lib.hid ((Below.refl _ _).drew)
    clear hrz hro iz io hb hbl hW hH hFT hok hlen hlen2 hkk hpp hg hwW t0 t1 t2 t3 t4 t5 a0 a1 a2 a3 a4 a5 b0 b1 b2 b3 b4 b5
    unfold tv at *
    go_enter Tryz.func24, Tryz.ntmps24
    go_wp2_with fail
    rw [← HW.out]
    go_region_held3 (fun X => X.cell? ⟨w.heap.size, 0, none⟩ = some (.int .i64 2) ∧ X.cell? ⟨w.heap.size, 1, none⟩ = some (.string k) ∧ X.cell? ⟨w.heap.size, 2, none⟩ = some (.string ⟨#[]⟩) ∧ X.cell? ⟨w.heap.size, 3, none⟩ = some (.int .i64 p) ∧ X.cell? ⟨w.heap.size, 4, none⟩ = some (.slice (some ⟨g, 0, none⟩) 2 c) ∧ X.cell? ⟨w.heap.size, 5, none⟩ = some (.string H) ∧ X.cell? ⟨g, 0, none⟩ = some (.int .i64 zk) ∧ X.cell? ⟨g, 1, none⟩ = some (.string zkey) ∧ X.cell? ⟨g, 2, none⟩ = some (.string zval) ∧ X.cell? ⟨g, 3, none⟩ = some (.int .i64 zp) ∧ X.cell? ⟨g, 4, none⟩ = some (.slice za zn zc) ∧ X.cell? ⟨g, 5, none⟩ = some (.string z.hash) ∧ X.cell? ⟨g, 6, none⟩ = some (.int .i64 ok) ∧ X.cell? ⟨g, 7, none⟩ = some (.string okey) ∧ X.cell? ⟨g, 8, none⟩ = some (.string oval) ∧ X.cell? ⟨g, 9, none⟩ = some (.int .i64 op) ∧ X.cell? ⟨g, 10, none⟩ = some (.slice oa on oc) ∧ X.cell? ⟨g, 11, none⟩ = some (.string o.hash))
      (first | with_reducible exact HTS.out _ HBc.out | exact HTS.out _ (HBc.out.alloc HBc.out.size _) | exact HTS.out _ HB0.out)
      (first
        | (refine step_appS rfl _ _ rfl W.heap.size W.heap.size _ _ (z.txs ++ o.txs) [FT] rfl H1c.out rfl HNc.out (by have := HL.out; simp only [List.length_append, List.length_cons, List.length_nil]; omega) HBc.out.size ?_; intro v9 w9 hown9 hgr9; have H9 := Lib.hid hown9; have HB9 := Lib.hid (HBc.out.trans (hgr9.below HBc.out.size (SOwn.low H1c.out))); have HBc := Lib.hid HB9.out; clear hgr9 hown9)
        | (refine step_appS rfl _ _ rfl W.heap.size W.heap.size _ _ (z.txs ++ o.txs) [FT] rfl (H1c.out.alloc _) rfl (own_one _ _ HBc.out.size _) (by have := HL.out; simp only [List.length_append, List.length_cons, List.length_nil]; omega) (HBc.out.alloc HBc.out.size _).size ?_; intro v9 w9 hown9 hgr9; have H9 := Lib.hid hown9; have HB9 := Lib.hid ((HBc.out.alloc HBc.out.size _).trans (hgr9.below (HBc.out.alloc HBc.out.size _).size (SOwn.low H1c.out))); have HBc := Lib.hid HB9.out; clear hgr9 hown9)
        | (refine step_appS rfl _ _ rfl W.heap.size W.heap.size _ _ z.txs o.txs rfl HZc.out rfl HOc.out (by have := HL.out; omega) HBc.out.size ?_; intro v8 w8 hown8 hgr8; have H1c := Lib.hid hown8; have HBc := Lib.hid (HBc.out.trans (hgr8.below HBc.out.size (SOwn.low HZc.out))); clear hgr8 hown8)
        | (refine step_appS rfl _ _ rfl W.heap.size W.heap.size _ _ z.txs o.txs rfl (HZc.out.alloc _) rfl (HOc.out.alloc _) (by have := HL.out; omega) (HBc.out.alloc HBc.out.size _).size ?_; intro v8 w8 hown8 hgr8; have H1c := Lib.hid hown8; have HNc := Lib.hid (SOwn.grew (own_one _ W.heap.size HBc.out.size FT) hgr8 (fun k hk e => by have := SOwn.lt HZc.out k e; have hk2 : _ = k := by simpa [Value.ownBlock] using hk; omega)); have HBc := Lib.hid ((HBc.out.alloc HBc.out.size _).trans (hgr8.below (HBc.out.alloc HBc.out.size _).size (SOwn.low HZc.out))); clear hgr8 hown8)
        | (go_at_call 57; (with_reducible refine (HT.out _ HBc.out).mono ?_); rintro e w5 ⟨rfl, hb5⟩; have HBc := Lib.hid (HBc.out.trans (hb5.mono HBc.out.size)); first | (have H1c := Lib.hid (H1c.out.later hb5); clear hb5) | (have HZc := Lib.hid (HZc.out.later hb5); have HOc := Lib.hid (HOc.out.later hb5); clear hb5))
        | (go_at_call 24; (with_reducible refine (HO.out _ HBc.out).mono ?_); rintro e w4 ⟨vb, rfl, ho4, hb4⟩; have HOc := Lib.hid (SOwn.base ho4 HBc.out.size); have HZc := Lib.hid (HZc.out.later hb4); have HBc := Lib.hid (HBc.out.trans (hb4.mono HBc.out.size)); clear ho4 hb4)
        | (go_at_call 24; (with_reducible refine (HZ.out _ HB0.out).mono ?_); rintro e w3 ⟨va, rfl, ho3, hb3⟩; have HZc := Lib.hid (SOwn.base ho3 HB0.out.size); have HBc := Lib.hid (HB0.out.trans (hb3.mono HB0.out.size)); clear ho3 hb3))
    all_goals (go_wp2; go_ret; refine ⟨_, rfl, ?_, HBW.out.trans (HBc.out.mono HBW.out.size)⟩; rw [HFT.out]; exact SOwn.base H9.out HBW.out.size)
end Go.Proofs.YtmpjpaomgifpcaaGreatDoor
