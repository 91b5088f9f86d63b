/- vidimusref03.node: lists; Read. -/
import Derived.Test.YtaojcbdljgcfgaaCNe
namespace Go.Proofs.Ytaojcbdljgcfgaa
open Go.RowKit

theorem heap_alloc3 (w : World) (o1 o2 o3 : Obj) : (((w.alloc o1).alloc o2).alloc o3).heap[w.heap.size + 2]? = some o3 := by
  have := heap_alloc_new ((w.alloc o1).alloc o2) o3
  simpa using this

def NkRel (s : ByteArray) (d m : Nat) (O : Option (F × List UInt8)) (w : World) (s10 s14 : Value) (wr : World) : Prop :=
  ∃ (i P : Nat) (f : F) (v : Value) (cs : List Value), s10 = .int .i64 P ∧ s14 = .int .i64 i ∧ i ≤ m ∧ P ≤ s.size ∧ Hid (O = restO f (kidsP (parse d) (m - i) (s.data.toList.drop P))) ∧ f.len ≤ P ∧
    Hid (wr.heap[w.heap.size]? = some (.cells #[.int .i64 0, .int .u64 0, .string ⟨#[]⟩, .slice none 0 0] 27 (0, 0))) ∧
    Hid (wr.heap[w.heap.size + 1]? = some (.cells #[.int .i64 0, .int .u64 0, .string ⟨#[]⟩, .slice none 0 0] 27 (0, 0))) ∧
    Hid (wr.heap[w.heap.size + 1 + 1]? = some (.cells #[.int .i64 2, .int .u64 0, .string ⟨#[]⟩, v] 27 (0, 0))) ∧
    Hid (wr.ownsRow (w.heap.size + 3) 27 4 v f.len cs) ∧ Hid (CellsOf wr (fun b => w.heap.size + 3 ≤ b ∧ b < wr.heap.size ∧ v.ownBlock ≠ some b) f cs) ∧ Below w.heap.size w wr ∧ w.heap.size + 3 ≤ wr.heap.size

theorem nd_keep {X : World} {P : Program} {f : FuncId} {args : Array Value} {o : Option (Nd × List UInt8)} {s : ByteArray} (g : Nat) {ob : Obj} (h : X.heap[g]? = some ob) (g2 : Nat) {ob2 : Obj} (h2 : X.heap[g2]? = some ob2) (hc : Calls P f args X (NRes o s X.heap.size X)) :
    Calls P f args X fun e w' => ∃ (x : Nd) (ka : Option Addr) (kn kc : Nat) (en : Int), e = .returned (.tuple #[.agg #[.int .i64 x.k, .int .u64 x.n, .string x.s, .slice ka kn kc], .int .i64 en]) ∧ Below X.heap.size X w' ∧
    ((en = -1 ∧ o = none) ∨ ∃ E : Nat, en = E ∧ E ≤ s.size ∧ o = some (x, s.data.toList.drop E) ∧ KidsAt w' (fun g => X.heap.size ≤ g ∧ g < w'.heap.size) x.kids (.slice ka kn kc)) ∧ w'.heap[g]? = some ob ∧ w'.heap[g2]? = some ob2 :=
  hc.mono fun _ _ ⟨x, ka, kn, kc, en, he, hb, h1⟩ => ⟨x, ka, kn, kc, en, he, hb, h1, block_kept h ((Array.getElem?_eq_some_iff.1 h).1) hb, block_kept h2 ((Array.getElem?_eq_some_iff.1 h2).1) hb⟩

set_option maxRecDepth 30000 in
set_option maxHeartbeats 2000000 in
theorem node_list (s : ByteArray) (A d E m : Nat) (w : World) (hs : s.size ≤ 100000000) (hd : d < 20) (hA : A < s.size) (hE : E ≤ s.size) (hm : Lim m) (hc : s[A].toNat = 108) (HN : NodeOk d)
    (hz : szP 4 (s.data.toList.drop (A + 1)) = some (m, s.data.toList.drop E)) :
    Calls Try.prog 30 #[.string s, .int .i64 A, .int .i64 ((d + 1 : Nat) : Int)] w
      (NRes (kidsO (kidsP (parse d) m (s.data.toList.drop E))) s w.heap.size w) := by
  have hsI : (s.size : Int) ≤ 100000000 := by omega
  have hAI : ¬ ((s.size : Int) ≤ (A : Int)) := by omega
  have hAs : (A : Int) ≤ 100000000 := by omega
  have hA1 : (0 : Int) ≤ (A : Int) := by omega
  have hdI : ¬ (((d + 1 : Nat) : Int) < 1) := by omega
  obtain ⟨dd, hdd⟩ : ∃ dd : Int, dd = ((d + 1 : Nat) : Int) := ⟨_, rfl⟩
  rw [← hdd] at hdI ⊢
  have hcall := Lib.hid (size_some s ((A : Int) + 1) (A + 1) m E (two w) (by omega) hs (by omega) hE hz)
  have hce : ((s[A].toNat : Int) == 110) = false := by rw [hc]; rfl
  have hce2 : ((s[A].toNat : Int) == 115) = false := by rw [hc]; rfl
  have hce3 : ((s[A].toNat : Int) == 108) = true := by rw [hc]; rfl
  have HNO := Lib.hid HN
  clear HN
  clear hc
  obtain ⟨O, hO⟩ : ∃ O, kidsP (parse d) m (s.data.toList.drop E) = O := ⟨_, rfl⟩
  have HO := Lib.hid hO
  rw [hO]
  clear hO
  have hEI : (E : Int) ≤ (s.size : Int) := by omega
  have hE0 : (0 : Int) ≤ (E : Int) := by omega
  have hm0 : (0 : Int) ≤ (m : Int) := by omega
  have hmI : (m : Int) ≤ 268435456 := by unfold Lim at hm; omega
  have HM := Lib.hid hm
  have HDD := Lib.hid hdd
  clear hz hdd hm
  unfold two at hcall
  go_enter Try.func30, Try.ntmps30
  go_wp2_with fail
  refine hcall.out.mono ?_
  rintro e w1 ⟨rfl, rfl⟩
  clear hcall
  go_wp2_with fail
  go_loopw [10, 14] (NkRel s d m O w) (fun _ i _ => m - (intOf i).toNat)
  case atStart =>
    refine ⟨0, E, .nil, .slice none 0 0, [], rfl, rfl, by omega, hE, Lib.hid ?_, by simp [F.len], Lib.hid ?_, Lib.hid ?_, Lib.hid ?_, Lib.hid ?_, Lib.hid ?_, ?_, ?_⟩
    · rw [restO_nil]; exact HO.out.symm
    · rw [Below.heap_alloc _ _ _ (by simp; omega), Below.heap_alloc _ _ _ (by simp)]; exact heap_alloc_new w _
    · rw [Below.heap_alloc _ _ _ (by simp)]; exact heap_alloc2 w _ _
    · exact heap_alloc3 w _ _ _
    · exact World.ownsRow_nil _ _ _ _
    · exact rfl
    · exact (((Below.refl _ w).alloc (Nat.le_refl _) _).alloc (by simp) _).alloc (by simp; omega) _
    · simp
  case round =>
    obtain ⟨i, P, f, v, cs, rfl, rfl, hi, hP, hZ, hfl, hz6, hz8, hz9, hown, hcs, hb, hsz⟩ := hrel
    by_cases hlt : i < m
    · have hi0 : (0 : Int) ≤ (i : Int) := by omega
      have hi1 : (i : Int) ≤ 268435456 := by omega
      have hdd1 : dd - 1 = (d : Int) := by have := HDD.out; omega
      have hddw : wrap64 (dd - 1) = (d : Int) := by rw [hdd1]; exact IntWalk.wrap64_in _ (by omega)
      have hddw2 : IntKind.i64.wrap (dd - 1) = (d : Int) := by rw [hdd1]; exact IntWalk.i64_in _ (by omega)
      have hcall := Lib.hid (nd_keep w.heap.size hz6.out (w.heap.size + 1) hz8.out (HNO.out s P wr hs hP (by omega)))
      go_wp2_with fail
      refine hcall.out.mono ?_
      rintro e w4 ⟨x, ka, kn, kc, en, rfl, hb4, h1, hk6, hk8⟩
      obtain ⟨c0, c1, c2, c3, f0, f1, f2, f3⟩ := block4 hk6
      obtain ⟨a0, a1, a2, a3, _, _, _, _⟩ := block4 hk8
      have hlt6 : w.heap.size < w4.heap.size := by have := hb4.size; omega
      have hlt8 : w.heap.size + 1 < w4.heap.size := by have := hb4.size; omega
      clear hcall
      rcases h1 with ⟨rfl, hn⟩ | ⟨E', rfl, hE', hp, hkid⟩
      · have hO2 : Hid (kidsO O = none) := Lib.hid (by rw [hZ.out, show m - i = (m - i - 1) + 1 by omega, restO_none _ _ _ _ hn]; rfl)
        clear hn hk6 hk8
        go_wp2_with fail
        refine bodyPost_ret (v := .tuple #[nodeV 0 0 ⟨#[]⟩ (.slice none 0 0), .int .i64 (-1)]) (by simp [results, Try.results30, go_sem, nodeV, c0, c1, c2, c3, hlt6]) rfl ⟨⟨0, 0, ⟨#[]⟩, .nil⟩, none, 0, 0, _, rfl, ?_, .inl ⟨rfl, hO2.out⟩⟩
        have hbb := hb.trans (hb4.mono hb.size)
        exact ((((hbb.setCell (Nat.le_refl _) _).setCell (Nat.le_refl _) _).setCell (Nat.le_refl _) _).setCell (Nat.le_refl _) _).alloc (by simp only [size_setCell]; omega) _
      · have hO2 : Hid (O = restO (f.app (.cons x.k x.n x.s x.kids .nil)) (kidsP (parse d) (m - (i + 1)) (s.data.toList.drop E'))) := Lib.hid (by rw [hZ.out, show m - i = (m - (i + 1)) + 1 by omega, restO_step _ _ _ _ _ _ hp])
        have hinv := parse_inv d _ _ _ hp
        have hrl : P + 1 ≤ E' := by
          have h1 := congrArg List.length hinv.1
          have h2 : 1 ≤ x.bytes.length := by
            unfold Nd.bytes nodeL; split
            · simp
            · split <;> simp
          simp at h1; omega
        have hz9' : Hid (w4.heap[w.heap.size + 1 + 1]? = some (.cells #[.int .i64 2, .int .u64 0, .string ⟨#[]⟩, v] 27 (0, 0))) := Lib.hid (block_kept hz9.out (by omega) hb4)
        obtain ⟨_, _, _, d3, _, _, _, _⟩ := block4 hz9'.out
        have hlt9 : w.heap.size + 1 + 1 < w4.heap.size := by have := hb4.size; omega
        have hvlt : Hid (∀ k, v.ownBlock = some k → w.heap.size + 3 ≤ k ∧ k < wr.heap.size) := Lib.hid (World.ownsRow.lt hown.out)
        have hown4 : Hid (w4.ownsRow (w.heap.size + 3) 27 4 v f.len cs) := Lib.hid (ownN_mv hown.out (fun k hk => hb4.block k (hvlt.out k hk).2))
        have HKID := Lib.hid hkid
        have HG := Lib.hid hk6
        have HG8 := Lib.hid hk8
        have hfl40 : f.len + 1 ≤ 100000000 := by omega
        have hE0' : ¬ ((E' : Int) < 0) := by omega
        have hP0' : (0 : Int) ≤ (E' : Int) := by omega
        clear hp hinv hkid hk6 hk8 c0 c1 c2 c3 f0 f1 f2 f3 a0 a1 a2 a3
        go_wp2_with (at_builtin; refine list_appN Try.nodeSl rfl _ _ rfl (w.heap.size + 3) v f.len cs rfl ((hown4.out.alloc _).alloc _) _ 1 1 [.int .i64 x.k, .int .u64 x.n, .string x.s, .slice ka kn kc] rfl (heap_alloc2 w4 _ _) rfl (by simp [Value.oneCell']) (by omega) (by unfold maxLen; omega) (by omega) (by simp; omega) ?_; intro g cap w6 hown6 hgr6; have hne9 : Hid (v.ownBlock ≠ some (w.heap.size + 1 + 1)) := Lib.hid (fun h => by have := hvlt.out _ h; omega); have hz96 : Hid (w6.heap[w.heap.size + 1 + 1]? = some (.cells #[.int .i64 2, .int .u64 0, .string ⟨#[]⟩, v] 27 (0, 0))) := Lib.hid (by rw [hgr6.block (by simp; omega) hne9.out, heap_old2 _ _ _ _ hlt9]; exact hz9'.out); obtain ⟨_, _, _, e3, _, _, _, q3⟩ := block4 hz96.out)
        have hb6 : Below (w.heap.size + 3) w4 w6 := ((((Below.refl _ w4).alloc (by omega) _).alloc (by simp; omega) _)).trans (hgr6.below (by simp; omega) (fun k hk => (hvlt.out k hk).1))
        have hs6 : w4.heap.size + 2 ≤ w6.heap.size := by have := hgr6.size; simpa using this
        have hgb : w.heap.size + 3 ≤ g := (World.ownsRow.lt hown6 g rfl).1
        have hgl : v.ownBlock = some g ∨ w4.heap.size + 2 ≤ g := by have := hgr6.loc g rfl; simpa using this
        have hs4 := hb4.size
        have hold : ∀ b, w.heap.size + 3 ≤ b → b < w4.heap.size → v.ownBlock ≠ some b → w6.heap[b]? = w4.heap[b]? := fun b h1 h2 h3 => by
          rw [hgr6.block (by simp; omega) h3, heap_old2 _ _ _ _ h2]
        go_roundw
        case rel =>
          refine ⟨i + 1, E', f.app (.cons x.k x.n x.s x.kids .nil), .slice (some ⟨g, 0, none⟩) (f.len + 1) cap, cs ++ [.int .i64 x.k, .int .u64 x.n, .string x.s, .slice ka kn kc], rfl, by go_num, by omega, hE', hO2, by rw [F.app_len]; simp [F.len]; omega, Lib.hid ?_, Lib.hid ?_, Lib.hid ?_, Lib.hid ?_, Lib.hid (CellsOf.snoc (s := x.s) (c := x.kids) ?_ _ cs ?_), ?_, ?_⟩
          · rw [setCell_ne _ _ _ _ _ (by omega), hb6.block _ (by omega)]; exact HG.out
          · rw [setCell_ne _ _ _ _ _ (by omega), hb6.block _ (by omega)]; exact HG8.out
          · exact heap_setCell_same w6 _ 3 _ _ _ hz96.out
          · have e1 : (f.app (.cons x.k x.n x.s x.kids .nil)).len = f.len + 1 := by rw [F.app_len]; rfl
            rw [e1]
            exact ownN_mv hown6 (fun k hk => setCell_ne _ _ _ _ _ (by have := (World.ownsRow.lt hown6 k hk).1; omega))
          · refine HKID.out.mono (fun b hb => ⟨by omega, ?_, ?_⟩) (fun b hb => ?_)
            · rw [size_setCell]; omega
            · intro h
              have hgb2 : g = b := by simpa [Value.ownBlock] using h
              rcases hgl with h1 | h1
              · have := (hvlt.out g h1).2; omega
              · omega
            · rw [setCell_ne _ _ _ _ _ (by omega)]
              exact hold b (by omega) hb.2 (fun h => by have := (hvlt.out b h).2; omega)
          · have hx : ∀ b, (w.heap.size + 3 ≤ b ∧ b < wr.heap.size ∧ v.ownBlock ≠ some b) → b < (w6.setCell ⟨w.heap.size + 1 + 1, 3, none⟩ (.slice (some ⟨g, 0, none⟩) (f.len + 1) cap)).heap.size ∧ (Value.slice (some ⟨g, 0, none⟩) (f.len + 1) cap).ownBlock ≠ some b ∧
                (w6.setCell ⟨w.heap.size + 1 + 1, 3, none⟩ (.slice (some ⟨g, 0, none⟩) (f.len + 1) cap)).heap[b]? = wr.heap[b]? := fun b hb => by
              refine ⟨by rw [size_setCell]; omega, fun h => ?_, ?_⟩
              · have hgb2 : g = b := by simpa [Value.ownBlock] using h
                rcases hgl with h1 | h1
                · exact hb.2.2 (by rw [h1, hgb2])
                · omega
              · rw [setCell_ne _ _ _ _ _ (by omega), hold b hb.1 (by omega) hb.2.2]
                exact hb4.block b hb.2.1
            exact CellsOf.mono (fun b hb => ⟨⟨hb.1, (hx b hb).1, (hx b hb).2.1⟩, (hx b hb).2.2⟩) f cs hcs.out
          · exact ((hb.trans (hb4.mono hb.size)).trans (hb6.mono (by omega))).setCell (by simp; omega) _
          · rw [size_setCell]; omega
        case measure => rw [intOf_int, intOf_int]; omega
    · obtain rfl : i = m := by omega
      obtain ⟨c0, c1, c2, c3, f0, f1, f2, f3⟩ := block4 hz6.out
      obtain ⟨d0, d1, d2, d3, _, _, _, _⟩ := block4 hz9.out
      have hO2 : Hid (O = some (f, s.data.toList.drop P)) := Lib.hid (by
        rw [hZ.out, show i - i = 0 by omega]; simp only [kidsP, restO, F.app_nil])
      obtain ⟨va, vc, hv⟩ : ∃ a c, v = .slice a f.len c := by
        rcases hown.out.2 with ⟨h1, h2⟩ | ⟨g, cap, cur, h1, _⟩
        · exact ⟨none, 0, by rw [h1, h2]⟩
        · exact ⟨_, cap, h1⟩
      subst hv
      clear hlt
      go_wp2_with fail
      refine bodyPost_ret (v := .tuple #[nodeV 2 0 ⟨#[]⟩ (.slice va f.len vc), .int .i64 P]) (by simp [results, Try.results30, go_sem, nodeV, c0, c1, c2, c3]) rfl ⟨⟨2, 0, ⟨#[]⟩, f⟩, va, f.len, vc, _, rfl, ?_, .inr ⟨P, rfl, hP, by rw [hO2.out]; rfl, ?_⟩⟩
      · exact (((hb.setCell (Nat.le_refl _) _).setCell (Nat.le_refl _) _).setCell (Nat.le_refl _) _).setCell (Nat.le_refl _) _
      · have hk : KidsAt wr (fun b => w.heap.size + 3 ≤ b ∧ b < wr.heap.size) f (.slice va f.len vc) := kids_of_own hown.out hcs.out (fun b hb => ⟨hb.1, hb.2.1⟩) (fun k hk => World.ownsRow.lt hown.out k hk)
        exact kids_set4 hk (by omega) (by omega)
end Go.Proofs.Ytaojcbdljgcfgaa
