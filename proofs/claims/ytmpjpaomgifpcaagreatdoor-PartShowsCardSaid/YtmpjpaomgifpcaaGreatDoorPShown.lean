/- part's shown. -/
import Derived.Test.YtmpjpaomgifpcaaGreatDoorPAsk
import Derived.Test.YtmpjpaomgifpcaaGreatDoorPShow2
namespace Go.Proofs.YtmpjpaomgifpcaaGreatDoor
open Go.RowKit
open Cod (F Nd KidsAt Lies nodeV CellsOf)

theorem Tryz.nodeSlM : SlN Tryz.prog 72 80 (.agg #[.int .i64 0, .int .u64 0, .string ⟨#[]⟩, .slice none 0 0]) 4 56 := ⟨Cod.Tryz.nodeSl.und, Cod.Tryz.nodeSl.info, Cod.Tryz.nodeSl.zc, Cod.Tryz.nodeSl.pos⟩
/-- The slice value v owns these nodes; their kids lie elsewhere. -/
def NOwn (w : World) (B : Nat) (v : Value) (f : F) : Prop := ∃ cs, w.ownsRow B 80 4 v f.len cs ∧ CellsOf w (fun b => B ≤ b ∧ b < w.heap.size ∧ v.ownBlock ≠ some b) f cs
theorem NOwn.nil (w : World) (B : Nat) : NOwn w B (.slice none 0 0) .nil := ⟨[], World.ownsRow_nil _ _ _ _, rfl⟩
theorem NOwn.low {w : World} {B : Nat} {v : Value} {f : F} (h : NOwn w B v f) : ∀ k, v.ownBlock = some k → B ≤ k := by
  obtain ⟨cs, h, _⟩ := h; exact ownN_low h
theorem NOwn.lt {w : World} {B : Nat} {v : Value} {f : F} (h : NOwn w B v f) : ∀ k, v.ownBlock = some k → k < w.heap.size := by
  obtain ⟨cs, h, _⟩ := h; exact fun k hk => (World.ownsRow.lt h k hk).2
theorem NOwn.later {w w' : World} {B : Nat} {v : Value} {f : F} (h : NOwn w B v f) (hb : Below w.heap.size w w') : NOwn w' B v f := by
  obtain ⟨cs, h1, h2⟩ := h
  exact ⟨cs, ownN_mv h1 (fun k hk => hb.block k (World.ownsRow.lt h1 k hk).2), CellsOf.mono (fun b hb2 => ⟨⟨hb2.1, Nat.lt_of_lt_of_le hb2.2.1 hb.size, hb2.2.2⟩, hb.block b hb2.2.1⟩) f cs h2⟩
theorem NOwn.shape {w : World} {B : Nat} {v : Value} {f : F} (h : NOwn w B v f) : ∃ a c, v = .slice a f.len c := by
  obtain ⟨cs, h, _⟩ := h
  rcases h.2 with ⟨h1, h2⟩ | ⟨g, cap, cur, hv, _⟩
  · exact ⟨none, 0, by rw [h1, h2]⟩
  · exact ⟨_, _, hv⟩
theorem NOwn.kids {w : World} {B : Nat} {v : Value} {f : F} (h : NOwn w B v f) : KidsAt w (fun b => b < w.heap.size) f v := by
  obtain ⟨cs, h1, h2⟩ := h
  exact Cod.kids_of_own h1 h2 (fun b hb => hb.2.1) (fun k hk => (World.ownsRow.lt h1 k hk).2)
theorem NOwn.snoc {w w' : World} {B g cap : Nat} {v : Value} {f c : F} {k n : Int} {st : ByteArray} {kv : Value} {cs : List Value} (h2 : CellsOf w (fun b => B ≤ b ∧ b < w.heap.size ∧ v.ownBlock ≠ some b) f cs)
    (hk : KidsAt w (fun b => B ≤ b ∧ b < w.heap.size ∧ v.ownBlock ≠ some b) c kv) (h3 : w'.ownsRow B 80 4 (.slice (some ⟨g, 0, none⟩) (f.len + 1) cap) (f.len + 1) (cs ++ [.int .i64 k, .int .u64 n, .string st, kv])) (hg : Grew w v w' (.slice (some ⟨g, 0, none⟩) (f.len + 1) cap)) :
    NOwn w' B (.slice (some ⟨g, 0, none⟩) (f.len + 1) cap) (f.app (.cons k n st c .nil)) := by
  have hS : ∀ b, (B ≤ b ∧ b < w.heap.size ∧ v.ownBlock ≠ some b) → (B ≤ b ∧ b < w'.heap.size ∧ (Value.slice (some ⟨g, 0, none⟩) (f.len + 1) cap).ownBlock ≠ some b) ∧ w'.heap[b]? = w.heap[b]? := fun b hb => by
    refine ⟨⟨hb.1, Nat.lt_of_lt_of_le hb.2.1 hg.size, fun e => ?_⟩, hg.block hb.2.1 hb.2.2⟩
    rcases hg.loc b e with h | h
    · exact hb.2.2 h
    · omega
  refine ⟨cs ++ [.int .i64 k, .int .u64 n, .string st, kv], ?_, CellsOf.snoc (s := st) (c := c) (hk.mono (fun b hb => (hS b hb).1) (fun b hb => (hS b hb).2)) f cs (CellsOf.mono hS f cs h2)⟩
  rw [Cod.F.app_len]
  exact h3
/-- append of one node. -/
theorem step_appNode {ops : Array Oper} {o : Oper} {a : Act} {w : World} {K : Act → World → Prop} {Q : Exit → Act → World → Prop} {E : Prop} (hgd : o.guard = none) (s x : Operand)
    (ho : o.op = .call { callee := .builtin .append, args := #[s, x], argTypes := #[72, 72] })
    (B : Nat) (v : Value) (f : F) (hs : a.eval s = v) (hown : NOwn w B v f)
    (g0 cp : Nat) (k n : Int) (st : ByteArray) (kv : Value) (c : F) (hx : a.eval x = .slice (some ⟨g0, 0, none⟩) 1 cp) (hblk : w.heap[g0]? = some (.cells #[.int .i64 k, .int .u64 n, .string st, kv] 80 (0, 0))) (h1 : kv.oneCell' = true)
    (hk : KidsAt w (fun b => B ≤ b ∧ b < w.heap.size ∧ v.ownBlock ≠ some b) c kv) (hl : f.len + 1 ≤ 100000) (hbase : B ≤ w.heap.size)
    (h : ∀ v' w', NOwn w' B v' (f.app (.cons k n st c .nil)) → Grew w v w' v' → K (a.put o.dst v') w') :
    if Region.wanted o (yielded ops a.tmps) = true then Oper.wp Tryz.prog o a w K Q else E := by
  obtain ⟨cs, hw1, hw2⟩ := hown
  refine step_appN Tryz.nodeSlM hgd s x ho B v f.len cs hs hw1 g0 1 cp [.int .i64 k, .int .u64 n, .string st, kv] hx hblk rfl (fun u hu => by
    simp only [List.mem_cons, List.not_mem_nil, or_false] at hu
    rcases hu with rfl | rfl | rfl | rfl
    · rfl
    · rfl
    · rfl
    · exact h1) (by omega) (by unfold maxLen; omega) (by omega) hbase ?_
  intro g cap w' h3 h4
  exact h _ w' (NOwn.snoc hw2 hk h3 h4) h4
theorem list_appNode {ops : Array Oper} {rest : List Oper} {o : Oper} {a : Act} {w : World} {Q : Exit → Act → World → Prop} (hgd : o.guard = none) (s x : Operand)
    (ho : o.op = .call { callee := .builtin .append, args := #[s, x], argTypes := #[72, 72] })
    (B : Nat) (v : Value) (f : F) (hs : a.eval s = v) (hown : NOwn w B v f)
    (g0 cp : Nat) (k n : Int) (st : ByteArray) (kv : Value) (c : F) (hx : a.eval x = .slice (some ⟨g0, 0, none⟩) 1 cp) (hblk : w.heap[g0]? = some (.cells #[.int .i64 k, .int .u64 n, .string st, kv] 80 (0, 0))) (h1 : kv.oneCell' = true)
    (hk : KidsAt w (fun b => B ≤ b ∧ b < w.heap.size ∧ v.ownBlock ≠ some b) c kv) (hl : f.len + 1 ≤ 100000) (hbase : B ≤ w.heap.size)
    (h : ∀ v' w', NOwn w' B v' (f.app (.cons k n st c .nil)) → Grew w v w' v' → wpList Tryz.prog ops Q rest (a.put o.dst v') w') :
    wpList Tryz.prog ops Q (o :: rest) a w := by
  obtain ⟨cs, hw1, hw2⟩ := hown
  refine list_appN Tryz.nodeSlM hgd s x ho B v f.len cs hs hw1 g0 1 cp [.int .i64 k, .int .u64 n, .string st, kv] hx hblk rfl (fun u hu => by
    simp only [List.mem_cons, List.not_mem_nil, or_false] at hu
    rcases hu with rfl | rfl | rfl | rfl
    · rfl
    · rfl
    · rfl
    · exact h1) (by omega) (by unfold maxLen; omega) (by omega) hbase ?_
  intro g cap w' h3 h4
  exact h _ w' (NOwn.snoc hw2 hk h3 h4) h4

def pairF (k1 n1 : Int) (s1 : ByteArray) (k2 n2 : Int) (s2 : ByteArray) : F := .cons k1 n1 s1 .nil (.cons k2 n2 s2 .nil .nil)
/-- A list of two is answered. -/
def L2Res (f : F) (w : World) (e : Ending) (w' : World) : Prop := ∃ a cap, e = .returned (.agg #[.int .i64 2, .int .u64 0, .string ⟨#[]⟩, .slice a 2 cap]) ∧ Below w.heap.size w w' ∧ KidsAt w' (fun b => w.heap.size ≤ b ∧ b < w'.heap.size) f (.slice a 2 cap)
theorem l_two (k1 n1 : Int) (s1 : ByteArray) (k2 n2 : Int) (s2 : ByteArray) (g : Nat) (w : World) (hn1 : 0 ≤ n1 ∧ n1 < 18446744073709551616) (hn2 : 0 ≤ n2 ∧ n2 < 18446744073709551616) (hs1 : s1.size < 268435456) (hs2 : s2.size < 268435456)
    (hblk : w.heap[g]? = some (.cells #[.int .i64 k1, .int .u64 n1, .string s1, .slice none 0 0, .int .i64 k2, .int .u64 n2, .string s2, .slice none 0 0] 80 (0, 0))) :
    Calls Tryz.prog 36 #[.slice (some ⟨g, 0, none⟩) 2 2] w (L2Res (pairF k1 n1 s1 k2 n2 s2) w) := by
  have hc : ∀ j u, (#[.int .i64 k1, .int .u64 n1, .string s1, .slice none 0 0, .int .i64 k2, .int .u64 n2, .string s2, .slice none 0 0] : Array Value)[j]? = some u → w.cell? ⟨g, j, none⟩ = some u := fun j u h => by simp only [World.cell?, hblk]; exact h
  have hk : KidsAt w (· < w.heap.size) (pairF k1 n1 s1 k2 n2 s2) (.slice (some ⟨g, 0, none⟩) 2 2) :=
    .inr ⟨g, 0, 2, rfl, block_lt hblk, ⟨_, _, hblk⟩, Nat.le_refl 2, ⟨hc 0 _ rfl, hc 1 _ rfl, hc 2 _ rfl, _, hc 3 _ rfl, .inl ⟨rfl, rfl⟩⟩, ⟨hc 4 _ rfl, hc 5 _ rfl, hc 6 _ rfl, _, hc 7 _ rfl, .inl ⟨rfl, rfl⟩⟩, trivial⟩
  refine (Cod.l_prog (pairF k1 n1 s1 k2 n2 s2) _ _ w (by show 1 ≤ 1000; omega) (by unfold Cod.Lim; show 2 < 268435456; omega) ⟨hn1, hs1, by decide, trivial, hn2, hs2, by decide, trivial, trivial⟩ hk (fun _ h => h)).mono ?_
  rintro e w' ⟨a, cap, rfl, h1, h2⟩
  exact ⟨a, cap, rfl, h1, h2⟩

theorem leadL_len (A : List Ask) (k : List UInt8) (p : Nat) (s : Bool) : (leadL k p s A).length ≤ max 1 A.length := by
  unfold leadL
  split
  · simp; omega
  · have := List.length_filter_le (fun q : Ask => leadB (ks q.1) q.2 k p s) A; omega
theorem alloc_le (w : World) (o : Obj) : w.heap.size ≤ (w.alloc o).heap.size := by simp
theorem kids_fresh {w w5 w6 : World} {B : Nat} {v : Value} {f c : F} {kv : Value} (o5 o6 : Obj) (hown : NOwn w B v f) (hsz : B ≤ w.heap.size) (h5 : w.heap.size ≤ w5.heap.size)
    (hk : KidsAt w6 (fun b => (w5.alloc o5).heap.size ≤ b ∧ b < w6.heap.size) c kv) : KidsAt (w6.alloc o6) (fun b => B ≤ b ∧ b < (w6.alloc o6).heap.size ∧ v.ownBlock ≠ some b) c kv := by
  have h1 : (w5.alloc o5).heap.size = w5.heap.size + 1 := by simp
  have h2 : (w6.alloc o6).heap.size = w6.heap.size + 1 := by simp
  exact hk.mono (fun b hb => ⟨by have := hb.1; omega, by have := hb.2; omega, fun e => by have := hown.lt b e; have := hb.1; omega⟩) (fun b hb => Below.heap_alloc _ _ _ hb.2)
def SwRes (w : World) (B : Nat) (v : Value) (f : F) (e : Ending) (w' : World) : Prop := ∃ v', e = .returned v' ∧ NOwn w' B v' f ∧ Grew w v w' v'

set_option maxRecDepth 30000 in
set_option maxHeartbeats 4000000 in
theorem shown_leaf (w0 : World) (k' v' : ByteArray) (b : Nat) (w : World) (v av : Value) (f : F) (hwf : (Tr.leaf k' v').wf) (hr : Rep w0 (.leaf k' v') b) (hb : Below w0.heap.size w0 w) (hown : NOwn w w0.heap.size v f) (hl : f.len + 2 ≤ 50000) :
    Calls Tryz.prog 33 #[v, pp b, av] w (SwRes w w0.heap.size v (f.app (leafF k' v'))) := by
  obtain ⟨d0, d1, d2, d3, _⟩ := NodeAt.cells8 (show NodeAt w0 b true k' v' 0 _ _ _ from hr)
  have c0 := cellB hb d0
  have c2 := cellB hb d2
  have c3 := cellB hb d3
  have hk32 := hwf.1
  have hv50 := hwf.2
  have HB := Lib.hid hb
  have HO := Lib.hid hown
  have HOD : Hid (NOwn w.drew w0.heap.size v f) := Lib.hid (hown.later (Below.refl _ w).drew)
  have hsz := hb.size
  have hfl : f.len + 1 ≤ 100000 := by omega
  have HNE : Hid (v.ownBlock ≠ some b) := Lib.hid (fun e => by have := hown.low b e; have := NodeAt.lt (show NodeAt w0 b true k' v' 0 _ _ _ from hr); omega)
  have HL2 := Lib.hid (fun (g : Nat) (W : World) h => l_two 1 0 k' 1 0 v' g W ⟨by decide, by decide⟩ ⟨by decide, by decide⟩ (by omega) (by omega) h)
  clear hwf hr hb hown d0 d1 d2 d3
  unfold pp
  go_enter Tryz.func33, Tryz.ntmps33
  go_wp2_with fail
  go_region_held3 (fun X => X.cell? ⟨b, 2, none⟩ = some (.string k') ∧ X.cell? ⟨b, 3, none⟩ = some (.string v'))
    (first | exact ⟨c2, c3⟩ | exact hcs7 | exact hcs6 | exact hcs5 | exact hcs4 | exact ⟨cellA _ hcs6.1, cellA _ hcs6.2⟩ | exact ⟨cellA _ hcs5.1, cellA _ hcs5.2⟩)
    (first
      | (go_at_call 65; (with_reducible refine (Cod.s_prog k' _).mono ?_); rintro e w4 ⟨rfl, hb4⟩; unfold nodeV; have hcs4 := And.intro (cellD hb4 c2) (cellD hb4 c3); have HO4 := Lib.hid (HOD.out.later hb4); have HB4 := Lib.hid ((Below.refl _ w).drew.trans hb4))
      | (go_at_call 65; (with_reducible refine (Cod.s_prog v' _).mono ?_); rintro e w5 ⟨rfl, hb5⟩; unfold nodeV; have hcs5 := And.intro (cellB hb5 hcs4.1) (cellB hb5 hcs4.2); have HO5 := Lib.hid (HO4.out.later hb5); have HB5 := Lib.hid (HB4.out.trans (hb5.mono HB4.out.size)))
      | (go_at_call 36; (with_reducible refine (HL2.out _ _ (heap_alloc_new w5 _)).mono ?_); rintro e w6 ⟨a6, m6, rfl, hb6, hk6⟩; have hcs6 := And.intro (cellB hb6 (cellA _ hcs5.1)) (cellB hb6 (cellA _ hcs5.2)); have HA6 := Lib.hid ((Below.refl _ w5).alloc (Nat.le_refl _) (.cells #[.int .i64 1, .int .u64 0, .string k', .slice none 0 0, .int .i64 1, .int .u64 0, .string v', .slice none 0 0] 80)); have HBB6 := Lib.hid (HA6.out.trans (hb6.mono HA6.out.size)); have HO6 := Lib.hid (HO5.out.later HBB6.out); have HB6 := Lib.hid (HB5.out.trans (HBB6.out.mono HB5.out.size)); have HK6 := Lib.hid (kids_fresh _ (.cells #[.int .i64 2, .int .u64 0, .string ⟨#[]⟩, .slice a6 2 m6] 80) HO.out hsz HB5.out.size hk6); have hsz6 : w0.heap.size ≤ (w6.alloc (.cells #[.int .i64 2, .int .u64 0, .string ⟨#[]⟩, .slice a6 2 m6] 80)).heap.size := Nat.le_trans hsz (Nat.le_trans HB6.out.size (alloc_le w6 _)))
      | (refine step_appNode rfl _ _ rfl w0.heap.size v f rfl (HO6.out.later ((Below.refl _ w6).alloc (Nat.le_refl _) _)) w6.heap.size 1 2 0 ⟨#[]⟩ (.slice a6 2 m6) (pairF 1 0 k' 1 0 v') rfl (heap_alloc_new w6 _) rfl HK6.out hfl hsz6 ?_; intro v7 w7 hown7 hgr7; have hcs7 := And.intro (Grew.cell hgr7 (cellA _ hcs6.1) HNE.out) (Grew.cell hgr7 (cellA _ hcs6.2) HNE.out)))
  go_wp2
  go_ret
  exact ⟨_, rfl, hown7, (Grew.ofBelow v HB6.out).trans ((Grew.alloc w6 _ v).trans hgr7)⟩

def accF (f : F) (S : Nat → F) : Nat → F
  | 0 => f
  | j + 1 => (accF f S j).app (S j)
def ShRel (f : F) (S : Nat → F) (B : Nat) (w : World) (v : Value) (s0 s48 : Value) (wr : World) : Prop :=
  ∃ j : Nat, s48 = .int .i64 j ∧ j ≤ 2 ∧ Hid (NOwn wr B s0 (accF f S j)) ∧ Hid (Grew w v wr s0)
/-- What a side's round wants. -/
def Side (w0 : World) (p : Nat) (k' : ByteArray) (A : List Ask) (F1 : F) (S : Nat → F) (j : Nat) (t : Tr) (b : Nat) (s : Bool) : Prop :=
  S j = subG (shownG t) t.hash (leadL (ks k') p s A) ∧ (j : Int) = bitN s ∧ Rep w0 t b ∧ (accF F1 S j).len + 1 ≤ 50000 ∧
  ∀ (W : World) (u lv : Value), Below w0.heap.size w0 W → NOwn W w0.heap.size u (accF F1 S j) → ASl W lv ((leadL (ks k') p s A).map toI) → Apart lv ((leadL (ks k') p s A).map toI) u →
    Calls Tryz.prog 33 #[u, pp b, lv] W (SwRes W w0.heap.size u ((accF F1 S j).app (shownG t (leadL (ks k') p s A))))
theorem shownG_len (t : Tr) (A : List Ask) (ht : t.wf) (hA : okA A) : (shownG t A).len + 1 ≤ 2 * t.pairs.length := by
  rw [shown_same t A ht hA]; exact (shown_bytes A t ht).2.1
theorem subG_len (t : Tr) (A : List Ask) (ht : t.wf) (hA : okA A) : (subG (shownG t) t.hash A).len + 1 ≤ 2 * t.pairs.length := by
  unfold subG
  split
  · have := List.length_pos_iff.2 t.pairs_ne; simp [hashF, F.len]; omega
  · exact shownG_len t A ht hA

set_option maxRecDepth 30000 in
set_option maxHeartbeats 4000000 in
theorem shown_prog (w0 : World) (t : Tr) : ∀ (A : List Ask) (b : Nat) (w : World) (v av : Value) (f : F), t.wf → okA A → A.length ≤ 1000 → Rep w0 t b → Below w0.heap.size w0 w → NOwn w w0.heap.size v f → ASl w av (A.map toI) → Apart av (A.map toI) v → f.len + 2 * t.pairs.length ≤ 50000 →
    Calls Tryz.prog 33 #[v, pp b, av] w (SwRes w w0.heap.size v (f.app (shownG t A))) := by
  induction t with
  | leaf k' v' =>
    intro A b w v av f hwf _ _ hr hb hown _ _ hl
    exact shown_leaf w0 k' v' b w v av f hwf hr hb hown (by simpa [Tr.pairs] using hl)
  | fork p k' z o iz io =>
    intro A b w v av f hwf hA hAl hr hb hown has hap hl
    have hk' : k'.size = 32 := Tr.wf_key hwf
    have hp := hwf.1
    obtain ⟨bz, bo, hnode, hrz, hro⟩ := hr
    obtain ⟨d0, d1, d2, _, d4, d5, d6, _⟩ := NodeAt.cells8 hnode
    obtain ⟨F1, hF1⟩ : ∃ F1, F1 = f.app (.cons 2 0 ⟨#[]⟩ (pairF 0 p ⟨#[]⟩ 1 0 k') .nil) := ⟨_, rfl⟩
    obtain ⟨S, hS⟩ : ∃ S : Nat → F, S = fun j => if j = 0 then subG (shownG z) z.hash (leadL (ks k') p false A) else subG (shownG o) o.hash (leadL (ks k') p true A) := ⟨_, rfl⟩
    have hgoal : f.app (shownG (.fork p k' z o) A) = accF F1 S 2 := by
      rw [accF, accF, accF, hF1, hS, shownG, forkF, Cod.F.app_assoc, Cod.F.app_assoc]; rfl
    rw [hgoal]
    have hF1l : F1.len = f.len + 1 := by rw [hF1, Cod.F.app_len]; rfl
    have hlz := subG_len z _ hwf.2.2.2.2.2.2.2.1 (leadL_ok hA (ks k') p false)
    have hpo := List.length_pos_iff.2 o.pairs_ne
    have hpz := List.length_pos_iff.2 z.pairs_ne
    have hl' : f.len + 2 * (z.pairs.length + o.pairs.length) ≤ 50000 := by simpa [Tr.pairs] using hl
    have hlead : ∀ s, (leadL (ks k') p s A).length ≤ 1000 := fun s => by have := leadL_len A (ks k') p s; omega
    have hround : ∀ j, j < 2 → ∃ (tj : Tr) (bj : Nat) (sj : Bool), (j = 0 ∧ bj = bz ∨ j = 1 ∧ bj = bo) ∧ Side w0 p k' A F1 S j tj bj sj := by
      intro j hj
      rcases Nat.eq_zero_or_pos j with h0 | h0
      · subst h0
        refine ⟨z, bz, false, .inl ⟨rfl, rfl⟩, by rw [hS]; rfl, rfl, hrz, by show F1.len + 1 ≤ 50000; omega, fun W u lv h1 h2 h3 h4 => iz _ bz W u lv F1 hwf.2.2.2.2.2.2.2.1 (leadL_ok hA _ _ _) (hlead _) hrz h1 h2 h3 h4 ?_⟩
        omega
      · obtain rfl : j = 1 := by omega
        have hacc : (accF F1 S 1).len + 2 * o.pairs.length ≤ 50000 := by
          rw [accF, accF, Cod.F.app_len, hS]
          simp only [if_true]
          omega
        refine ⟨o, bo, true, .inr ⟨rfl, rfl⟩, by rw [hS]; rfl, rfl, hro, by omega, fun W u lv h1 h2 h3 h4 => io _ bo W u lv (accF F1 S 1) hwf.2.2.2.2.2.2.2.2 (leadL_ok hA _ _ _) (hlead _) hro h1 h2 h3 h4 hacc⟩
    have HR := Lib.hid hround
    have HF1 := Lib.hid hF1
    have c0 := cellB hb d0
    have c2 := cellB hb d2
    have c4 := cellB hb d4
    have HB := Lib.hid hb
    have HO := Lib.hid hown
    have HOD : Hid (NOwn w.drew w0.heap.size v f) := Lib.hid (hown.later (Below.refl _ w).drew)
    have HAS := Lib.hid has
    have HAP := Lib.hid hap
    have hsz := hb.size
    have HNE : Hid (v.ownBlock ≠ some b) := Lib.hid (fun e => by have := hown.low b e; have := NodeAt.lt hnode; omega)
    have D2 := Lib.hid d2
    have D4 := Lib.hid d4
    have D5 := Lib.hid d5
    have D6 := Lib.hid d6
    have HN := Lib.hid (fun W => Cod.n_prog (p : Int) W)
    have HL2 := Lib.hid (fun (g : Nat) (W : World) h => l_two 0 p ⟨#[]⟩ 1 0 k' g W ⟨by omega, by omega⟩ ⟨by decide, by decide⟩ (by decide) (by omega) h)
    have hfl : f.len + 1 ≤ 100000 := by omega
    have hP0 : (0 : Int) ≤ (p : Int) := by omega
    have hP1 : (p : Int) ≤ 255 := by omega
    have hwrap : IntKind.u64.wrap (p : Int) = (p : Int) := by rw [IntKind.wrap_u64]; omega
    clear hgoal hS hround hb hown hnode hrz hro d0 d1 d2 d4 d5 d6 hl hl' iz io has hap hF1 hF1l hlz hpo hpz hlead hwf
    unfold pp
    go_enter Tryz.func33, Tryz.ntmps33
    go_wp2_with fail
    go_region_held3 (fun X => X.cell? ⟨b, 4, none⟩ = some (.int .i64 p) ∧ X.cell? ⟨b, 2, none⟩ = some (.string k'))
      (first | exact ⟨c4, c2⟩ | exact hcs7 | exact hcs6 | exact hcs5 | exact hcs4 | exact ⟨cellA _ hcs6.1, cellA _ hcs6.2⟩ | exact ⟨cellA _ hcs5.1, cellA _ hcs5.2⟩)
      (first
        | (go_at_call 66; (with_reducible refine (HN.out _).mono ?_); rintro e w4 ⟨rfl, hb4⟩; unfold nodeV; have hcs4 := And.intro (cellD hb4 c4) (cellD hb4 c2); have HO4 := Lib.hid (HOD.out.later hb4); have HB4 := Lib.hid ((Below.refl _ w).drew.trans hb4))
        | (go_at_call 65; (with_reducible refine (Cod.s_prog k' _).mono ?_); rintro e w5 ⟨rfl, hb5⟩; unfold nodeV; have hcs5 := And.intro (cellB hb5 hcs4.1) (cellB hb5 hcs4.2); have HO5 := Lib.hid (HO4.out.later hb5); have HB5 := Lib.hid (HB4.out.trans (hb5.mono HB4.out.size)))
        | (go_at_call 36; (with_reducible refine (HL2.out _ _ (heap_alloc_new w5 _)).mono ?_); rintro e w6 ⟨a6, m6, rfl, hb6, hk6⟩; have hcs6 := And.intro (cellB hb6 (cellA _ hcs5.1)) (cellB hb6 (cellA _ hcs5.2)); have HA6 := Lib.hid ((Below.refl _ w5).alloc (Nat.le_refl _) (.cells #[.int .i64 0, .int .u64 p, .string ⟨#[]⟩, .slice none 0 0, .int .i64 1, .int .u64 0, .string k', .slice none 0 0] 80)); have HBB6 := Lib.hid (HA6.out.trans (hb6.mono HA6.out.size)); have HO6 := Lib.hid (HO5.out.later HBB6.out); have HB6 := Lib.hid (HB5.out.trans (HBB6.out.mono HB5.out.size)); have HK6 := Lib.hid (kids_fresh _ (.cells #[.int .i64 2, .int .u64 0, .string ⟨#[]⟩, .slice a6 2 m6] 80) HO.out hsz HB5.out.size hk6); have hsz6 : w0.heap.size ≤ (w6.alloc (.cells #[.int .i64 2, .int .u64 0, .string ⟨#[]⟩, .slice a6 2 m6] 80)).heap.size := Nat.le_trans hsz (Nat.le_trans HB6.out.size (alloc_le w6 _)))
        | (refine step_appNode rfl _ _ rfl w0.heap.size v f rfl (HO6.out.later ((Below.refl _ w6).alloc (Nat.le_refl _) _)) w6.heap.size 1 2 0 ⟨#[]⟩ (.slice a6 2 m6) (pairF 0 p ⟨#[]⟩ 1 0 k') rfl (heap_alloc_new w6 _) rfl HK6.out hfl hsz6 ?_; intro v7 w7 hown7 hgr7; have hcs7 := And.intro (Grew.cell hgr7 (cellA _ hcs6.1) HNE.out) (Grew.cell hgr7 (cellA _ hcs6.2) HNE.out)))
    have HG7 : Hid (Grew w v w7 v7) := Lib.hid ((Grew.ofBelow v HB6.out).trans ((Grew.alloc w6 _ v).trans hgr7))
    have HO7 : Hid (NOwn w7 w0.heap.size v7 F1) := Lib.hid (by rw [HF1.out]; exact hown7)
    have HB7 : Hid (Below w0.heap.size w0 w7) := Lib.hid (HB.out.trans (HG7.out.below hsz HO.out.low))
    have HAS7 : Hid (ASl w7 av (A.map toI)) := Lib.hid (HAS.out.grew HG7.out HAP.out)
    have HAP7 : Hid (Apart av (A.map toI) v7) := Lib.hid (HAP.out.grew HAS.out HG7.out)
    have e5 := cellB HB7.out D5.out
    have e6 := cellB HB7.out D6.out
    clear hgr7 hown7 hcs7 hcs6 hcs5 hcs4 c0 c2 c4 hsz6 HK6 HO6 HO5 HO4 HB4 HB5 HB6 HA6 HBB6 HOD
    unfold pp at e5 e6
    go_wp2_with fail
    refine (sides_prog b (some ⟨bz, 0, none⟩) (some ⟨bo, 0, none⟩) w7 e5 e6).mono ?_
    rintro e W3 ⟨g, rfl, hg, hblk3, hb3⟩
    have HB3 : Hid (Below w0.heap.size w0 W3) := Lib.hid (HB7.out.trans (hb3.mono HB7.out.size))
    have HO3 : Hid (NOwn W3 w0.heap.size v7 F1) := Lib.hid (HO7.out.later hb3)
    have HG3 : Hid (Grew w v W3 v7) := Lib.hid (HG7.out.trans (Grew.ofBelow _ hb3))
    have HAS3 : Hid (ASl W3 av (A.map toI)) := Lib.hid (HAS7.out.later hb3)
    have HSB3 := Lib.hid hblk3
    have hgs := block_lt hblk3
    have hNg : Hid (v7.ownBlock ≠ some g) := Lib.hid (fun e => by have := HO7.out.lt g e; omega)
    have hsz3 := HB3.out.size
    clear hb3 hblk3 e5 e6
    go_wp2_with fail
    go_loopw [0, 48] (ShRel F1 S w0.heap.size W3 v7) (fun _ i _ => 2 - (intOf i).toNat)
    case atStart => exact ⟨0, rfl, by omega, HO3, Lib.hid (Grew.refl _ _)⟩
    case round =>
      obtain ⟨j, rfl, hj, hown, hgr⟩ := hrel
      have hj0 : (0 : Int) ≤ (j : Int) := by omega
      have hj1 : (j : Int) ≤ 2 := by omega
      have HBR : Hid (Below w0.heap.size w0 wr) := Lib.hid (HB3.out.trans (hgr.out.below hsz3 HO3.out.low))
      by_cases hlt : j < 2
      · have hltI : (j : Int) < 2 := by omega
        obtain ⟨tj, bj, sj, hjj, hSj, hsj, hrj, hlj, hcall⟩ := HR.out j hlt
        have hsb : wr.heap[g]? = some (.cells #[pp bz, pp bo] 73 (0, 0)) := by rw [hgr.out.block hgs hNg.out]; exact HSB3.out
        have hcj : wr.cell? ⟨g, j, none⟩ = some (pp bj) := by
          rcases hjj with ⟨rfl, rfl⟩ | ⟨rfl, rfl⟩
          · exact (two_cells hsb).1
          · exact (two_cells hsb).2
        have q2 := cellB HBR.out D2.out
        have q4 := cellB HBR.out D4.out
        have HASR : Hid (ASl wr av (A.map toI)) := Lib.hid (HAS3.out.grew hgr.out HAP7.out)
        have HAPR : Hid (Apart av (A.map toI) u0) := Lib.hid (HAP7.out.grew HAS3.out hgr.out)
        have hlead := Lib.hid (leading_prog A av b k' p sj j hsj wr hA hAl HASR.out hk' hp q2 q4)
        have HCALL := Lib.hid hcall
        have HSJ := Lib.hid hSj
        have HSI := Lib.hid hsj
        have HRJ := Lib.hid hrj
        have hsr := HBR.out.size
        have hjb : bj < w0.heap.size := Rep.lt hrj
        obtain ⟨LD, hLD⟩ : ∃ LD, LD = leadL (ks k') p sj A := ⟨_, rfl⟩
        rw [← hLD] at hlead HCALL HSJ
        have hLA : Hid (LD ≠ [] → A.map toI ≠ []) := Lib.hid (fun h e => h (by
          have : A = [] := by simpa using e
          rw [hLD, this]; rfl))
        have hLl : LD.length ≤ 1000 := by rw [hLD]; have := leadL_len A (ks k') p sj; omega
        unfold pp at hlead HCALL hcj
        clear hjj hSj hsj hcall hsb q2 q4 hLD hrj
        have hL0 : (0 : Int) ≤ (LD.length : Int) := by omega
        have hL1 : (LD.length : Int) ≤ 1000 := by omega
        by_cases hempty : LD = []
        · have hI0 : ¬ (0 : Int) < (LD.length : Int) := by rw [hempty]; decide
          have hnext : Hid (accF F1 S (j + 1) = (accF F1 S j).app (.cons 1 0 tj.hash .nil .nil)) := Lib.hid (by rw [accF, HSJ.out, hempty]; rfl)
          clear hempty
          go_wp2_with fail
          refine hlead.out.mono ?_
          rintro e w5 ⟨lv, rfl, hls, hlo, hb5⟩
          obtain ⟨la, lc, rfl, _, _⟩ := hls
          rw [List.length_map]
          have HG5 := Lib.hid (hgr.out.trans (Grew.ofBelow _ hb5))
          have HO5 := Lib.hid (hown.out.later hb5)
          have HB5 := Lib.hid (HBR.out.trans (hb5.mono HBR.out.size))
          have z7 := (Rep.cells (HRJ.out.later (w' := w5) (HB5.out))).2
          clear hb5 hlead hlo
          go_wp2_with fail
          refine (Cod.s_prog tj.hash w5).mono ?_
          rintro e w6 ⟨rfl, hb6⟩
          unfold nodeV
          have HG6 := Lib.hid (HG5.out.trans (Grew.ofBelow _ hb6))
          have HO6 := Lib.hid (HO5.out.later hb6)
          have HB6 := Lib.hid (HB5.out.trans (hb6.mono HB5.out.size))
          have hsz6 := HB6.out.size
          clear hb6 z7
          go_wp2_with (refine list_appNode rfl _ _ rfl w0.heap.size u0 (accF F1 S j) rfl (HO6.out.later ((Below.refl _ w6).alloc (Nat.le_refl _) _)) w6.heap.size 1 1 0 tj.hash (.slice none 0 0) .nil rfl (heap_alloc_new w6 _) rfl (Cod.KidsAt.nil _ _) (by omega) (by simp; omega) ?_)
          intro v8 w8 hown8 hgr8
          have HG8 := Lib.hid (HG6.out.trans ((Grew.alloc w6 _ u0).trans hgr8))
          have HO8 : Hid (NOwn w8 w0.heap.size v8 (accF F1 S (j + 1))) := Lib.hid (by rw [hnext.out]; exact hown8)
          clear hown8 hgr8
          go_wp2_with fail
          go_roundw
          case rel => exact ⟨j + 1, by go_num, by omega, HO8, HG8⟩
          case measure => simp [intOf]; omega
        · have hI0 : (0 : Int) < (LD.length : Int) := by have := List.length_pos_iff.2 hempty; omega
          have hnext : Hid (accF F1 S (j + 1) = (accF F1 S j).app (shownG tj LD)) := Lib.hid (by
            rw [accF, HSJ.out]
            unfold subG
            rw [if_neg (by rw [List.isEmpty_iff]; exact hempty)])
          have HEM := Lib.hid hempty
          clear hempty
          go_wp2_with fail
          refine hlead.out.mono ?_
          rintro e w5 ⟨lv, rfl, hls, hlo, hb5⟩
          have HLS := Lib.hid hls
          obtain ⟨la, lc, rfl, _, _⟩ := hls
          rw [List.length_map]
          have HG5 := Lib.hid (hgr.out.trans (Grew.ofBelow _ hb5))
          have HO5 := Lib.hid (hown.out.later hb5)
          have HB5 := Lib.hid (HBR.out.trans (hb5.mono HBR.out.size))
          have hap5 : Hid (Apart (.slice la (LD.map toI).length lc) (LD.map toI) u0) := Lib.hid (fun hn k hk e => by
            rcases hlo k hk with h | h
            · have := hown.out.lt k e; omega
            · exact HAPR.out (hLA.out HEM.out) k h e)
          have hrec := Lib.hid (HCALL.out w5 u0 (.slice la (LD.map toI).length lc) HB5.out HO5.out HLS.out hap5.out)
          rw [List.length_map] at hrec
          clear hb5 hlead hlo
          go_wp2_with fail
          (with_reducible refine hrec.out.mono ?_)
          rintro e w8 ⟨v8, rfl, hown8, hgr8⟩
          have HG8 := Lib.hid (HG5.out.trans hgr8)
          have HO8 : Hid (NOwn w8 w0.heap.size v8 (accF F1 S (j + 1))) := Lib.hid (by rw [hnext.out]; exact hown8)
          clear hown8 hgr8
          go_wp2_with fail
          go_roundw
          case rel => exact ⟨j + 1, by go_num, by omega, HO8, HG8⟩
          case measure => simp [intOf]; omega
      · have hltI : ¬ (j : Int) < 2 := by omega
        obtain rfl : j = 2 := by omega
        clear hlt
        go_wp2_with fail
        go_ret
        exact ⟨_, rfl, hown.out, HG3.out.trans hgr.out⟩
end Go.Proofs.YtmpjpaomgifpcaaGreatDoor
