/- Tree: the walk. -/
import Derived.Test.YtaojcbdljgcfgaaCShut
import Derived.Test.YtaojcbdljgcfgaaCRk
import Derived.BigRegion
import Derived.Deep.CutBlock
import Derived.Deep.DeepCutAuto
import Derived.Deep.RegionLawGrows
namespace Go.Proofs.Ytaojcbdljgcfgaa
open Go.RowKit

/-- The steps that came in: each reads as a step; they lie below B. -/
def Flats (w : World) (B : Nat) (la : Option Addr) (ln : Nat) : Prop :=
  ln = 0 ∨ ∃ g o, la = some ⟨g, o, none⟩ ∧ g < B ∧ ∀ i, i < ln → ∃ (wh n : Int) (s : ByteArray), (0 ≤ n ∧ n < 18446744073709551616) ∧ s.size ≤ maxLen ∧
    w.cell? ⟨g, o + i * 3, none⟩ = some (.int .i64 wh) ∧ w.cell? ⟨g, o + i * 3 + 1, none⟩ = some (.int .u64 n) ∧ w.cell? ⟨g, o + i * 3 + 2, none⟩ = some (.string s)
def TrRel (w : World) (ln : Nat) (s19 : Value) (wr : World) : Prop :=
  ∃ (i : Nat) (ws : List (Value × F)) (v : Value) (f : F) (ov : Value) (col : Nat → Nat), s19 = .int .i64 i ∧ i ≤ ln ∧ Hid (St wr (w.heap.size + 1) (w.heap.size + 1 + 1) (ws ++ [(v, f)]) ov col) ∧ Hid (stWt (ws ++ [(v, f)]) ≤ 1024 + 1324 * i) ∧ Hid (stNok (ws ++ [(v, f)])) ∧ ws.length ≤ i ∧
    Hid (wr.heap[w.heap.size]? = some (.cells #[.int .i64 0, .int .u64 0, .string ⟨#[]⟩, .slice none 0 0] 27 (0, 0))) ∧ Below w.heap.size w wr

theorem heap_alloc_at3 (w : World) (o1 o2 o3 : Obj) : (((w.alloc o1).alloc o2).alloc o3).heap[w.heap.size + 1 + 1]? = some o3 := by
  have := heap_alloc_new ((w.alloc o1).alloc o2) o3
  simpa using this
theorem heap_lt_of {w : World} {b : Nat} {o : Obj} (h : w.heap[b]? = some o) : b < w.heap.size := by
  rcases Nat.lt_or_ge b w.heap.size with h1 | h1
  · exact h1
  · rw [Array.getElem?_eq_none h1] at h; cases h
set_option maxRecDepth 8000 in
theorem tr_push {w W w2 : World} {ln i go cap g cap3 : Nat} {ws : List (Value × F)} {v : Value} {f : F} {col : Nat → Nat} {cs : List Value} {z0 z1 z2 z3 : Value} (k n : Int) (s : ByteArray)
    (hst : St W (w.heap.size + 1) (w.heap.size + 1 + 1) (ws ++ [(v, f)]) (.slice (some ⟨go, 0, none⟩) (ws.length + 1) cap) col)
    (hcs : CellsOf W (fun b => w.heap.size + 1 ≤ b ∧ b < W.heap.size ∧ col b = 2 * ws.length + 3) f cs) (hvc : ∀ k, v.ownBlock = some k → col k = 2 * ws.length + 2) (hvl : ∀ k, v.ownBlock = some k → w.heap.size + 1 ≤ k)
    (hG : Grew W v w2 (.slice (some ⟨g, 0, none⟩) (f.len + 1) cap3)) (hown : w2.ownsRow (w.heap.size + 1) 27 4 (.slice (some ⟨g, 0, none⟩) (f.len + 1) cap3) (f.len + 1) (cs ++ [z0, z1, z2, z3]))
    (hA : w.heap.size + 1 ≤ go) (hi : i < ln) (hwt : stWt (ws ++ [(v, f)]) ≤ 1024 + 1324 * i) (hnk : stNok (ws ++ [(v, f)])) (hwl : ws.length ≤ i)
    (hz : W.heap[w.heap.size]? = some (.cells #[.int .i64 0, .int .u64 0, .string ⟨#[]⟩, .slice none 0 0] 27 (0, 0))) (hb : Below w.heap.size w W) (hn : 0 ≤ n ∧ n < 18446744073709551616) (hs : s.size ≤ 300) :
    TrRel w ln (.int .i64 ((i : Int) + 1)) ((set4 w2 g (f.len * 4) (.int .i64 k) (.int .u64 n) (.string s) (.slice none 0 0)).setCell ⟨go, ws.length * 4 + 3, none⟩ (.slice (some ⟨g, 0, none⟩) (f.len + 1) cap3)) := by
  obtain ⟨col2, hp⟩ := st_push hst hcs hvc (Below.refl _ _) hG hown (k := k) (n := n) (s := s) (c := .nil) (kv := .slice none 0 0) (.inl ⟨rfl, rfl⟩)
  have hgl := (World.ownsRow.lt hown g rfl).1
  have hsz := hb.size
  refine ⟨i + 1, ws, _, _, _, col2, by simp, by omega, Lib.hid hp, Lib.hid ?_, Lib.hid ?_, by omega, Lib.hid ?_, ?_⟩
  · rw [stWt_app] at hwt ⊢
    simp only [stWt] at hwt ⊢
    rw [wt_app]; simp only [F.wt]; omega
  · rw [stNok_app] at hnk ⊢
    exact ⟨hnk.1, nok_app _ _ hnk.2.1 ⟨hn, trivial, trivial⟩, trivial⟩
  · rw [setCell_ne _ _ _ _ _ (by omega), set4_ne _ _ _ _ _ _ _ _ (by omega), hG.block (heap_lt_of hz) (fun e => by have := hvl _ e; omega)]; exact hz
  · exact (set4_below (hb.trans (hG.below hsz (fun k hk => by have := hvl k hk; omega))) (by omega) _ _ _ _).setCell (by show w.heap.size ≤ go; omega) _

set_option maxRecDepth 8000 in
theorem tr_open {w W w2 : World} {ln i go cap g cap3 : Nat} {ws : List (Value × F)} {v : Value} {f : F} {col : Nat → Nat} {z0 z1 z2 z3 : Value}
    (hst : St W (w.heap.size + 1) (w.heap.size + 1 + 1) (ws ++ [(v, f)]) (.slice (some ⟨go, 0, none⟩) (ws.length + 1) cap) col)
    (hG : Grew W (.slice (some ⟨go, 0, none⟩) (ws.length + 1) cap) w2 (.slice (some ⟨g, 0, none⟩) (ws.length + 1 + 1) cap3)) (hown : w2.ownsRow (w.heap.size + 1) 27 4 (.slice (some ⟨g, 0, none⟩) (ws.length + 1 + 1) cap3) (ws.length + 1 + 1) (stCells (ws ++ [(v, f)]) ++ [z0, z1, z2, z3]))
    (hA : w.heap.size + 1 ≤ go) (hi : i < ln) (hwt : stWt (ws ++ [(v, f)]) ≤ 1024 + 1324 * i) (hnk : stNok (ws ++ [(v, f)])) (hwl : ws.length ≤ i)
    (hz : W.heap[w.heap.size]? = some (.cells #[.int .i64 0, .int .u64 0, .string ⟨#[]⟩, .slice none 0 0] 27 (0, 0))) (hb : Below w.heap.size w W) :
    TrRel w ln (.int .i64 ((i : Int) + 1)) ((set4 w2 g ((ws.length + 1) * 4) (.int .i64 2) (.int .u64 0) (.string ⟨#[]⟩) (.slice none 0 0)).setCell ⟨w.heap.size + 1 + 1, 0, none⟩ (.slice (some ⟨g, 0, none⟩) (ws.length + 1 + 1) cap3)) := by
  have hl : (ws ++ [(v, f)]).length = ws.length + 1 := by simp
  have hgw : ∀ k, (Value.slice (some ⟨go, 0, none⟩) (ws.length + 1) cap).ownBlock = some k → w.heap.size + 1 ≤ k := fun k hk => by
    obtain rfl : go = k := by simpa [Value.ownBlock] using hk
    exact hA
  have hG0 := hG
  rw [← hl] at hst hG hown
  obtain ⟨col2, hp⟩ := st_open hst (Below.refl _ _) hG hown
  rw [hl] at hp hown
  have hgl := (World.ownsRow.lt hown g rfl).1
  have hsz := hb.size
  refine ⟨i + 1, ws ++ [(v, f)], .slice none 0 0, .nil, _, col2, by simp, by omega, Lib.hid hp, Lib.hid ?_, Lib.hid ?_, by rw [hl]; omega, Lib.hid ?_, ?_⟩
  · rw [stWt_app]; simp only [stWt, F.wt]; omega
  · rw [stNok_app]; exact ⟨hnk, trivial, trivial⟩
  · rw [setCell_ne _ _ _ _ _ (by omega), set4_ne _ _ _ _ _ _ _ _ (by omega), hG0.block (heap_lt_of hz) (fun e => by have := hgw _ e; omega)]; exact hz
  · exact (set4_below (hb.trans (hG0.below hsz (fun k hk => by have := hgw k hk; omega))) (by omega) _ _ _ _).setCell (by show w.heap.size ≤ w.heap.size + 1 + 1; omega) _
theorem snoc_cases {α : Type} : ∀ l : List α, l = [] ∨ ∃ l0 p, l = l0 ++ [p]
  | [] => .inl rfl
  | a :: r => by
    rcases snoc_cases r with rfl | ⟨l0, p, rfl⟩
    · exact .inr ⟨[], a, rfl⟩
    · exact .inr ⟨a :: l0, p, rfl⟩
set_option maxRecDepth 8000 in
theorem tr_shut {w W w2 : World} {ln i : Nat} {ws : List (Value × F)} {v1 v v' : Value} {f1 f : F} {ov' : Value} {col' : Nat → Nat}
    (hst : St w2 (w.heap.size + 1) (w.heap.size + 1 + 1) (ws ++ [(v', f1.app (.cons 2 0 ⟨#[]⟩ f .nil))]) ov' col') (hb2 : Below (w.heap.size + 1) W w2)
    (hi : i < ln) (hwt : stWt (ws ++ [(v1, f1), (v, f)]) ≤ 1024 + 1324 * i) (hnk : stNok (ws ++ [(v1, f1), (v, f)])) (hwl : ws.length + 1 ≤ i)
    (hz : W.heap[w.heap.size]? = some (.cells #[.int .i64 0, .int .u64 0, .string ⟨#[]⟩, .slice none 0 0] 27 (0, 0))) (hb : Below w.heap.size w W) :
    TrRel w ln (.int .i64 ((i : Int) + 1)) w2 := by
  rw [stWt_app] at hwt
  rw [stNok_app] at hnk
  refine ⟨i + 1, ws, v', _, ov', col', by simp, by omega, Lib.hid hst, Lib.hid ?_, Lib.hid ?_, by omega, Lib.hid ?_, hb.trans (hb2.mono (by omega))⟩
  · rw [stWt_app]; simp only [stWt] at hwt ⊢
    rw [wt_app]; simp only [F.wt]
    have : (⟨#[]⟩ : ByteArray).size = 0 := rfl
    omega
  · rw [stNok_app]
    exact ⟨hnk.1, nok_app _ _ hnk.2.1 ⟨⟨by omega, by omega⟩, hnk.2.2.1, trivial⟩, trivial⟩
  · rw [hb2.block _ (by omega)]; exact hz

theorem TrRel.drew {w wr : World} {ln : Nat} {x : Value} (h : TrRel w ln x wr) : TrRel w ln x wr.drew := by
  obtain ⟨i, ws, v, f, ov, col, h1, h2, h3, h4, h5, h6, h7, h8⟩ := h
  exact ⟨i, ws, v, f, ov, col, h1, h2, Lib.hid (st_below h3.out (Below.refl _ wr).drew), h4, h5, h6, Lib.hid h7.out, h8.drew⟩
theorem nok_edit {k n n' : Int} {s s' : ByteArray} {c : F} : ∀ h : F, (h.app (.cons k n s c .nil)).nok → (0 ≤ n' ∧ n' < 18446744073709551616) → (h.app (.cons k n' s' c .nil)).nok
  | .nil, h, hn => ⟨hn, h.2.1, trivial⟩
  | .cons _ _ _ _ r, h, hn => ⟨h.1, h.2.1, nok_edit r h.2.2 hn⟩
set_option maxRecDepth 8000 in
theorem tr_edit {w W : World} {ln i g cap : Nat} {ws : List (Value × F)} {h : F} {k n : Int} {s : ByteArray} {c : F} {ov v0 : Value} {col : Nat → Nat} (n' : Int) (s' : ByteArray)
    (hst : St W (w.heap.size + 1) (w.heap.size + 1 + 1) (ws ++ [(.slice (some ⟨g, 0, none⟩) (h.len + 1) cap, h.app (.cons k n s c .nil))]) ov col)
    (hi : i < ln) (hwt : stWt (ws ++ [(v0, h.app (.cons k n s c .nil))]) ≤ 1024 + 1324 * i) (hnk : stNok (ws ++ [(v0, h.app (.cons k n s c .nil))])) (hwl : ws.length ≤ i)
    (hz : W.heap[w.heap.size]? = some (.cells #[.int .i64 0, .int .u64 0, .string ⟨#[]⟩, .slice none 0 0] 27 (0, 0))) (hb : Below w.heap.size w W) (hg : w.heap.size + 1 ≤ g) (hn : 0 ≤ n' ∧ n' < 18446744073709551616) (hs : s'.size ≤ 300) :
    TrRel w ln (.int .i64 ((i : Int) + 1)) ((W.setCell ⟨g, h.len * 4 + 1, none⟩ (.int .u64 n')).setCell ⟨g, h.len * 4 + 2, none⟩ (.string s')) := by
  rw [stWt_app] at hwt
  rw [stNok_app] at hnk
  refine ⟨i + 1, ws, _, _, ov, col, by simp, by omega, Lib.hid (st_edit n' s' hst), Lib.hid ?_, Lib.hid ?_, by omega, Lib.hid ?_, (hb.setCell (by show w.heap.size ≤ g; omega) _).setCell (by show w.heap.size ≤ g; omega) _⟩
  · rw [stWt_app]; simp only [stWt] at hwt ⊢
    rw [wt_app] at hwt ⊢
    simp only [F.wt] at hwt ⊢
    omega
  · rw [stNok_app]
    exact ⟨hnk.1, nok_edit h hnk.2.1 hn, trivial⟩
  · rw [setCell_ne _ _ _ _ _ (by omega), setCell_ne _ _ _ _ _ (by omega)]; exact hz

/-- All steps are taken; what is open is shut. -/
def FinRel (w wr : World) : Prop :=
  ∃ (ws : List (Value × F)) (v : Value) (f : F) (ov : Value) (col : Nat → Nat), Hid (St wr (w.heap.size + 1) (w.heap.size + 1 + 1) (ws ++ [(v, f)]) ov col) ∧ Hid (stWt (ws ++ [(v, f)]) ≤ 81000) ∧ Hid (stNok (ws ++ [(v, f)])) ∧ ws.length ≤ 60 ∧
    Hid (wr.heap[w.heap.size]? = some (.cells #[.int .i64 0, .int .u64 0, .string ⟨#[]⟩, .slice none 0 0] 27 (0, 0))) ∧ Below w.heap.size w wr
def stM (w : World) (g4 : Nat) : Nat := match w.cell? ⟨g4, 0, none⟩ with | some (.slice _ n _) => n | _ => 0

/-- What Tree answers: a list, or nothing. -/
def TreeRes (w : World) (e : Ending) (w' : World) : Prop :=
  Below w.heap.size w w' ∧ ((∃ ka kn kc f, e = .returned (.tuple #[nodeV 2 0 ⟨#[]⟩ (.slice ka kn kc), .bool true]) ∧ KidsAt w' (fun b => w.heap.size ≤ b ∧ b < w'.heap.size) f (.slice ka kn kc) ∧ f.wt ≤ 81000 ∧ f.nok) ∨
    e = .returned (.tuple #[nodeV 0 0 ⟨#[]⟩ (.slice none 0 0), .bool false]))

set_option maxRecDepth 30000 in
set_option maxHeartbeats 4000000 in
theorem tree_prog (la : Option Addr) (ln lc : Nat) (w : World) (hf : Flats w w.heap.size la ln) :
    Calls Try.prog 10 #[.slice la ln lc] w (TreeRes w) := by
  by_cases hbig : 60 < ln
  · have hb : (60 : Int) < (ln : Int) := by omega
    go_enter Try.func10, Try.ntmps10
    go_wp2_with fail
    refine bodyPost_ret (v := .tuple #[nodeV 0 0 ⟨#[]⟩ (.slice none 0 0), .bool false]) (by simp [results, Try.results10, go_sem, nodeV]) rfl ⟨?_, .inr rfl⟩
    exact (Below.refl _ w).alloc (Nat.le_refl _) _
  have hln : ¬ (60 : Int) < (ln : Int) := by omega
  have HF := Lib.hid hf
  clear hf
  go_enter Try.func10, Try.ntmps10
  go_wp2_with fail
  go_loopw [19] (TrRel w ln) (fun i _ => ln - (intOf i).toNat)
  case atStart =>
    refine ⟨0, [], .slice none 0 0, .nil, .slice (some ⟨w.heap.size + 1, 0, none⟩) 1 1, fun b => if b = w.heap.size + 1 then 1 else 0, rfl, by omega, Lib.hid ?_, Lib.hid (by simp [stWt, F.wt]), Lib.hid (by simp [stNok, F.nok]), by simp, Lib.hid ?_, ?_⟩
    · refine ⟨heap_alloc_at3 _ _ _ _, ⟨rfl, .inr ⟨w.heap.size + 1, 1, #[.int .i64 2, .int .u64 0, .string ⟨#[]⟩, .slice none 0 0], rfl, Nat.le_refl _, ?_, Nat.le_refl _, by unfold maxLen; omega, rfl, rfl⟩⟩, fun k hk => ?_, fun j p hp => ?_, ?_, by simp⟩
      · rw [Below.heap_alloc _ _ _ (by simp)]; exact heap_alloc2 w _ _
      · obtain rfl : w.heap.size + 1 = k := by simpa [Value.ownBlock] using hk
        exact if_pos rfl
      · cases j with
        | zero =>
          obtain rfl : p = (.slice none 0 0, .nil) := by simpa using hp.symm
          exact ⟨[], World.ownsRow_nil _ _ _ _, rfl, fun k hk => by simp [Value.ownBlock] at hk⟩
        | succ j => simp at hp
      · exact if_neg (by omega)
    · rw [Below.heap_alloc _ _ _ (by simp; omega), Below.heap_alloc _ _ _ (by simp)]; exact heap_alloc_new w _
    · exact (((Below.refl _ w).alloc (Nat.le_refl _) _).alloc (by simp) _).alloc (by simp; omega) _
  case round =>
    obtain ⟨i, ws, v, f, ov, col, rfl, hi, hst, hwt, hnk, hwl, hz, hb⟩ := hrel
    by_cases hlt : i < ln
    · rcases HF.out with h0 | ⟨gl, ol, rfl, hgl, hfl⟩
      · omega
      obtain ⟨wh, n, s, hn, hs, l0, l1, l2⟩ := hfl i hlt
      have m0 : wr.cell? ⟨gl, ol + i * 3, none⟩ = some (.int .i64 wh) := by rw [hb.cell (p := ⟨gl, ol + i * 3, none⟩) hgl]; exact l0
      have m1 : wr.cell? ⟨gl, ol + i * 3 + 1, none⟩ = some (.int .u64 n) := by rw [hb.cell (p := ⟨gl, ol + i * 3 + 1, none⟩) hgl]; exact l1
      have m2 : wr.cell? ⟨gl, ol + i * 3 + 2, none⟩ = some (.string s) := by rw [hb.cell (p := ⟨gl, ol + i * 3 + 2, none⟩) hgl]; exact l2
      obtain ⟨W, hW⟩ : ∃ W, W = wr.alloc (.cells #[.int .i64 wh, .int .u64 n, .string s] 47) := ⟨_, rfl⟩
      have hWb : Below wr.heap.size wr W := by rw [hW]; exact (Below.refl _ wr).alloc (Nat.le_refl _) _
      have hWs : W.heap.size = wr.heap.size + 1 := by rw [hW]; simp
      have hWS := Lib.hid hWs
      have hHS := Lib.hid (st_below hst.out hWb)
      have hblk : Hid (W.heap[wr.heap.size]? = some (.cells #[.int .i64 wh, .int .u64 n, .string s] 47 (0, 0))) := Lib.hid (by rw [hW]; exact heap_alloc_new wr _)
      have hz' : Hid (W.heap[w.heap.size]? = some (.cells #[.int .i64 0, .int .u64 0, .string ⟨#[]⟩, .slice none 0 0] 27 (0, 0))) := Lib.hid (block_kept hz.out (by have := hst.out.2.2.2.2.2; omega) hWb)
      have hbW : Hid (Below w.heap.size w W) := Lib.hid (hb.trans (hWb.mono hb.size))
      obtain ⟨go, cap, rfl, hAgo, hgo, hcgo, t0, t1, t2, t3, t4, tf, tf4, hop⟩ := st_top hst.out
      have hi0 : (0 : Int) ≤ (i : Int) := by omega
      have hi60 : (i : Int) ≤ 60 := by omega
      have hwl0 : (0 : Int) ≤ (ws.length : Int) := by omega
      have hwl60 : (ws.length : Int) ≤ 60 := by omega
      have hg4lt : w.heap.size + 1 + 1 < wr.heap.size := hst.out.2.2.2.2.2
      clear l0 l1 l2 hop tf hfl hWs hWb
      go_upto_block 1 with (fail)
      go_cut [7, 8, 9] from 20 to 108 (fun _s7 _s8 _s9 wx => TrRel w ln (.int .i64 ((i : Int) + 1)) wx)
      case rest =>
        have HC := Lib.hid hcut
        clear hcut
        go_wp2_with fail
        go_roundw
        case rel => exact HC.out
        case measure => rw [intOf_int, intOf_int]; omega
      by_cases hs300 : 300 < s.size
      · have hs3 : (300 : Int) < (s.size : Int) := by omega
        have hrlt : w.heap.size < wr.heap.size := by omega
        obtain ⟨c0, c1, c2, c3, f0, f1, f2, f3⟩ := block4 hz.out
        go_wp2_with fail
        refine bodyPost_ret (v := .tuple #[nodeV 0 0 ⟨#[]⟩ (.slice none 0 0), .bool false]) (by simp [results, Try.results10, go_sem, nodeV, c0, c1, c2, c3, hrlt]) rfl ⟨?_, .inr rfl⟩
        exact ((((hb.setCell (Nat.le_refl _) _).setCell (Nat.le_refl _) _).setCell (Nat.le_refl _) _).setCell (Nat.le_refl _) _).alloc (by simp only [size_setCell]; omega) _
      have hs3 : ¬ (300 : Int) < (s.size : Int) := by omega
      go_upto_block 2 with (fail)
      rw [← hW]
      clear t0 t1 t2 t3 t4 tf4 hcgo m0 m1 m2
      obtain ⟨go2, cap2, he, _, _, hcgo, t0, t1, t2, t3, t4, tf, tf4, hop⟩ := st_top hHS.out
      injection he with e1 e2 e3
      injection e1 with e1
      injection e1 with e1
      subst e1 e3
      obtain ⟨cs, k1, k2, k3⟩ := hop
      obtain ⟨va, vc, rfl⟩ := own_shape k1
      have x0 : W.cell? ⟨wr.heap.size, 0, none⟩ = some (.int .i64 wh) := by simp [World.cell?, hblk.out]
      have x1 : W.cell? ⟨wr.heap.size, 1, none⟩ = some (.int .u64 n) := by simp [World.cell?, hblk.out]
      have x2 : W.cell? ⟨wr.heap.size, 2, none⟩ = some (.string s) := by simp [World.cell?, hblk.out]
      have hflw : f.len ≤ 100000 := by
        have h1 := hwt.out
        rw [stWt_app] at h1
        have := wt_len f
        simp only [stWt] at h1; omega
      have hf0 : (0 : Int) ≤ (f.len : Int) := by omega
      have hf1 : (f.len : Int) < (f.len : Int) + 1 := by omega
      have hfI : (f.len : Int) ≤ 100000 := by omega
      have hne : Hid ((Value.slice va f.len vc).ownBlock ≠ some go) := Lib.hid (fun h => by have := k3 go h; omega)
      have K1 := Lib.hid k1
      have K2 := Lib.hid k2
      have K3 := Lib.hid k3
      have HCL : Hid (cs.length = f.len * 4) := Lib.hid k1.1
      have tf3 := tf (ws.length * 4 + 3)
      have TF := Lib.hid tf
      have hxW : wr.heap.size < W.heap.size := by have := hWS.out; omega
      have hgoW : go < W.heap.size := by omega
      have HGOW := Lib.hid hgoW
      have HAW : Hid (w.heap.size + 1 ≤ W.heap.size) := Lib.hid (by omega)
      have T0 := Lib.hid t0
      clear k1 k2 k3 t0 t1 t2 t3 tf hW
      by_cases h0 : wh = 0
      · subst h0
        go_wp2_with fail
        go_region_law (refine step_appN Try.nodeSl rfl _ _ (by rfl) (w.heap.size + 1) _ f.len cs (by rfl) ((K1.out.alloc _).drew) W.heap.size 1 1 [.int .i64 0, .int .u64 0, .string ⟨#[]⟩, .slice none 0 0] (by rfl) (heap_at_alloc W _) rfl (by simp [Value.oneCell']) (by omega) (by unfold maxLen; omega) (by omega) (by have := HAW.out; simp [World.drew]; omega) ?_; intro g cap3 w2 hown2 hb2; have G2 : Grew W (.slice va f.len vc) w2 _ := ((Grew.alloc _ _ _).trans (Grew.drew _ _)).trans hb2; obtain ⟨Z0, Z1, Z2, Z3, Y0, Y1, Y2, Y3⟩ := own_new hown2 HCL.out; have T4 := G2.cell t4 hne.out; have TF3 := frozen_ofG G2 HGOW.out hne.out tf3; have HGG : g ≠ go := fun e => grew_ne G2 HGOW.out hne.out (by rw [e]; rfl))
        all_goals
          (have hq := push_forms (fun w' => TrRel w ln (.int .i64 ((i : Int) + 1)) w') _ _ _ _ _ _ _ _ _ _ HGG (tr_push 0 n ⟨#[]⟩ hHS.out K2.out K3.out (fun k hk => (World.ownsRow.lt K1.out k hk).1) G2 hown2 hAgo hlt hwt.out hnk.out hwl hz'.out hbW.out hn (by show 0 ≤ 300; omega))
           have HQ := Lib.hid hq
           clear hq Z0 Z1 Z2 Z3 Y0 Y1 Y2 Y3 T4 TF3 hb2 G2 hown2
           go_wp2_with fail
           go_meet
           first
             | with_reducible exact HQ.out.1
             | with_reducible exact HQ.out.2)
      by_cases h1 : wh = 1
      · subst h1
        go_wp2_with fail
        go_region_law (refine step_appN Try.nodeSl rfl _ _ (by rfl) (w.heap.size + 1) _ f.len cs (by rfl) ((K1.out.alloc _).drew) W.heap.size 1 1 [.int .i64 0, .int .u64 0, .string ⟨#[]⟩, .slice none 0 0] (by rfl) (heap_at_alloc W _) rfl (by simp [Value.oneCell']) (by omega) (by unfold maxLen; omega) (by omega) (by have := HAW.out; simp [World.drew]; omega) ?_; intro g cap3 w2 hown2 hb2; have G2 : Grew W (.slice va f.len vc) w2 _ := ((Grew.alloc _ _ _).trans (Grew.drew _ _)).trans hb2; obtain ⟨Z0, Z1, Z2, Z3, Y0, Y1, Y2, Y3⟩ := own_new hown2 HCL.out; have T4 := G2.cell t4 hne.out; have TF3 := frozen_ofG G2 HGOW.out hne.out tf3; have HGG : g ≠ go := fun e => grew_ne G2 HGOW.out hne.out (by rw [e]; rfl))
        all_goals
          (have hq := push_forms (fun w' => TrRel w ln (.int .i64 ((i : Int) + 1)) w') _ _ _ _ _ _ _ _ _ _ HGG (tr_push 1 0 s hHS.out K2.out K3.out (fun k hk => (World.ownsRow.lt K1.out k hk).1) G2 hown2 hAgo hlt hwt.out hnk.out hwl hz'.out hbW.out ⟨by omega, by omega⟩ (by omega))
           have HQ := Lib.hid hq
           clear hq Z0 Z1 Z2 Z3 Y0 Y1 Y2 Y3 T4 TF3 hb2 G2 hown2
           go_wp2_with fail
           go_meet
           first
             | with_reducible exact HQ.out.1
             | with_reducible exact HQ.out.2)
      have hrel2 : Hid (TrRel w ln (.int .i64 ((i : Int) + 1)) W) := Lib.hid ⟨i + 1, ws, _, f, _, col, by simp, by omega, Lib.hid hHS.out, Lib.hid (by have := hwt.out; omega), Lib.hid hnk.out, by omega, Lib.hid hz'.out, hbW.out⟩
      by_cases h2 : wh = 2
      · subst h2
        have OWN : Hid (W.ownsRow (w.heap.size + 1) 27 4 (.slice (some ⟨go, 0, none⟩) (ws.length + 1) cap) (ws.length + 1) (stCells (ws ++ [(.slice va f.len vc, f)]))) := Lib.hid (by have := hHS.out.2.1; simpa using this)
        have tg := T0.out
        have hg4W : w.heap.size + 1 + 1 < W.heap.size := by omega
        have HG4W := Lib.hid hg4W
        have hneg : Hid ((Value.slice (some ⟨go, 0, none⟩) (ws.length + 1) cap).ownBlock ≠ some (w.heap.size + 1 + 1)) := Lib.hid (fun h => by
          have h1 : go = w.heap.size + 1 + 1 := by simpa [Value.ownBlock] using h
          have h2 := hHS.out.2.2.2.2.1
          rw [← h1, hcgo] at h2; cases h2)
        have HSL : Hid ((stCells (ws ++ [(Value.slice va f.len vc, f)])).length = (ws.length + 1) * 4) := Lib.hid (by rw [stCells_len]; simp)
        have hws1 : (ws.length : Int) + 1 < (ws.length : Int) + 1 + 1 := by omega
        have hws2 : 0 ≤ (ws.length : Int) + 1 := by omega
        clear hgoW HGOW TF tf3 hne HCL
        go_wp2_with fail
        go_region_law (refine step_appN Try.nodeSl rfl _ _ (by rfl) (w.heap.size + 1) _ (ws.length + 1) (stCells (ws ++ [(.slice va f.len vc, f)])) (by rfl) ((OWN.out.alloc _).drew) W.heap.size 1 1 [.int .i64 0, .int .u64 0, .string ⟨#[]⟩, .slice none 0 0] (by rfl) (heap_at_alloc W _) rfl (by simp [Value.oneCell']) (by omega) (by unfold maxLen; omega) (by omega) (by have := HAW.out; simp [World.drew]; omega) ?_; intro g cap3 w2 hown2 hb2; have G2 : Grew W (.slice (some ⟨go, 0, none⟩) (ws.length + 1) cap) w2 _ := ((Grew.alloc _ _ _).trans (Grew.drew _ _)).trans hb2; obtain ⟨Z0, Z1, Z2, Z3, Y0, Y1, Y2, Y3⟩ := own_new hown2 HSL.out; have T4 := G2.cell tg hneg.out; have TF3 := frozen_ofG G2 HG4W.out hneg.out tf4; have HGG : g ≠ w.heap.size + 1 + 1 := fun e => grew_ne G2 HG4W.out hneg.out (by rw [e]; rfl))
        all_goals
          (have hq := push_forms (fun w' => TrRel w ln (.int .i64 ((i : Int) + 1)) w') _ _ _ _ _ _ _ _ _ _ HGG (tr_open hHS.out G2 hown2 hAgo hlt hwt.out hnk.out hwl hz'.out hbW.out)
           have HQ := Lib.hid hq
           clear hq Z0 Z1 Z2 Z3 Y0 Y1 Y2 Y3 T4 TF3 hb2 G2 hown2
           go_wp2_with fail
           go_meet
           first
             | with_reducible exact HQ.out.1
             | with_reducible exact HQ.out.2)
      by_cases h3 : wh = 3
      · subst h3
        have tg := T0.out
        rcases snoc_cases ws with h0 | ⟨ws0, ⟨v1, f1⟩, h0⟩
        · have hws : (ws.length : Int) = 0 := by rw [h0]; rfl
          have hws1 : ¬ (1 : Int) < (ws.length : Int) + 1 := by omega
          have HWS := Lib.hid hws
          clear hws h0
          go_wp2_with fail
          go_meet
          exact hrel2.out
        · have hws1 : (1 : Int) < (ws.length : Int) + 1 := by rw [h0]; simp; omega
          have HE := Lib.hid h0
          have hst3 : Hid (St W (w.heap.size + 1) (w.heap.size + 1 + 1) (ws0 ++ [(v1, f1), (.slice va f.len vc, f)]) (.slice (some ⟨go, 0, none⟩) (ws.length + 1) cap) col) := Lib.hid (by have := hHS.out; rw [HE.out] at this ⊢; simpa using this)
          have hwt3 : Hid (stWt (ws0 ++ [(v1, f1), (.slice va f.len vc, f)]) ≤ 1024 + 1324 * i) := Lib.hid (by have := hwt.out; rw [HE.out] at this; simpa using this)
          have hnk3 : Hid (stNok (ws0 ++ [(v1, f1), (.slice va f.len vc, f)])) := Lib.hid (by have := hnk.out; rw [HE.out] at this; simpa using this)
          have hwl3 : Hid (ws0.length + 1 ≤ i) := Lib.hid (by have := hwl; rw [HE.out] at this; simpa using this)
          have hsh := Lib.hid (shut_ok (B := w.heap.size + 1) hst3.out (by omega) (by omega) (by omega) (by omega) (by have := hwl3.out; omega) (by
            have := hwt3.out
            rw [stWt_app] at this
            simp only [stWt] at this
            have := wt_len f1; omega))
          clear h0
          go_wp2_with fail
          refine hsh.out.mono ?_
          rintro e w3 ⟨rfl, hb3, ov', v', col', hst'⟩
          go_wp2_with fail
          go_meet
          exact tr_shut hst' hb3 hlt hwt3.out hnk3.out hwl3.out hz'.out hbW.out
      by_cases h4 : wh = 4
      · subst h4
        by_cases hf0 : f.len = 0
        · have hfe : (f.len : Int) = 0 := by omega
          have hfn : ¬ (0 : Int) < (f.len : Int) := by omega
          have HF0 := Lib.hid hf0
          clear hfe hf0
          go_wp2_with fail
          go_meet
          exact hrel2.out
        · obtain ⟨h, k0, n0, s0, c, hfl⟩ := F.last f (by omega)
          obtain ⟨g, hvg⟩ : ∃ g, va = some ⟨g, 0, none⟩ := by
            obtain ⟨g, cp, e, _⟩ := K1.out.form (by omega)
            injection e with e1 _ _
            exact ⟨g, e1⟩
          have hm : f.len = h.len + 1 := by rw [hfl, F.app_len]; rfl
          obtain ⟨cs0, kv, hcs, hc0, _⟩ := CellsOf.unsnoc h cs (by rw [← hfl]; exact K2.out)
          have hl0 := CellsOf.length h cs0 hc0
          subst hvg
          have q1 : W.cell? ⟨g, (f.len - 1) * 4 + 1, none⟩ = some (.int .u64 n0) := own_cell K1.out _ _ (by rw [hcs, show f.len - 1 = h.len by omega]; exact snoc_get hl0 1 _ rfl)
          have q2 : W.cell? ⟨g, (f.len - 1) * 4 + 2, none⟩ = some (.string s0) := own_cell K1.out _ _ (by rw [hcs, show f.len - 1 = h.len by omega]; exact snoc_get hl0 2 _ rfl)
          have z1 : W.frozen? ⟨g, (f.len - 1) * 4 + 1, none⟩ = false := own_frozen K1.out _
          have z2 : W.frozen? ⟨g, (f.len - 1) * 4 + 2, none⟩ = false := own_frozen K1.out _
          have hstm : Hid (St W (w.heap.size + 1) (w.heap.size + 1 + 1) (ws ++ [(.slice (some ⟨g, 0, none⟩) (h.len + 1) vc, h.app (.cons k0 n0 s0 c .nil))]) (.slice (some ⟨go, 0, none⟩) (ws.length + 1) cap) col) := Lib.hid (by have := hHS.out; rw [hm, hfl] at this; exact this)
          have hfp : (0 : Int) < (f.len : Int) := by omega
          have hfq : (0 : Int) ≤ (f.len : Int) - 1 := by omega
          have hfr : (f.len : Int) - 1 < (f.len : Int) := by omega
          have HFL := Lib.hid hfl
          have HM := Lib.hid hm
          clear hfl hm hcs hl0 hf0
          have hggo : g ≠ go := fun e => hne.out (by rw [e]; rfl)
          have hgx : g ≠ wr.heap.size := fun e => by
            obtain ⟨_, _, _, _, _, _, _, _, _, _, _, _, _, cs9, u1, _⟩ := st_top hst.out
            have := (World.ownsRow.lt u1 g rfl).2
            omega
          have hggo' : go ≠ g := Ne.symm hggo
          have hgx' : wr.heap.size ≠ g := Ne.symm hgx
          go_wp2_with fail
          go_region
          have HT := Lib.hid (tr_edit n s hstm.out hlt (by have := hwt.out; rw [HFL.out] at this; exact this) (by have := hnk.out; rw [HFL.out] at this; exact this) hwl hz'.out hbW.out (World.ownsRow.lt K1.out g rfl).1 hn (by omega))
          have HML : Hid (f.len - 1 = h.len) := Lib.hid (by have := HM.out; omega)
          go_wp2_with fail
          go_meet
          rw [HML.out]
          exact HT.out.drew
      go_wp2_with fail
      go_meet
      exact hrel2.out
    · have hltI : ¬ (i : Int) < (ln : Int) := by omega
      have hwl60 : ws.length ≤ 60 := by omega
      have hwt2 : Hid (stWt (ws ++ [(v, f)]) ≤ 81000) := Lib.hid (by have := hwt.out; omega)
      clear hwt hwl
      go_wp2_with fail
      go_loopw [110] (fun _ wx => FinRel w wx) (fun _ wx => stM wx (w.heap.size + 1 + 1))
      case atStart => exact ⟨ws, v, f, ov, col, hst, hwt2, hnk, hwl60, hz, hb⟩
      case round =>
        clear hst hwt2 hnk hwl60 hz hb
        obtain ⟨ws, v, f, ov, col, hst, hwt, hnk, hwl, hz, hb⟩ := hrel
        obtain ⟨go, cap, rfl, hAgo, hgo, hcgo, t0, t1, t2, t3, t4, tf, tf4, hop⟩ := st_top hst.out
        obtain ⟨cs, k1, k2, k3⟩ := hop
        obtain ⟨va, vc, rfl⟩ := own_shape k1
        have hM : stM wr (w.heap.size + 1 + 1) = ws.length + 1 := by unfold stM; rw [t0]
        rw [hM]
        clear hM
        rcases snoc_cases ws with h0 | ⟨ws0, ⟨v1, f1⟩, h0⟩
        · have hws0 : ws.length = 0 := by rw [h0]; rfl
          rw [hws0, Nat.zero_mul] at t1 t2 t3 t4
          have hws1 : ¬ (1 : Int) < (ws.length : Int) + 1 := by omega
          have hws2 : (0 : Int) < (ws.length : Int) + 1 := by omega
          have hkid : Hid (KidsAt wr (fun b => w.heap.size + 1 ≤ b ∧ b < wr.heap.size) f (.slice va f.len vc)) := Lib.hid (kids_of_own k1 k2 (fun b hb => ⟨hb.1, hb.2.1⟩) (fun k hk => World.ownsRow.lt k1 k hk))
          obtain ⟨c0, c1, c2, c3, f0, f1, f2, f3⟩ := block4 hz.out
          have hfin : Hid (f.wt ≤ 81000 ∧ f.nok) := Lib.hid ⟨by have := hwt.out; rw [stWt_app] at this; simp only [stWt] at this; omega, by have := hnk.out; rw [stNok_app] at this; exact this.2.1⟩
          have HB := Lib.hid hb
          have hrlt : w.heap.size < wr.heap.size := by have := hst.out.2.2.2.2.2; omega
          clear hws0 h0 k1 k2 k3 hst hwt hnk
          go_wp2_with fail
          refine bodyPost_ret (v := .tuple #[nodeV 2 0 ⟨#[]⟩ (.slice va f.len vc), .bool true]) (by simp [results, Try.results10, go_sem, nodeV, c0, c1, c2, c3]) rfl ⟨?_, .inl ⟨va, f.len, vc, f, rfl, ?_, hfin.out.1, hfin.out.2⟩⟩
          · exact (((HB.out.setCell (Nat.le_refl _) _).setCell (Nat.le_refl _) _).setCell (Nat.le_refl _) _).setCell (Nat.le_refl _) _
          · refine hkid.out.mono (fun b hb => ⟨by omega, by simp only [size_setCell]; exact hb.2⟩) (fun b hb => ?_)
            have hne : b ≠ w.heap.size := by omega
            rw [setCell_ne _ _ _ _ _ hne, setCell_ne _ _ _ _ _ hne, setCell_ne _ _ _ _ _ hne, setCell_ne _ _ _ _ _ hne]
        · have hws1 : (1 : Int) < (ws.length : Int) + 1 := by rw [h0]; simp; omega
          have HE := Lib.hid h0
          have hst3 : Hid (St wr (w.heap.size + 1) (w.heap.size + 1 + 1) (ws0 ++ [(v1, f1), (.slice va f.len vc, f)]) (.slice (some ⟨go, 0, none⟩) (ws.length + 1) cap) col) := Lib.hid (by have := hst.out; rw [HE.out] at this ⊢; simpa using this)
          have hwt3 : Hid (stWt (ws0 ++ [(v1, f1), (.slice va f.len vc, f)]) ≤ 81000) := Lib.hid (by have := hwt.out; rw [HE.out] at this; simpa using this)
          have hnk3 : Hid (stNok (ws0 ++ [(v1, f1), (.slice va f.len vc, f)])) := Lib.hid (by have := hnk.out; rw [HE.out] at this; simpa using this)
          have hwl3 : Hid (ws0.length + 1 = ws.length) := Lib.hid (by rw [HE.out]; simp)
          have hsz := hst.out.2.2.2.2.2
          have hsh := Lib.hid (shut_ok (B := w.heap.size + 1) hst3.out (by omega) (by omega) (by omega) (by omega) (by have := hwl3.out; omega) (by
            have := hwt3.out
            rw [stWt_app] at this
            simp only [stWt] at this
            have := wt_len f1; omega))
          clear h0 k1 k2 k3 hst hwt hnk
          go_wp2_with fail
          refine hsh.out.mono ?_
          rintro e w3 ⟨rfl, hb3, ov', v', col', hst'⟩
          have hM2 : stM w3 (w.heap.size + 1 + 1) = ws0.length + 1 := by
            obtain ⟨go9, cap9, rfl, _, _, _, y0, _⟩ := st_top hst'
            unfold stM; rw [y0]
          have HM2 := Lib.hid hM2
          clear hM2
          go_wp2_with fail
          go_roundw
          case rel => exact ⟨ws0, v', _, ov', col', Lib.hid hst', Lib.hid (by have := hwt3.out; rw [stWt_app] at this ⊢; simp only [stWt] at this ⊢; rw [wt_app]; simp only [F.wt]; have h9 : (⟨#[]⟩ : ByteArray).size = 0 := rfl; omega),
            Lib.hid (by have := hnk3.out; rw [stNok_app] at this ⊢; exact ⟨this.1, nok_app _ _ this.2.1 ⟨⟨by omega, by omega⟩, this.2.2.1, trivial⟩, trivial⟩), by have := hwl3.out; omega, Lib.hid (by rw [hb3.block _ (by omega)]; exact hz.out), hb.trans (hb3.mono (by omega))⟩
          case measure => have := HM2.out; have := hwl3.out; omega
end Go.Proofs.Ytaojcbdljgcfgaa
