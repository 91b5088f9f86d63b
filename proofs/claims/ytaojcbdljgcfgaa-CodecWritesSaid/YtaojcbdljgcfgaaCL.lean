/- codec.L: ends, slices.Clone, copied. -/
import Derived.Test.YtaojcbdljgcfgaaCOwn
import Derived.Test.YtaojcbdljgcfgaaCFn
namespace Go.Proofs.Ytaojcbdljgcfgaa
open Go.RowKit

def EndsOk (D : Nat) : Prop := ∀ (f : F) (kv : Value) (lv : Int) (S : Nat → Prop) (w : World), f.deep < D → Lim f.len → f.ok → 1 ≤ lv → lv + f.deep ≤ 60000 → KidsAt w S f kv →
  Calls Try.prog 31 #[kv, .int .i64 lv] w fun e w' => e = .returned (.bool true) ∧ w = w'

set_option maxRecDepth 30000 in
set_option maxHeartbeats 1000000 in
theorem ends_step (D : Nat) (IH : EndsOk D) : EndsOk (D + 1) := by
  intro f kv lv S w hD hlen hok hl1 hl2 hk
  have HIH := Lib.hid IH
  have HK := Lib.hid hk
  have HOK := Lib.hid hok
  obtain ⟨ka, kc, rfl⟩ := hk.shape
  have hlI : (f.len : Int) ≤ 268435456 := by unfold Lim at hlen; omega
  clear IH hk hok
  go_enter Try.func31, Try.ntmps31
  go_wp2_with fail
  go_loop [8] (fun i => ∃ k : Nat, k ≤ f.len ∧ i = .int .i64 k) (fun i => f.len - (intOf i).toNat)
  case atStart => exact ⟨0, by omega, rfl⟩
  case round =>
    obtain ⟨k, hk, rfl⟩ := hrel
    by_cases hlt : k < f.len
    · have hk0 : (0 : Int) ≤ (k : Int) := by omega
      obtain ⟨g, o, cap, hkv, hgB, hl⟩ := HK.out.lies (by omega)
      injection hkv with e1 _ e2
      subst e1 e2
      obtain ⟨k', n', s', c', hdrop⟩ := F.drop_at f k hlt
      have hli := Lies.drop k f g o hl
      rw [hdrop] at hli
      obtain ⟨⟨kv', l0, l1, l2, l3, hk'⟩, _⟩ := lies_cons.1 hli
      obtain ⟨ka', kc', rfl⟩ := hk'.shape
      have hdeep : c'.deep + 1 ≤ f.deep := by
        have e1 := F.drop_deep f k
        rw [hdrop] at e1
        simp only [F.deep] at e1
        omega
      have hok' := F.drop_ok f k HOK.out
      rw [hdrop] at hok'
      by_cases hc0 : c'.len = 0
      · have hz : decide ((0 : Int) < (c'.len : Int)) = false := by simp; omega
        have hzz : ¬ (0 : Int) < (c'.len : Int) := by omega
        clear hli hl hk' hdrop hok'
        go_wp2_with fail
        go_round
        case rel => exact ⟨k + 1, by omega, by go_num⟩
        case measure => rw [intOf_int, intOf_int]; omega
      · have hz : (0 : Int) < (c'.len : Int) := by omega
        have hlv : (lv == 65536) = false := by simp; omega
        have hlv2 : lv ≤ 60000 := by omega
        have hlv3 : 0 ≤ lv := by omega
        have hcall := Lib.hid (HIH.out c' (.slice ka' c'.len kc') (lv + 1) S w (by omega) hok'.2.2.1 hok'.2.2.2.1 (by omega) (by omega) hk')
        clear hli hl hk' hdrop hok' hdeep hl2
        go_wp2_with fail
        refine hcall.out.mono ?_
        rintro e w' ⟨rfl, rfl⟩
        go_wp2_with fail
        go_round
        case rel => exact ⟨k + 1, by omega, by go_num⟩
        case measure => rw [intOf_int, intOf_int]; omega
    · obtain rfl : k = f.len := by omega
      go_wp2
      go_ret
      exact ⟨rfl, rfl⟩

theorem ends_ok (D : Nat) : EndsOk D := by
  induction D with
  | zero => intro _ _ _ _ _ h; exact absurd h (Nat.not_lt_zero _)
  | succ D ih => exact ends_step D ih

theorem cells_of_lies {w : World} {S : Nat → Prop} (f : F) : ∀ (g o : Nat), Lies w S f g o → ∃ cs, CellsOf w S f cs ∧ (∀ j u, cs[j]? = some u → w.cell? ⟨g, o + j, none⟩ = some u) ∧ (∀ u ∈ cs, u.oneCell' = true) := by
  induction f with
  | nil => intro g o _; exact ⟨[], rfl, by simp, by simp⟩
  | cons k n s c r _ ih =>
    intro g o h
    obtain ⟨⟨v, h1, h2, h3, h4, hk⟩, hr⟩ := lies_cons.1 h
    obtain ⟨cs, e1, e2, e3⟩ := ih g (o + 4) hr
    obtain ⟨a, cap, rfl⟩ := hk.shape
    refine ⟨.int .i64 k :: .int .u64 n :: .string s :: .slice a c.len cap :: cs, ⟨_, cs, rfl, hk, e1⟩, fun j u hj => ?_, fun u hu => ?_⟩
    · rcases j with _ | _ | _ | _ | j
      · simp at hj; rw [← hj]; exact h1
      · simp at hj; rw [← hj]; exact h2
      · simp at hj; rw [← hj]; exact h3
      · simp at hj; rw [← hj]; exact h4
      · have := e2 j u (by simpa using hj)
        rwa [show o + 4 + j = o + (j + 1 + 1 + 1 + 1) by omega] at this
    · simp only [List.mem_cons] at hu
      rcases hu with hu | hu | hu | hu | hu
      · rw [hu]; rfl
      · rw [hu]; rfl
      · rw [hu]; rfl
      · rw [hu]; rfl
      · exact e3 u hu

theorem cell_alloc {w : World} {a : Addr} {u : Value} {ob : Obj} (h : w.cell? a = some u) : (w.alloc ob).cell? a = some u := by
  rw [World.cell?_alloc_some w a ob (by rw [h]; rfl)]; exact h
theorem cell_add {w : World} {g o j : Nat} {u : Value} (h : w.cell? ⟨g, o + j, none⟩ = some u) : w.cell? ((⟨g, o, none⟩ : Addr).add j) = some u := by
  unfold Addr.add
  split
  · rename_i h0; subst h0; exact h
  · exact h

set_option maxRecDepth 30000 in
set_option maxHeartbeats 1000000 in
theorem sclone_prog (f : F) (g o kc : Nat) (S : Nat → Prop) (w : World) (h0 : 0 < f.len) (hlen : f.len < 268435456) (cs : List Value) (hcs : CellsOf w S f cs) (hat : ∀ j u, cs[j]? = some u → w.cell? ⟨g, o + j, none⟩ = some u) (h1 : ∀ u ∈ cs, u.oneCell' = true) :
    Calls Try.prog 32 #[.slice (some ⟨g, o, none⟩) f.len kc] w fun e w' => ∃ gn cap, e = .returned (.slice (some ⟨gn, 0, none⟩) f.len cap) ∧ Below w.heap.size w w' ∧
      w'.ownsRow w.heap.size 27 4 (.slice (some ⟨gn, 0, none⟩) f.len cap) f.len cs := by
  have hl := hcs.length
  have HL := Lib.hid hl
  have HAT := Lib.hid hat
  have H1 := Lib.hid h1
  have hlI : (f.len : Int) ≤ 268435456 := by omega
  have q25 : ∀ W, (binOp .eql 25 (.slice (some ⟨g, o, none⟩) f.len kc) (.slice none 0 0)).run Try.prog W = .ok (.bool false) W := fun W => Lib.run_eql_slice_some_nil W _ _ _ Try.underlying25
  clear hat h1 hl hcs
  go_enter Try.func32, Try.ntmps32
  obtain ⟨i0, hi, hz0, hz1, hz2⟩ := info_parts Try.nodeSl.info
  go_wp2_with (at_builtin; refine wpList_append_lies _ rfl _ _ _ rfl w.heap.size 27 i0 _ 4 56 Try.nodeSl.und hi hz0 hz1 hz2 Try.nodeSl.zc Try.nodeSl.pos _ 0 [] rfl (World.ownsRow_made w #[] 0 (Nat.le_refl _) (by decide) rfl) ⟨g, o, none⟩ f.len kc cs rfl HL.out (fun j u hu => cell_add (cell_alloc (HAT.out j u hu))) H1.out h0 (by unfold maxLen; omega) (by omega) (by simp) _ rfl ?_; intro gn cap w' h2 h3 h4 h5)
  go_ret
  have hb : Below w.heap.size w w' := ((Below.refl _ w).alloc (Nat.le_refl _) _).grown h3 (by simp) (fun k hk => by
    have h' : some w.heap.size = some k := hk
    have := Option.some.inj h'
    omega)
  simp only [Nat.zero_add, List.nil_append] at h2
  exact ⟨gn, cap, by simp, hb, h2⟩

def CpRes (f : F) (w : World) (e : Ending) (w' : World) : Prop :=
  ∃ a cap, e = .returned (.slice a f.len cap) ∧ Below w.heap.size w w' ∧ KidsAt w' (fun b => w.heap.size ≤ b ∧ b < w'.heap.size) f (.slice a f.len cap)
def CopiedOk (D : Nat) : Prop := ∀ (f : F) (kv : Value) (S : Nat → Prop) (w : World), f.deep < D → Lim f.len → f.ok → KidsAt w S f kv → (∀ b, S b → b < w.heap.size) →
  Calls Try.prog 33 #[kv] w (CpRes f w)

/-- The first nodes have kids of their own, the others have the old ones. -/
def CpRel (f : F) (S : Nat → Prop) (w : World) (gn cap : Nat) (i : Value) (wr : World) : Prop :=
  ∃ (k : Nat) (f1 f2 : F) (c1 c2 : List Value) (cur : Array Value), i = .int .i64 k ∧ Hid (f1.app f2 = f) ∧ f1.len = k ∧ Hid (wr.heap[gn]? = some (.cells cur 27 (0, 0))) ∧ Hid (cur.size = cap * 4) ∧ Hid (cur.toList.take (f.len * 4) = c1 ++ c2) ∧
    Hid (CellsOf wr (fun b => w.heap.size ≤ b ∧ b < wr.heap.size ∧ b ≠ gn) f1 c1) ∧ Hid (CellsOf wr S f2 c2) ∧ Below w.heap.size w wr ∧ gn < wr.heap.size

theorem take_cell {cur : Array Value} {n : Nat} {l : List Value} (h : cur.toList.take n = l) {j : Nat} {u : Value} (hu : l[j]? = some u) : cur[j]? = some u := by
  rw [← h, List.getElem?_take] at hu
  split at hu
  · simpa using hu
  · cases hu
theorem deep_app : ∀ (f g : F), (f.app g).deep = max f.deep g.deep
  | .nil, g => by simp [F.app, F.deep]
  | .cons k n s c r, g => by simp only [F.app, F.deep]; rw [deep_app r g]; omega
theorem ok_app : ∀ (f g : F), (f.app g).ok ↔ f.ok ∧ g.ok
  | .nil, g => by simp [F.app, F.ok]
  | .cons k n s c r, g => by simp only [F.app, F.ok]; rw [ok_app r g]; constructor
                             · rintro ⟨a, b, c, d, e, f⟩; exact ⟨⟨a, b, c, d, e⟩, f⟩
                             · rintro ⟨⟨a, b, c, d, e⟩, f⟩; exact ⟨a, b, c, d, e, f⟩

set_option maxRecDepth 30000 in
set_option maxHeartbeats 1000000 in
theorem copied_step (D : Nat) (IH : CopiedOk D) : CopiedOk (D + 1) := by
  intro f kv S w hD hlen hok hk hS
  have HIH := Lib.hid IH
  have HOK := Lib.hid hok
  have HS := Lib.hid hS
  clear IH hok hS
  rcases Nat.eq_zero_or_pos f.len with h0 | h0
  · obtain ⟨a, c, rfl⟩ := hk.shape
    have h0' : (f.len : Int) = 0 := by omega
    have HE := Lib.hid h0
    have hne : ((f.len : Int) == 0) = true := by rw [h0]; rfl
    clear hk h0 h0'
    go_enter Try.func33, Try.ntmps33
    go_wp2
    go_ret
    exact ⟨none, 0, by rw [HE.out]; rfl, Below.refl _ _, .inl ⟨by rw [HE.out], HE.out⟩⟩
  · obtain ⟨g, o, kc, rfl, hSg, hl⟩ := hk.lies h0
    obtain ⟨cs, hcs, hat, h1⟩ := cells_of_lies f g o hl
    have hcall := Lib.hid (sclone_prog f g o kc S w h0 (by unfold Lim at hlen; exact hlen) cs hcs hat h1)
    have HCS := Lib.hid hcs
    have h0' : (0 : Int) < (f.len : Int) := by omega
    have hne : ((f.len : Int) == 0) = false := by simp; omega
    have hlI : (f.len : Int) ≤ 268435456 := by unfold Lim at hlen; omega
    clear hcs hat h1 hl hk
    go_enter Try.func33, Try.ntmps33
    go_wp2_with fail
    refine hcall.out.mono ?_
    rintro e w1 ⟨gn, cap, rfl, hb1, hown1⟩
    clear hcall
    have hgn := World.ownsRow.lt hown1 gn rfl
    rcases hown1.2 with ⟨hx, _⟩ | ⟨g2, cap2, cur, hx, _, hblk, hnc, _, hcsz, htk⟩
    · cases hx
    injection hx with e1 e2 e3
    injection e1 with e1
    injection e1 with e1
    subst e1 e3
    have HB := Lib.hid hblk
    have HCZ := Lib.hid hcsz
    have HTK := Lib.hid htk
    have HNC := Lib.hid hnc
    clear hblk hcsz htk hown1 hnc
    go_wp2_with fail
    go_loopw [12] (CpRel f S w gn cap) (fun i _ => f.len - (intOf i).toNat)
    case atStart =>
      exact ⟨0, .nil, f, [], cs, cur, rfl, Lib.hid rfl, rfl, HB, HCZ, Lib.hid (by rw [HTK.out]; rfl), Lib.hid rfl, Lib.hid (CellsOf.mono (fun b hb => ⟨hb, hb1.block b (HS.out b hb)⟩) f cs HCS.out), hb1, hgn.2⟩
    case round =>
      obtain ⟨k, f1, f2, c1, c2, cur, rfl, happ, hk, hblk, hcz, htk, hc1, hc2, hb, hgl⟩ := hrel
      by_cases hlt : k < f.len
      · cases f2 with
        | nil => have := happ.out; rw [F.app_nil] at this; subst this; omega
        | cons k' n' s' c' r =>
          obtain ⟨v', rest, hc2e, hkid, hrest⟩ := hc2.out
          obtain ⟨ka, kc', rfl⟩ := hkid.shape
          have hc1l := (hc1.out).length
          have hk0 : (0 : Int) ≤ (k : Int) := by omega
          have hkI : (k : Int) ≤ 268435456 := by omega
          have hat : cur[k * 4 + 3]? = some (.slice ka c'.len kc') := take_cell htk.out (by
            rw [hc2e, List.getElem?_append_right (by omega), hc1l, hk, show k * 4 + 3 - k * 4 = 3 by omega]; rfl)
          have l3 : wr.cell? ⟨gn, k * 4 + 3, none⟩ = some (.slice ka c'.len kc') := by
            simp only [World.cell?, hblk.out]; simpa using hat
          have hokr := (ok_app f1 _).1 (by rw [happ.out]; exact HOK.out)
          have hdp : c'.deep < D := by
            have h1 := deep_app f1 (.cons k' n' s' c' r)
            rw [happ.out] at h1
            simp only [F.deep] at h1
            omega
          have hcall := Lib.hid (HIH.out c' (.slice ka c'.len kc') S wr hdp (by unfold Lim; exact hokr.2.2.2.1) hokr.2.2.2.2.1 hkid (fun b hb2 => Nat.lt_of_lt_of_le (HS.out b hb2) hb.size))
          have HHK := Lib.hid hk
          have HC1L := Lib.hid hc1l
          have HRest := Lib.hid hrest
          have HC2E := Lib.hid hc2e
          have HAT := Lib.hid hat
          clear hat hokr hkid hrest hc2e hc2 hk hc1l
          go_wp2_with fail
          refine hcall.out.mono ?_
          rintro e w2 ⟨a2, cap2, rfl, hb2, hk2⟩
          have hblk2 : Hid (w2.heap[gn]? = some (.cells cur 27 (0, 0))) := Lib.hid (by rw [hb2.block gn hgl]; exact hblk.out)
          have q3 : w2.cell? ⟨gn, k * 4 + 3, none⟩ = some (.slice ka c'.len kc') := by
            simp only [World.cell?, hblk2.out]; simpa using HAT.out
          have q4 : w2.frozen? ⟨gn, k * 4 + 3, none⟩ = false := by simp [World.frozen?, hblk2.out]
          have HK2 := Lib.hid hk2
          clear hcall hk2
          go_wp2_with fail
          have hs2 := hb2.size
          go_roundw
          case rel =>
            refine ⟨k + 1, f1.app (.cons k' n' s' c' .nil), r, c1 ++ [.int .i64 k', .int .u64 n', .string s', .slice a2 c'.len cap2], rest, cur.setIfInBounds (k * 4 + 3) (.slice a2 c'.len cap2), by go_num, Lib.hid ?_, ?_, Lib.hid ?_, Lib.hid ?_, Lib.hid ?_, Lib.hid (CellsOf.snoc (s := s') (c := c') ?_ f1 c1 ?_), Lib.hid ?_, ?_, ?_⟩
            · rw [F.app_assoc]; exact happ.out
            · rw [F.app_len]; have := HHK.out; simp [F.len]; omega
            · exact heap_setCell_same w2 gn _ cur _ _ hblk2.out
            · rw [Array.size_setIfInBounds]; exact hcz.out
            · rw [Array.toList_setIfInBounds, List.take_set, htk.out, HC2E.out, List.set_append_right _ _ (by have := HC1L.out; have := HHK.out; omega)]
              have e1 := HC1L.out
              rw [HHK.out] at e1
              rw [e1, show k * 4 + 3 - k * 4 = 3 by omega]
              simp
            · refine HK2.out.mono (fun b h => ⟨by have := hb.size; omega, by rw [size_setCell]; omega, by omega⟩) (fun b h => setCell_ne _ _ _ _ _ (by omega))
            · refine CellsOf.mono (fun b h => ⟨⟨h.1, by rw [size_setCell]; omega, h.2.2⟩, ?_⟩) f1 c1 hc1.out
              rw [setCell_ne _ _ _ _ _ h.2.2]; exact hb2.block b h.2.1
            · refine CellsOf.mono (fun b h => ⟨h, ?_⟩) r rest HRest.out
              have := HS.out b h
              rw [setCell_ne _ _ _ _ _ (by omega)]; exact hb2.block b (by have := hb.size; omega)
            · exact (hb.trans (hb2.mono hb.size)).setCell (by omega) _
            · rw [size_setCell]; omega
          case measure => rw [intOf_int, intOf_int]; omega
      · have hf2 : f2 = .nil := by
          apply F.len_zero
          have := congrArg F.len happ.out
          rw [F.app_len] at this
          omega
        subst hf2
        have e1 := happ.out
        rw [F.app_nil] at e1
        subst e1
        have hc2n := hc2.out
        rw [show c2 = [] from hc2n] at htk
        obtain rfl : f1.len = k := by omega
        clear hc2n hc2 hlt
        go_wp2_with fail
        go_ret
        refine ⟨_, _, rfl, hb, .inr ⟨gn, 0, cap, rfl, ⟨hgn.1, hgl⟩, ⟨_, _, hblk.out⟩, Lies.mono (fun b h => ⟨h.1, h.2.1⟩) (fun _ _ => rfl) f1 gn 0 rfl (lies_of_cells f1 0 c1 (fun j u hu => ?_) hc1.out)⟩⟩
        have := take_cell htk.out (by simpa using hu)
        simp only [World.cell?, hblk.out]; simpa using this

theorem copied_ok (D : Nat) : CopiedOk D := by
  induction D with
  | zero => intro _ _ _ _ h; exact absurd h (Nat.not_lt_zero _)
  | succ D ih => exact copied_step D ih

def LRes (f : F) (w : World) (e : Ending) (w' : World) : Prop :=
  ∃ a cap, e = .returned (.agg #[.int .i64 2, .int .u64 0, .string ⟨#[]⟩, .slice a f.len cap]) ∧ Below w.heap.size w w' ∧ KidsAt w' (fun b => w.heap.size ≤ b ∧ b < w'.heap.size) f (.slice a f.len cap)

set_option maxRecDepth 30000 in
set_option maxHeartbeats 1000000 in
theorem l_prog (f : F) (kv : Value) (S : Nat → Prop) (w : World) (hD : f.deep ≤ 1000) (hlen : Lim f.len) (hok : f.ok) (hk : KidsAt w S f kv) (hS : ∀ b, S b → b < w.heap.size) :
    Calls Try.prog 19 #[kv] w (LRes f w) := by
  have hblk := heap_alloc_new w (.cells #[.int .i64 0, .int .u64 0, .string ⟨#[]⟩, .slice none 0 0] 27)
  have hk2 : KidsAt (w.alloc (.cells #[.int .i64 0, .int .u64 0, .string ⟨#[]⟩, .slice none 0 0] 27)) S f kv := hk.mono (fun _ h => h) (fun b h => Below.heap_alloc _ _ _ (hS b h))
  have h1 := Lib.hid (ends_ok (f.deep + 1) f kv 1 S _ (by omega) hlen hok (by omega) (by omega) hk2)
  have h2 := Lib.hid ((copied_ok (f.deep + 1) f kv S _ (by omega) hlen hok hk2 (fun b h => Nat.lt_of_lt_of_le (hS b h) (by simp))).mono (R' := fun e w' => CpRes f (w.alloc (.cells #[.int .i64 0, .int .u64 0, .string ⟨#[]⟩, .slice none 0 0] 27)) e w' ∧ w'.heap[w.heap.size]? = some (.cells #[.int .i64 0, .int .u64 0, .string ⟨#[]⟩, .slice none 0 0] 27 (0, 0)))
    (fun e w' h => ⟨h, by obtain ⟨_, _, _, hb, _⟩ := h; exact block_kept hblk (by simp) hb⟩))
  clear hk hk2 hok hS hblk
  go_enter Try.func19, Try.ntmps19
  go_wp2_with fail
  refine h1.out.mono ?_
  rintro e w1 ⟨rfl, rfl⟩
  go_wp2_with fail
  refine h2.out.mono ?_
  rintro e w2 ⟨⟨a, cap, rfl, hb, hkk⟩, hblk2⟩
  obtain ⟨c0, c1, c2, c3, f0, f1, f2, f3⟩ := block4 hblk2
  have HKK := Lib.hid hkk
  clear h1 h2 hkk hblk2
  go_wp2_with fail
  refine bodyPost_ret (v := nodeV 2 0 ⟨#[]⟩ (.slice a f.len cap)) (by simp [results, Try.results19, go_sem, nodeV, c0, c1, c2, c3]) rfl ⟨a, cap, rfl, ?_, ?_⟩
  · have hbb : Below w.heap.size w w2 := ((Below.refl _ w).alloc (Nat.le_refl _) _).trans (hb.mono (by simp))
    exact (((hbb.setCell (Nat.le_refl _) _).setCell (Nat.le_refl _) _).setCell (Nat.le_refl _) _).setCell (Nat.le_refl _) _
  · exact (kids_set4 HKK.out (by simp) (by simp : w.heap.size ≤ _))
end Go.Proofs.Ytaojcbdljgcfgaa
