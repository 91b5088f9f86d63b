/- net: the reference's Bytes. -/
import Derived.Test.YtgdlnjhbencjkaaNPure
import Derived.Test.YtgdlnjhbencjkaaCRfW
namespace Go.Proofs.Ytgdlnjhbencjkaa
open Go.RowKit
set_option maxRecDepth 100000 in
theorem rn_prog (n : Int) (w : World) : Calls Try.prog 36 #[.int .u64 n] w fun e w' => e = .returned (.agg #[.int .i64 0, .int .u64 n, .string ⟨#[]⟩, .slice none 0 0]) ∧ Below w.heap.size w w' := by
  go_enter Try.func36, Try.ntmps36
  go_wp2
  exact bodyPost_ret (v := .agg #[.int .i64 0, .int .u64 n, .string ⟨#[]⟩, .slice none 0 0]) (by simp [results, Try.results36, go_sem]) rfl ⟨rfl, (Below.refl _ _).alloc (Nat.le_refl _) _⟩
set_option maxRecDepth 100000 in
theorem rs_prog (s : ByteArray) (w : World) : Calls Try.prog 37 #[.string s] w fun e w' => e = .returned (.agg #[.int .i64 1, .int .u64 0, .string s, .slice none 0 0]) ∧ Below w.heap.size w w' := by
  go_enter Try.func37, Try.ntmps37
  go_wp2
  exact bodyPost_ret (v := .agg #[.int .i64 1, .int .u64 0, .string s, .slice none 0 0]) (by simp [results, Try.results37, go_sem]) rfl ⟨rfl, (Below.refl _ _).alloc (Nat.le_refl _) _⟩
set_option maxRecDepth 100000 in
theorem rl_prog (a : Option Addr) (n c : Nat) (w : World) : Calls Try.prog 35 #[.slice a n c] w fun e w' => e = .returned (.agg #[.int .i64 2, .int .u64 0, .string ⟨#[]⟩, .slice a n c]) ∧ Below w.heap.size w w' := by
  go_enter Try.func35, Try.ntmps35
  go_wp2
  exact bodyPost_ret (v := .agg #[.int .i64 2, .int .u64 0, .string ⟨#[]⟩, .slice a n c]) (by simp [results, Try.results35, go_sem]) rfl ⟨rfl, (Below.refl _ _).alloc (Nat.le_refl _) _⟩

theorem wrap_up (x : Int) (h0 : -1 ≤ x) (h1 : x < 9223372036854775808) : IntKind.u64.wrap (IntKind.i64.wrap (x + 1)) = x + 1 := by
  simp only [IntKind.wrap, IntKind.signed, IntKind.bits]; simp; omega
/-- The slice value is these nodes of entries; all of it lies at B and above. -/
def RKids (w : World) (B : Nat) (v : Value) (l : List Ent) : Prop := ∃ cs, w.ownsRow B 76 4 v l.length cs ∧ CellsOf w (fun b => (B ≤ b ∧ b < w.heap.size) ∧ v.ownBlock ≠ some b) (entsF l) cs
theorem RKids.nil (w : World) (B : Nat) : RKids w B (.slice none 0 0) [] := ⟨[], World.ownsRow_nil _ _ _ _, rfl⟩
theorem RKids.mv {w w' : World} {B : Nat} {v : Value} {l : List Ent} (h : RKids w B v l) (hb : Below w.heap.size w w') : RKids w' B v l := by
  obtain ⟨cs, h1, h2⟩ := h
  exact ⟨cs, ownN_mv h1 fun k hk => hb.block k (World.ownsRow.lt h1 k hk).2, CellsOf.mono (fun b hb' => ⟨⟨⟨hb'.1.1, Nat.lt_of_lt_of_le hb'.1.2 hb.size⟩, hb'.2⟩, hb.block b hb'.1.2⟩) _ _ h2⟩
theorem RKids.kids {w : World} {B : Nat} {v : Value} {l : List Ent} (h : RKids w B v l) : KidsAt w (fun b => b < w.heap.size) (entsF l) v := by
  obtain ⟨cs, h1, h2⟩ := h
  exact kids_of_own (by rw [entsF_len]; exact h1) h2 (fun b hb => hb.1.2) (fun k hk => (World.ownsRow.lt h1 k hk).2)
theorem RKids.snoc {w w' : World} {B g2 n : Nat} {v v' : Value} {l : List Ent} {t : Nat} {s : ByteArray} {cs : List Value} (h2 : CellsOf w (fun b => (B ≤ b ∧ b < w.heap.size) ∧ v.ownBlock ≠ some b) (entsF l) cs)
    (hg : w.heap[g2]? = some (.cells #[.int .i64 0, .int .u64 (t : Int), .string ⟨#[]⟩, .slice none 0 0, .int .i64 1, .int .u64 0, .string s, .slice none 0 0] 76 (0, 0))) (hB : B ≤ g2) (hne : v.ownBlock ≠ some g2)
    (h3 : w'.ownsRow B 76 4 v' n (cs ++ [.int .i64 2, .int .u64 0, .string ⟨#[]⟩, .slice (some ⟨g2, 0, none⟩) 2 2])) (hn : n = l.length + 1) (hgr : Grew w v w' v') : RKids w' B v' (l ++ [(t, s)]) := by
  have far : ∀ b, b < w.heap.size → v.ownBlock ≠ some b → v'.ownBlock ≠ some b := fun b hb hb2 e => by
    rcases hgr.loc b e with h | h
    · exact hb2 h
    · omega
  refine ⟨_, by rw [List.length_append]; show w'.ownsRow B _ 4 v' (l.length + 1) _; rw [← hn]; exact h3, ?_⟩
  rw [entsF_snoc]
  refine CellsOf.snoc (kids_ent ((hgr.block (block_lt hg) hne).trans hg) ⟨⟨hB, Nat.lt_of_lt_of_le (block_lt hg) hgr.size⟩, far g2 (block_lt hg) hne⟩) _ _ ?_
  exact CellsOf.mono (fun b hb => ⟨⟨⟨hb.1.1, Nat.lt_of_lt_of_le hb.1.2 hgr.size⟩, far b hb.1.2 hb.2⟩, hgr.block hb.1.2 hb.2⟩) _ _ h2
set_option maxHeartbeats 8000000 in
set_option maxRecDepth 100000 in
theorem rbytes_yes (m : Mg) (ev : Value) (w : World) (h : ESl w ev m.ents) (hsm : SmMsg m) :
    Calls Try.prog 21 #[.agg (mgL m ev).toArray] w fun e w' => e = .returned (.string ⟨(msgB m).toArray⟩) ∧ Below w.heap.size w w' := by
  obtain ⟨ea, ec, rfl, _, _⟩ := id h
  obtain ⟨W0, hW0⟩ : ∃ W0, W0 = w.alloc (.cells #[.int .i64 m.kind, .int .i64 m.src, .int .i64 m.dst, .int .u64 (m.term : Int), .int .u64 (m.index : Int), .int .u64 (m.lterm : Int), .int .u64 (m.commit : Int), .bool m.ok, .slice ea m.ents.length ec, .string m.state] 32) := ⟨_, rfl⟩
  have hb0 : Below w.heap.size w W0 := by rw [hW0]; exact (Below.refl _ _).alloc (Nat.le_refl _) _
  have hz0 : W0.heap[w.heap.size]? = some (.cells #[.int .i64 m.kind, .int .i64 m.src, .int .i64 m.dst, .int .u64 (m.term : Int), .int .u64 (m.index : Int), .int .u64 (m.lterm : Int), .int .u64 (m.commit : Int), .bool m.ok, .slice ea m.ents.length ec, .string m.state] 32 (0, 0)) := by rw [hW0]; exact heap_alloc_new _ _
  have hw1 := u64_w m.kind hsm.kind.1 (by have := hsm.kind.2; omega)
  have hw2 := wrap_up m.src hsm.src.1 hsm.src.2
  have hw3 := wrap_up m.dst hsm.dst.1 hsm.dst.2
  obtain ⟨X2, hX2⟩ : ∃ X, IntKind.i64.wrap (m.src + 1) = X := ⟨_, rfl⟩
  obtain ⟨X3, hX3⟩ : ∃ X, IntKind.i64.wrap (m.dst + 1) = X := ⟨_, rfl⟩
  rw [hX2] at hw2
  rw [hX3] at hw3
  have g1 : ¬ m.kind < 0 := by have := hsm.kind.1; omega
  have g2 : ¬ m.src < -1 := by have := hsm.src.1; omega
  have g3 : ¬ m.dst < -1 := by have := hsm.dst.1; omega
  have g4 : (m.ents.length : Int) ≤ 12 := by have := hsm.len; omega
  have hdp : (msgF m).deep ≤ 1000000 := by
    have := msg_right m
    simp only [Nd.right, right_iff, Bool.and_eq_true, decide_eq_true_eq] at this
    omega
  have HW := Lib.hid (fun W v (hv : KidsAt W (· < W.heap.size) (msgF m) v) => write_ref ⟨2, 0, ⟨#[]⟩, msgF m⟩ v W (msg_ok hsm) hdp hv (msg_fits hsm) true ⟨(msgB m).toArray⟩ (msg_right m) rfl)
  unfold nodeV at HW
  unfold mgL
  have HES := Lib.hid h
  have HB0 := Lib.hid hb0
  have HZ0 := Lib.hid hz0
  obtain ⟨c0, c1, c2, c3, c4, c5, c6, c7, c8, c9⟩ := cells10 hz0
  clear h hsm hb0 hz0 hdp
  go_enter Try.func21, Try.ntmps21
  go_wp2_with fail
  simp only [← hW0]
  clear hW0
  go_loopw [3, 4] (fun lv i wr => ∃ k : Nat, k ≤ m.ents.length ∧ i = .int .i64 (k : Int) ∧ Hid (RKids wr W0.heap.size lv (m.ents.take k)) ∧ Hid (Below W0.heap.size W0 wr)) (fun _ i _ => m.ents.length - (intOf i).toNat)
  case atStart => exact ⟨0, by omega, rfl, Lib.hid (by rw [List.take_zero]; exact RKids.nil _ _), Lib.hid (Below.refl _ _)⟩
  case round =>
    obtain ⟨k, hk, rfl, HK, HB⟩ := hrel
    have hzr := (HB.out.block _ (block_lt HZ0.out)).trans HZ0.out
    obtain ⟨y0, y1, y2, y3, y4, y5, y6, y7, y8, y9⟩ := cells10 hzr
    clear c0 c1 c2 c3 c4 c5 c6 c7 c8 c9
    by_cases hlt : k < m.ents.length
    · have hkI : (k : Int) < (m.ents.length : Int) := by omega
      have hk0 : (0 : Int) ≤ (k : Int) := by omega
      obtain ⟨⟨t, s⟩, hx⟩ : ∃ x, m.ents[k]? = some x := ⟨_, List.getElem?_eq_getElem hlt⟩
      obtain ⟨ax, cx, e1, _, f1⟩ := HES.out
      injection e1 with e1 e1q e1'
      clear e1q
      obtain ⟨gx, ox, rfl, hgx, fx⟩ := f1 (fun e => by rw [e] at hx; cases hx)
      obtain ⟨u1w, u2w⟩ := fx k _ hx
      have u1 := cellB HB.out (cellB HB0.out u1w)
      have u2 := cellB HB.out (cellB HB0.out u2w)
      clear u1w u2w
      subst e1
      clear f1 fx e1'
      obtain ⟨cs, ho, hco⟩ := HK.out
      obtain ⟨la, lc, rfl⟩ : ∃ a c, u3 = .slice a k c := by
        have hlen : (m.ents.take k).length = k := by rw [List.length_take]; omega
        rw [hlen] at ho
        rcases ho.2 with ⟨h1, h2⟩ | ⟨g, cap, cur, hv, _⟩
        · exact ⟨none, 0, by rw [h1, h2]⟩
        · exact ⟨_, _, hv⟩
      have hlen : (m.ents.take k).length = k := by rw [List.length_take]; omega
      have HO := Lib.hid ho
      have HCO := Lib.hid hco
      have HTK : Hid (m.ents.take (k + 1) = m.ents.take k ++ [(t, s)]) := Lib.hid (by rw [List.take_add_one, hx]; rfl)
      have HLEN := Lib.hid hlen
      have HC0 : Hid (wr.cell? ⟨w.heap.size, 8, none⟩ = some (.slice (some ⟨gx, ox, none⟩) m.ents.length ec) ∧ wr.cell? ⟨gx, ox + k * 2, none⟩ = some (.int .u64 (t : Int)) ∧ wr.cell? ⟨gx, ox + k * 2 + 1, none⟩ = some (.string s)) := Lib.hid ⟨y8, u1, u2⟩
      have HC1 : Hid (wr.drew.cell? ⟨w.heap.size, 8, none⟩ = some (.slice (some ⟨gx, ox, none⟩) m.ents.length ec) ∧ wr.drew.cell? ⟨gx, ox + k * 2, none⟩ = some (.int .u64 (t : Int)) ∧ wr.drew.cell? ⟨gx, ox + k * 2 + 1, none⟩ = some (.string s)) := Lib.hid ⟨y8, u1, u2⟩
      have HNV : Hid ((Value.slice la k lc).ownBlock ≠ some w.heap.size ∧ (Value.slice la k lc).ownBlock ≠ some gx) := Lib.hid (by
        have hlow := ownN_low ho
        have hw0 := block_lt HZ0.out
        exact ⟨fun e => by have := hlow _ e; omega, fun e => by have := hlow _ e; omega⟩)
      have HCL : Hid (cs.length = k * 4) := Lib.hid (by have := ho.1; rw [hlen] at this; exact this)
      clear ho hco hlen hx hzr y0 y1 y2 y3 y4 y5 y6 y7 y9
      go_wp2_with fail
      go_region_held3 (fun w' => w'.cell? ⟨w.heap.size, 8, none⟩ = some (.slice (some ⟨gx, ox, none⟩) m.ents.length ec) ∧ w'.cell? ⟨gx, ox + k * 2, none⟩ = some (.int .u64 (t : Int)) ∧ w'.cell? ⟨gx, ox + k * 2 + 1, none⟩ = some (.string s))
        (first | with_reducible exact HC0.out | with_reducible exact HC1.out | with_reducible exact hcs3 | with_reducible exact hcs4 | with_reducible exact hcs5 | with_reducible exact hcs6 | with_reducible exact hcs7 | with_reducible exact hcs8)
        (first
          | (go_at_call 36; refine (rn_prog _ _).mono ?_; rintro e w3 ⟨rfl, hb3⟩; have hb3' := (Below.refl wr.heap.size wr).drew.trans hb3; have hcs3 := And.intro (cellB hb3' HC0.out.1) (And.intro (cellB hb3' HC0.out.2.1) (cellB hb3' HC0.out.2.2)); have HB3 := Lib.hid hb3')
          | (go_at_call 37; refine (rs_prog _ _).mono ?_; rintro e w4 ⟨rfl, hb4⟩; have hcs4 := And.intro (cellB hb4 hcs3.1) (And.intro (cellB hb4 hcs3.2.1) (cellB hb4 hcs3.2.2)); have HB4 := Lib.hid (HB3.out.trans (hb4.mono HB3.out.size)); have hz5 := heap_alloc_new w4 (.cells #[.int .i64 0, .int .u64 (t : Int), .string ⟨#[]⟩, .slice none 0 0, .int .i64 1, .int .u64 0, .string s, .slice none 0 0] 76); have hb5 := (Below.refl w4.heap.size w4).alloc (Nat.le_refl _) (.cells #[.int .i64 0, .int .u64 (t : Int), .string ⟨#[]⟩, .slice none 0 0, .int .i64 1, .int .u64 0, .string s, .slice none 0 0] 76); have hcs5 := And.intro (cellB hb5 hcs4.1) (And.intro (cellB hb5 hcs4.2.1) (cellB hb5 hcs4.2.2)); have HB5 := Lib.hid (HB4.out.trans (hb5.mono HB4.out.size)); have HZ5 := Lib.hid hz5)
          | (go_at_call 35; refine (rl_prog _ _ _ _).mono ?_; rintro e w6 ⟨rfl, hb6⟩; have hcs6 := And.intro (cellB hb6 hcs5.1) (And.intro (cellB hb6 hcs5.2.1) (cellB hb6 hcs5.2.2)); have HB6 := Lib.hid (HB5.out.trans (hb6.mono HB5.out.size)); have hb7 := (Below.refl w6.heap.size w6).alloc (Nat.le_refl _) (.cells #[.int .i64 2, .int .u64 0, .string ⟨#[]⟩, .slice (some ⟨w4.heap.size, 0, none⟩) 2 2] 76); have hcs7 := And.intro (cellB hb7 hcs6.1) (And.intro (cellB hb7 hcs6.2.1) (cellB hb7 hcs6.2.2)); have HB7 := Lib.hid (HB6.out.trans (hb7.mono HB6.out.size)); have HZ7 := Lib.hid ((hb7.block _ (Nat.lt_of_lt_of_le (block_lt HZ5.out) hb6.size)).trans ((hb6.block _ (block_lt HZ5.out)).trans HZ5.out)))
          | (refine step_appN Try.nodeSl rfl _ _ (by rfl) W0.heap.size (.slice la k lc) k cs (by rfl) (ownN_mv (by have := HO.out; rw [HLEN.out] at this; exact this) (fun j hj => HB7.out.block j (World.ownsRow.lt HO.out j hj).2)) w6.heap.size 1 1 [.int .i64 2, .int .u64 0, .string ⟨#[]⟩, .slice (some ⟨w4.heap.size, 0, none⟩) 2 2] (by rfl) (heap_at_alloc w6 _) rfl (by simp [Value.oneCell']) (by omega) (by unfold maxLen; omega) (by omega) (by have := HB.out.size; have := HB7.out.size; omega) ?_; intro g8 cap8 w8 hown8 hgr8; have hcs8 := And.intro (hgr8.cell hcs7.1 HNV.out.1) (And.intro (hgr8.cell hcs7.2.1 HNV.out.2) (hgr8.cell hcs7.2.2 HNV.out.2))))
      have hco7 : CellsOf (w6.alloc (.cells #[.int .i64 2, .int .u64 0, .string ⟨#[]⟩, .slice (some ⟨w4.heap.size, 0, none⟩) 2 2] 76)) (fun b => (W0.heap.size ≤ b ∧ b < (w6.alloc (.cells #[.int .i64 2, .int .u64 0, .string ⟨#[]⟩, .slice (some ⟨w4.heap.size, 0, none⟩) 2 2] 76)).heap.size) ∧ (Value.slice la k lc).ownBlock ≠ some b) (entsF (m.ents.take k)) cs :=
        CellsOf.mono (fun b hb' => ⟨⟨⟨hb'.1.1, Nat.lt_of_lt_of_le hb'.1.2 HB7.out.size⟩, hb'.2⟩, HB7.out.block b hb'.1.2⟩) _ _ HCO.out
      have HK8 : Hid (RKids w8 W0.heap.size (.slice (some ⟨g8, 0, none⟩) (k + 1) cap8) (m.ents.take (k + 1))) := Lib.hid (by
        rw [HTK.out]
        exact RKids.snoc hco7 HZ7.out (Nat.le_trans HB.out.size HB4.out.size) (fun e => by have h1 := (World.ownsRow.lt HO.out _ e).2; have h2 := HB4.out.size; omega) hown8 (by rw [HLEN.out]) hgr8)
      have HB8 := Lib.hid ((HB.out.trans (HB7.out.mono HB.out.size)).trans (hgr8.below (by have := HB.out.size; have := HB7.out.size; omega) (fun j hj => ownN_low HO.out j hj)))
      clear hco7 hown8 hgr8 hcs3 hcs4 hcs5 hcs6 hcs7 hcs8 hz5 hb5 hb7 y8 u1 u2
      go_wp2_with fail
      go_roundw
      case rel => exact ⟨k + 1, by omega, by go_num, HK8, HB8⟩
      case measure => simp [intOf]; omega
    · have hke : k = m.ents.length := by omega
      have hkI : ¬ (k : Int) < (m.ents.length : Int) := by omega
      have HKK : Hid (KidsAt wr (fun b => b < wr.heap.size) (entsF m.ents) u3) := Lib.hid (by have := HK.out.kids; rw [hke, List.take_length] at this; exact this)
      obtain ⟨ka0, kc0, rfl⟩ := HKK.out.shape
      rw [entsF_len] at HKK ⊢
      have HZc : Hid (wr.drew.heap[w.heap.size]? = some (.cells #[.int .i64 m.kind, .int .i64 m.src, .int .i64 m.dst, .int .u64 (m.term : Int), .int .u64 (m.index : Int), .int .u64 (m.lterm : Int), .int .u64 (m.commit : Int), .bool m.ok, .slice ea m.ents.length ec, .string m.state] 32 (0, 0))) := Lib.hid hzr
      have HBc : Hid (Below w.heap.size w wr.drew) := Lib.hid ((HB0.out.trans (HB.out.mono HB0.out.size)).drew)
      have HKc : Hid (KidsAt wr.drew (fun b => b < wr.drew.heap.size) (entsF m.ents) (.slice ka0 m.ents.length kc0)) := Lib.hid (HKK.out.mono (fun _ h => h) (fun _ _ => rfl))
      have HC0 : Hid (wr.cell? ⟨w.heap.size, 0, none⟩ = some (.int .i64 m.kind) ∧ wr.cell? ⟨w.heap.size, 1, none⟩ = some (.int .i64 m.src) ∧ wr.cell? ⟨w.heap.size, 2, none⟩ = some (.int .i64 m.dst) ∧ wr.cell? ⟨w.heap.size, 3, none⟩ = some (.int .u64 (m.term : Int)) ∧ wr.cell? ⟨w.heap.size, 4, none⟩ = some (.int .u64 (m.index : Int)) ∧ wr.cell? ⟨w.heap.size, 5, none⟩ = some (.int .u64 (m.lterm : Int)) ∧ wr.cell? ⟨w.heap.size, 6, none⟩ = some (.int .u64 (m.commit : Int)) ∧ wr.cell? ⟨w.heap.size, 9, none⟩ = some (.string m.state)) := Lib.hid ⟨y0, y1, y2, y3, y4, y5, y6, y9⟩
      have HC1 : Hid (wr.drew.cell? ⟨w.heap.size, 0, none⟩ = some (.int .i64 m.kind) ∧ wr.drew.cell? ⟨w.heap.size, 1, none⟩ = some (.int .i64 m.src) ∧ wr.drew.cell? ⟨w.heap.size, 2, none⟩ = some (.int .i64 m.dst) ∧ wr.drew.cell? ⟨w.heap.size, 3, none⟩ = some (.int .u64 (m.term : Int)) ∧ wr.drew.cell? ⟨w.heap.size, 4, none⟩ = some (.int .u64 (m.index : Int)) ∧ wr.drew.cell? ⟨w.heap.size, 5, none⟩ = some (.int .u64 (m.lterm : Int)) ∧ wr.drew.cell? ⟨w.heap.size, 6, none⟩ = some (.int .u64 (m.commit : Int)) ∧ wr.drew.cell? ⟨w.heap.size, 9, none⟩ = some (.string m.state)) := Lib.hid ⟨y0, y1, y2, y3, y4, y5, y6, y9⟩
      clear hzr hke HK HKK
      by_cases hokb : m.ok = true
      · have HOK2 : Hid (okN m.ok = 1) := Lib.hid (by rw [hokb]; rfl)
        go_wp2_with fail
        go_region_held3 (fun w' => w'.cell? ⟨w.heap.size, 0, none⟩ = some (.int .i64 m.kind) ∧ w'.cell? ⟨w.heap.size, 1, none⟩ = some (.int .i64 m.src) ∧ w'.cell? ⟨w.heap.size, 2, none⟩ = some (.int .i64 m.dst) ∧ w'.cell? ⟨w.heap.size, 3, none⟩ = some (.int .u64 (m.term : Int)) ∧ w'.cell? ⟨w.heap.size, 4, none⟩ = some (.int .u64 (m.index : Int)) ∧ w'.cell? ⟨w.heap.size, 5, none⟩ = some (.int .u64 (m.lterm : Int)) ∧ w'.cell? ⟨w.heap.size, 6, none⟩ = some (.int .u64 (m.commit : Int)) ∧ w'.cell? ⟨w.heap.size, 9, none⟩ = some (.string m.state))
          (first | with_reducible exact HC0.out | with_reducible exact HC1.out | with_reducible exact hcs | with_reducible exact hcs8 | with_reducible exact hcs9)
          (first
            | (go_at_call 36; refine (rn_prog _ _).mono ?_; rintro e w3 ⟨rfl, hb3⟩; have HZc := Lib.hid ((hb3.block _ (block_lt HZc.out)).trans HZc.out); have HKc := Lib.hid (HKc.out.up hb3.size hb3); have HBc := Lib.hid (HBc.out.trans (hb3.mono HBc.out.size)); have q10 := cells10 (HZc.out); have hcs := And.intro (q10.1) (And.intro (q10.2.1) (And.intro (q10.2.2.1) (And.intro (q10.2.2.2.1) (And.intro (q10.2.2.2.2.1) (And.intro (q10.2.2.2.2.2.1) (And.intro (q10.2.2.2.2.2.2.1) (q10.2.2.2.2.2.2.2.2.2))))))))
            | (go_at_call 37; refine (rs_prog _ _).mono ?_; rintro e w3 ⟨rfl, hb3⟩; have HZc := Lib.hid ((hb3.block _ (block_lt HZc.out)).trans HZc.out); have HKc := Lib.hid (HKc.out.up hb3.size hb3); have HBc := Lib.hid (HBc.out.trans (hb3.mono HBc.out.size)); have q10 := cells10 (HZc.out); have hcs := And.intro (q10.1) (And.intro (q10.2.1) (And.intro (q10.2.2.1) (And.intro (q10.2.2.2.1) (And.intro (q10.2.2.2.2.1) (And.intro (q10.2.2.2.2.2.1) (And.intro (q10.2.2.2.2.2.2.1) (q10.2.2.2.2.2.2.2.2.2))))))); have hb7 := (Below.refl w3.heap.size w3).alloc (Nat.le_refl _) (.cells #[.int .i64 0, .int .u64 m.kind, .string ⟨#[]⟩, .slice none 0 0, .int .i64 0, .int .u64 (m.src + 1), .string ⟨#[]⟩, .slice none 0 0, .int .i64 0, .int .u64 (m.dst + 1), .string ⟨#[]⟩, .slice none 0 0, .int .i64 0, .int .u64 (m.term : Int), .string ⟨#[]⟩, .slice none 0 0, .int .i64 0, .int .u64 (m.index : Int), .string ⟨#[]⟩, .slice none 0 0, .int .i64 0, .int .u64 (m.lterm : Int), .string ⟨#[]⟩, .slice none 0 0, .int .i64 0, .int .u64 (m.commit : Int), .string ⟨#[]⟩, .slice none 0 0, .int .i64 0, .int .u64 1, .string ⟨#[]⟩, .slice none 0 0, .int .i64 2, .int .u64 0, .string ⟨#[]⟩, .slice ka0 m.ents.length kc0, .int .i64 1, .int .u64 0, .string m.state, .slice none 0 0] 76); have hkm := msg_kids (m := m) (S := fun b => b < (w3.alloc (.cells #[.int .i64 0, .int .u64 m.kind, .string ⟨#[]⟩, .slice none 0 0, .int .i64 0, .int .u64 (m.src + 1), .string ⟨#[]⟩, .slice none 0 0, .int .i64 0, .int .u64 (m.dst + 1), .string ⟨#[]⟩, .slice none 0 0, .int .i64 0, .int .u64 (m.term : Int), .string ⟨#[]⟩, .slice none 0 0, .int .i64 0, .int .u64 (m.index : Int), .string ⟨#[]⟩, .slice none 0 0, .int .i64 0, .int .u64 (m.lterm : Int), .string ⟨#[]⟩, .slice none 0 0, .int .i64 0, .int .u64 (m.commit : Int), .string ⟨#[]⟩, .slice none 0 0, .int .i64 0, .int .u64 1, .string ⟨#[]⟩, .slice none 0 0, .int .i64 2, .int .u64 0, .string ⟨#[]⟩, .slice ka0 m.ents.length kc0, .int .i64 1, .int .u64 0, .string m.state, .slice none 0 0] 76)).heap.size) (by rw [HOK2.out]; exact heap_alloc_new w3 (.cells #[.int .i64 0, .int .u64 m.kind, .string ⟨#[]⟩, .slice none 0 0, .int .i64 0, .int .u64 (m.src + 1), .string ⟨#[]⟩, .slice none 0 0, .int .i64 0, .int .u64 (m.dst + 1), .string ⟨#[]⟩, .slice none 0 0, .int .i64 0, .int .u64 (m.term : Int), .string ⟨#[]⟩, .slice none 0 0, .int .i64 0, .int .u64 (m.index : Int), .string ⟨#[]⟩, .slice none 0 0, .int .i64 0, .int .u64 (m.lterm : Int), .string ⟨#[]⟩, .slice none 0 0, .int .i64 0, .int .u64 (m.commit : Int), .string ⟨#[]⟩, .slice none 0 0, .int .i64 0, .int .u64 1, .string ⟨#[]⟩, .slice none 0 0, .int .i64 2, .int .u64 0, .string ⟨#[]⟩, .slice ka0 m.ents.length kc0, .int .i64 1, .int .u64 0, .string m.state, .slice none 0 0] 76)) (by simp) (HKc.out.up hb7.size hb7); have HZ7 := Lib.hid ((hb7.block _ (block_lt HZc.out)).trans HZc.out); have q10 := cells10 (HZ7.out); have hcs8 := And.intro (q10.1) (And.intro (q10.2.1) (And.intro (q10.2.2.1) (And.intro (q10.2.2.2.1) (And.intro (q10.2.2.2.2.1) (And.intro (q10.2.2.2.2.2.1) (And.intro (q10.2.2.2.2.2.2.1) (q10.2.2.2.2.2.2.2.2.2))))))); have HB7 := Lib.hid (HBc.out.trans (hb7.mono HBc.out.size)))
            | (go_at_call 35; refine (rl_prog ka0 m.ents.length kc0 _).mono ?_; rintro e w3 ⟨rfl, hb3⟩; have HZc := Lib.hid ((hb3.block _ (block_lt HZc.out)).trans HZc.out); have HKc := Lib.hid (HKc.out.up hb3.size hb3); have HBc := Lib.hid (HBc.out.trans (hb3.mono HBc.out.size)); have q10 := cells10 (HZc.out); have hcs := And.intro (q10.1) (And.intro (q10.2.1) (And.intro (q10.2.2.1) (And.intro (q10.2.2.2.1) (And.intro (q10.2.2.2.2.1) (And.intro (q10.2.2.2.2.2.1) (And.intro (q10.2.2.2.2.2.2.1) (q10.2.2.2.2.2.2.2.2.2))))))))
            | (go_at_call 35; refine (rl_prog _ _ _ _).mono ?_; rintro e w8 ⟨rfl, hb8⟩; have HZ8 := Lib.hid ((hb8.block _ (block_lt HZ7.out)).trans HZ7.out); have q10 := cells10 (HZ8.out); have hcs9 := And.intro (q10.1) (And.intro (q10.2.1) (And.intro (q10.2.2.1) (And.intro (q10.2.2.2.1) (And.intro (q10.2.2.2.2.1) (And.intro (q10.2.2.2.2.2.1) (And.intro (q10.2.2.2.2.2.2.1) (q10.2.2.2.2.2.2.2.2.2))))))); have HB8 := Lib.hid (HB7.out.trans (hb8.mono HB7.out.size)); have hkm8 := hkm.up hb8.size hb8)
            | (go_at_call 38; refine (HW.out _ _ hkm8).mono ?_; rintro e w9 ⟨rfl, hb9⟩; have HB9 := Lib.hid (HB8.out.trans (hb9.mono HB8.out.size)); have q10 := cells10 ((hb9.block _ (block_lt HZ8.out)).trans HZ8.out); have hcs := And.intro (q10.1) (And.intro (q10.2.1) (And.intro (q10.2.2.1) (And.intro (q10.2.2.2.1) (And.intro (q10.2.2.2.2.1) (And.intro (q10.2.2.2.2.2.1) (And.intro (q10.2.2.2.2.2.2.1) (q10.2.2.2.2.2.2.2.2.2)))))))))
        clear hcs hcs8 hcs9 hkm hkm8 hb7 hb8 hb9
        go_wp2_with fail
        go_ret
        exact ⟨rfl, HB9.out⟩
      · have hokb : m.ok = false := by simpa using hokb
        have HOK2 : Hid (okN m.ok = 0) := Lib.hid (by rw [hokb]; rfl)
        go_wp2_with fail
        go_region_held3 (fun w' => w'.cell? ⟨w.heap.size, 0, none⟩ = some (.int .i64 m.kind) ∧ w'.cell? ⟨w.heap.size, 1, none⟩ = some (.int .i64 m.src) ∧ w'.cell? ⟨w.heap.size, 2, none⟩ = some (.int .i64 m.dst) ∧ w'.cell? ⟨w.heap.size, 3, none⟩ = some (.int .u64 (m.term : Int)) ∧ w'.cell? ⟨w.heap.size, 4, none⟩ = some (.int .u64 (m.index : Int)) ∧ w'.cell? ⟨w.heap.size, 5, none⟩ = some (.int .u64 (m.lterm : Int)) ∧ w'.cell? ⟨w.heap.size, 6, none⟩ = some (.int .u64 (m.commit : Int)) ∧ w'.cell? ⟨w.heap.size, 9, none⟩ = some (.string m.state))
          (first | with_reducible exact HC0.out | with_reducible exact HC1.out | with_reducible exact hcs | with_reducible exact hcs8 | with_reducible exact hcs9)
          (first
            | (go_at_call 36; refine (rn_prog _ _).mono ?_; rintro e w3 ⟨rfl, hb3⟩; have HZc := Lib.hid ((hb3.block _ (block_lt HZc.out)).trans HZc.out); have HKc := Lib.hid (HKc.out.up hb3.size hb3); have HBc := Lib.hid (HBc.out.trans (hb3.mono HBc.out.size)); have q10 := cells10 (HZc.out); have hcs := And.intro (q10.1) (And.intro (q10.2.1) (And.intro (q10.2.2.1) (And.intro (q10.2.2.2.1) (And.intro (q10.2.2.2.2.1) (And.intro (q10.2.2.2.2.2.1) (And.intro (q10.2.2.2.2.2.2.1) (q10.2.2.2.2.2.2.2.2.2))))))))
            | (go_at_call 37; refine (rs_prog _ _).mono ?_; rintro e w3 ⟨rfl, hb3⟩; have HZc := Lib.hid ((hb3.block _ (block_lt HZc.out)).trans HZc.out); have HKc := Lib.hid (HKc.out.up hb3.size hb3); have HBc := Lib.hid (HBc.out.trans (hb3.mono HBc.out.size)); have q10 := cells10 (HZc.out); have hcs := And.intro (q10.1) (And.intro (q10.2.1) (And.intro (q10.2.2.1) (And.intro (q10.2.2.2.1) (And.intro (q10.2.2.2.2.1) (And.intro (q10.2.2.2.2.2.1) (And.intro (q10.2.2.2.2.2.2.1) (q10.2.2.2.2.2.2.2.2.2))))))); have hb7 := (Below.refl w3.heap.size w3).alloc (Nat.le_refl _) (.cells #[.int .i64 0, .int .u64 m.kind, .string ⟨#[]⟩, .slice none 0 0, .int .i64 0, .int .u64 (m.src + 1), .string ⟨#[]⟩, .slice none 0 0, .int .i64 0, .int .u64 (m.dst + 1), .string ⟨#[]⟩, .slice none 0 0, .int .i64 0, .int .u64 (m.term : Int), .string ⟨#[]⟩, .slice none 0 0, .int .i64 0, .int .u64 (m.index : Int), .string ⟨#[]⟩, .slice none 0 0, .int .i64 0, .int .u64 (m.lterm : Int), .string ⟨#[]⟩, .slice none 0 0, .int .i64 0, .int .u64 (m.commit : Int), .string ⟨#[]⟩, .slice none 0 0, .int .i64 0, .int .u64 0, .string ⟨#[]⟩, .slice none 0 0, .int .i64 2, .int .u64 0, .string ⟨#[]⟩, .slice ka0 m.ents.length kc0, .int .i64 1, .int .u64 0, .string m.state, .slice none 0 0] 76); have hkm := msg_kids (m := m) (S := fun b => b < (w3.alloc (.cells #[.int .i64 0, .int .u64 m.kind, .string ⟨#[]⟩, .slice none 0 0, .int .i64 0, .int .u64 (m.src + 1), .string ⟨#[]⟩, .slice none 0 0, .int .i64 0, .int .u64 (m.dst + 1), .string ⟨#[]⟩, .slice none 0 0, .int .i64 0, .int .u64 (m.term : Int), .string ⟨#[]⟩, .slice none 0 0, .int .i64 0, .int .u64 (m.index : Int), .string ⟨#[]⟩, .slice none 0 0, .int .i64 0, .int .u64 (m.lterm : Int), .string ⟨#[]⟩, .slice none 0 0, .int .i64 0, .int .u64 (m.commit : Int), .string ⟨#[]⟩, .slice none 0 0, .int .i64 0, .int .u64 0, .string ⟨#[]⟩, .slice none 0 0, .int .i64 2, .int .u64 0, .string ⟨#[]⟩, .slice ka0 m.ents.length kc0, .int .i64 1, .int .u64 0, .string m.state, .slice none 0 0] 76)).heap.size) (by rw [HOK2.out]; exact heap_alloc_new w3 (.cells #[.int .i64 0, .int .u64 m.kind, .string ⟨#[]⟩, .slice none 0 0, .int .i64 0, .int .u64 (m.src + 1), .string ⟨#[]⟩, .slice none 0 0, .int .i64 0, .int .u64 (m.dst + 1), .string ⟨#[]⟩, .slice none 0 0, .int .i64 0, .int .u64 (m.term : Int), .string ⟨#[]⟩, .slice none 0 0, .int .i64 0, .int .u64 (m.index : Int), .string ⟨#[]⟩, .slice none 0 0, .int .i64 0, .int .u64 (m.lterm : Int), .string ⟨#[]⟩, .slice none 0 0, .int .i64 0, .int .u64 (m.commit : Int), .string ⟨#[]⟩, .slice none 0 0, .int .i64 0, .int .u64 0, .string ⟨#[]⟩, .slice none 0 0, .int .i64 2, .int .u64 0, .string ⟨#[]⟩, .slice ka0 m.ents.length kc0, .int .i64 1, .int .u64 0, .string m.state, .slice none 0 0] 76)) (by simp) (HKc.out.up hb7.size hb7); have HZ7 := Lib.hid ((hb7.block _ (block_lt HZc.out)).trans HZc.out); have q10 := cells10 (HZ7.out); have hcs8 := And.intro (q10.1) (And.intro (q10.2.1) (And.intro (q10.2.2.1) (And.intro (q10.2.2.2.1) (And.intro (q10.2.2.2.2.1) (And.intro (q10.2.2.2.2.2.1) (And.intro (q10.2.2.2.2.2.2.1) (q10.2.2.2.2.2.2.2.2.2))))))); have HB7 := Lib.hid (HBc.out.trans (hb7.mono HBc.out.size)))
            | (go_at_call 35; refine (rl_prog ka0 m.ents.length kc0 _).mono ?_; rintro e w3 ⟨rfl, hb3⟩; have HZc := Lib.hid ((hb3.block _ (block_lt HZc.out)).trans HZc.out); have HKc := Lib.hid (HKc.out.up hb3.size hb3); have HBc := Lib.hid (HBc.out.trans (hb3.mono HBc.out.size)); have q10 := cells10 (HZc.out); have hcs := And.intro (q10.1) (And.intro (q10.2.1) (And.intro (q10.2.2.1) (And.intro (q10.2.2.2.1) (And.intro (q10.2.2.2.2.1) (And.intro (q10.2.2.2.2.2.1) (And.intro (q10.2.2.2.2.2.2.1) (q10.2.2.2.2.2.2.2.2.2))))))))
            | (go_at_call 35; refine (rl_prog _ _ _ _).mono ?_; rintro e w8 ⟨rfl, hb8⟩; have HZ8 := Lib.hid ((hb8.block _ (block_lt HZ7.out)).trans HZ7.out); have q10 := cells10 (HZ8.out); have hcs9 := And.intro (q10.1) (And.intro (q10.2.1) (And.intro (q10.2.2.1) (And.intro (q10.2.2.2.1) (And.intro (q10.2.2.2.2.1) (And.intro (q10.2.2.2.2.2.1) (And.intro (q10.2.2.2.2.2.2.1) (q10.2.2.2.2.2.2.2.2.2))))))); have HB8 := Lib.hid (HB7.out.trans (hb8.mono HB7.out.size)); have hkm8 := hkm.up hb8.size hb8)
            | (go_at_call 38; refine (HW.out _ _ hkm8).mono ?_; rintro e w9 ⟨rfl, hb9⟩; have HB9 := Lib.hid (HB8.out.trans (hb9.mono HB8.out.size)); have q10 := cells10 ((hb9.block _ (block_lt HZ8.out)).trans HZ8.out); have hcs := And.intro (q10.1) (And.intro (q10.2.1) (And.intro (q10.2.2.1) (And.intro (q10.2.2.2.1) (And.intro (q10.2.2.2.2.1) (And.intro (q10.2.2.2.2.2.1) (And.intro (q10.2.2.2.2.2.2.1) (q10.2.2.2.2.2.2.2.2.2)))))))))
        clear hcs hcs8 hcs9 hkm hkm8 hb7 hb8 hb9
        go_wp2_with fail
        go_ret
        exact ⟨rfl, HB9.out⟩
set_option maxHeartbeats 2000000 in
set_option maxRecDepth 100000 in
theorem rbytes_no (m : Mg) (ev : Value) (w : World) (h : m.kind < 0 ∨ m.src < -1 ∨ m.dst < -1) :
    Calls Try.prog 21 #[.agg (mgL m ev).toArray] w fun e w' => e = .returned (.string ⟨#[]⟩) ∧ Below w.heap.size w w' := by
  unfold mgL
  by_cases g1 : m.kind < 0
  · clear h
    go_enter Try.func21, Try.ntmps21
    go_wp2_with fail
    go_ret
    exact ⟨rfl, (Below.refl _ _).alloc (Nat.le_refl _) _⟩
  · by_cases g2 : m.src < -1
    · clear h
      go_enter Try.func21, Try.ntmps21
      go_wp2_with fail
      go_ret
      exact ⟨rfl, (Below.refl _ _).alloc (Nat.le_refl _) _⟩
    · have g3 : m.dst < -1 := by omega
      clear h
      go_enter Try.func21, Try.ntmps21
      go_wp2_with fail
      go_ret
      exact ⟨rfl, (Below.refl _ _).alloc (Nat.le_refl _) _⟩
end Go.Proofs.Ytgdlnjhbencjkaa
