/- CodecDeep's law. -/
import Derived.Test.YtinhemiihpohkaaCAwk
import Derived.Test.YtinhemiihpohkaaCRt
import Derived.Test.YtinhemiihpohkaaCLawR
namespace Go.Proofs.Ytinhemiihpohkaa
open Go.RowKit

def chain : Nat → F
  | 0 => .nil
  | m + 1 => .cons 2 0 ⟨#[]⟩ (chain m) .nil
def chNd (m : Nat) : Nd := ⟨2, 0, ⟨#[]⟩, chain m⟩
def chT : Nat → List UInt8
  | 0 => [108, 0]
  | m + 1 => 108 :: 1 :: chT m
def chP : Nat → List UInt8
  | 0 => []
  | m + 1 => chP m ++ [108, 1]
theorem chP_cons : ∀ m, 108 :: 1 :: chP m = chP m ++ [108, 1]
  | 0 => rfl
  | m + 1 => by
    have := chP_cons m
    show (108 :: 1 :: chP m) ++ [108, 1] = (chP m ++ [108, 1]) ++ [108, 1]
    rw [this]
theorem chT_eq : ∀ m, chP m ++ [108, 0] = chT m
  | 0 => rfl
  | m + 1 => by rw [chP, ← chP_cons, chT, ← chT_eq m]; rfl
theorem chP_len : ∀ m, (chP m).length = 2 * m
  | 0 => rfl
  | m + 1 => by rw [chP, List.length_append, chP_len m]; simp; omega
theorem chain_len (m : Nat) : (chain m).len = if m = 0 then 0 else 1 := by cases m <;> simp [chain, F.len]
theorem chain_deep : ∀ m, (chain m).deep = m
  | 0 => rfl
  | m + 1 => by simp [chain, F.deep, chain_deep m]
theorem chain_plain : ∀ m, (chain m).plain = true
  | 0 => rfl
  | m + 1 => by simp [chain, F.plain, chain_plain m, plainB]; rfl
theorem chain_ok : ∀ m, (chain m).ok
  | 0 => trivial
  | m + 1 => ⟨⟨by decide, by decide⟩, by decide, by rw [chain_len]; split <;> decide, chain_ok m, trivial⟩
theorem chNd_ok (m : Nat) : (chNd m).ok := ⟨⟨by show (0 : Int) ≤ 0; decide, by show (0 : Int) < _; decide⟩, by show (0 : Nat) < _; decide, by show (chain m).len < _; rw [chain_len]; split <;> decide, chain_ok m⟩
theorem chNd_right (m d : Nat) (h : 0 < d) : (chNd m).right d = decide (m ≤ d - 1) := by
  simp [Nd.right, chNd, plainB, right_iff, chain_deep, chain_plain, h]
  intro _; rfl
theorem chNd_bytes : ∀ m, nodeL 2 0 ⟨#[]⟩ (chain m).len (chain m).bytes = chT m
  | 0 => by simp [nodeL, chain, F.len, F.bytes, chT, szL_lt]
  | m + 1 => by
    have := chNd_bytes m
    have s1 : szL 1 = [1] := szL_lt (by omega)
    simp only [chain, F.bytes, F.len, chT, List.append_nil, this]
    simp [nodeL, s1]
theorem chT_read (m : Nat) (h : m ≤ 30) : readO (chT m) = if m ≤ 19 then some (chNd m) else none := by
  have hb := chNd_bytes m
  split
  · rename_i h19
    have := parse_app 20 2 0 ⟨#[]⟩ (chain m) [] (by have := chNd_right m 20 (by omega); rw [chNd] at this; rw [this]; simp; omega) (chNd_ok m)
    rw [hb, List.append_nil] at this
    rw [readO, this]; rfl
  · rename_i h19
    cases hr : readO (chT m) with
    | none => rfl
    | some x =>
      obtain ⟨e1, e2, e3⟩ := readO_some hr
      have hl : (chT m).length < 268435456 := by rw [← chT_eq, List.length_append, chP_len]; simp; omega
      have hx := parse_app 31 x.k x.n x.s x.kids [] (by
        have : (Nd.right x 31) = true := by
          rw [Nd.right] at e2 ⊢
          simp only [Bool.and_eq_true, decide_eq_true_eq] at e2 ⊢
          exact ⟨e2.1, by omega, right_mono _ _ _ (by omega) e2.2.2⟩
        exact this) (e3 hl)
      have hc := parse_app 31 2 0 ⟨#[]⟩ (chain m) [] (by have := chNd_right m 31 (by omega); rw [chNd] at this; rw [this]; simp; omega) (chNd_ok m)
      rw [hb] at hc
      have : nodeL x.k x.n x.s x.kids.len x.kids.bytes = chT m := e1.symm
      rw [this, hc] at hx
      have hxe := (Option.some.inj hx)
      have h1 : (⟨2, 0, ⟨#[]⟩, chain m⟩ : Nd) = ⟨x.k, x.n, x.s, x.kids⟩ := congrArg Prod.fst hxe
      have h2 : chNd m = x := h1
      rw [← h2, chNd_right m 20 (by omega)] at e2
      simp at e2; omega

/-- The block g holds the node of lists within lists; what its kids take up lies elsewhere. -/
def ChAt (w : World) (g m : Nat) : Prop := ∃ v, w.heap[g]? = some (.cells #[.int .i64 2, .int .u64 0, .string ⟨#[]⟩, v] 27 (0, 0)) ∧ KidsAt w (fun b => b ≠ g ∧ b < w.heap.size) (chain m) v
def DpRel (g n : Nat) (w : World) (s21 : Value) (wr : World) : Prop := ∃ i : Nat, s21 = .int .u8 i ∧ i + 1 ≤ n ∧ Hid (ChAt wr g i) ∧ Below g w wr
def TxRel (n : Nat) (w : World) (s6 s33 : Value) (wr : World) : Prop := ∃ (i : Nat) (T : ByteArray), s33 = .int .u8 i ∧ s6 = .string T ∧ i ≤ n ∧ Hid (T.data.toList = if i = n then chT (n - 1) else chP i) ∧ w = wr

set_option maxRecDepth 30000 in
set_option maxHeartbeats 4000000 in
theorem deep_law (n : Nat) (w : World) (hn : n < 256) : Calls Try.prog 6 #[.int .u8 n] w fun e w' => e = .returned (.bool true) ∧ Below w.heap.size w w' := by
  have HA := Lib.hid (awake_prog w)
  have hnI : (n : Int) ≤ 255 := by omega
  have hn0 : (0 : Int) ≤ (n : Int) := by omega
  by_cases hlo : n < 1
  · have hloI : (n : Int) < 1 := by omega
    clear hlo
    go_enter Try.func6, Try.ntmps6
    go_wp2_with fail
    refine HA.out.mono ?_
    rintro e w1 ⟨rfl, hb1⟩
    go_wp2
    go_ret
    exact ⟨rfl, hb1⟩
  have hloI : ¬ (n : Int) < 1 := by omega
  by_cases hhi : 30 < n
  · have hhiI : (30 : Int) < (n : Int) := by omega
    clear hhi
    go_enter Try.func6, Try.ntmps6
    go_wp2_with fail
    refine HA.out.mono ?_
    rintro e w1 ⟨rfl, hb1⟩
    go_wp2
    go_ret
    exact ⟨rfl, hb1⟩
  have hhiI : ¬ (30 : Int) < (n : Int) := by omega
  have hh30 : (n : Int) ≤ 30 := by omega
  go_enter Try.func6, Try.ntmps6
  go_wp2_with fail
  refine HA.out.mono ?_
  rintro e w1 ⟨rfl, hb1⟩
  have hl0 := Lib.hid (l_prog .nil (.slice none 0 0) (fun _ => False) w1 (by decide) (by unfold Lim; decide) trivial (KidsAt.nil _ _) (fun _ h => h.elim))
  clear HA
  go_wp2_with fail
  refine hl0.out.mono ?_
  rintro e w2 ⟨a, cap, rfl, hb2, hk2⟩
  have HB2 := Lib.hid (hb1.trans (hb2.mono hb1.size))
  clear hb1 hb2 hl0
  have HK2 := Lib.hid hk2
  clear hk2
  go_wp2_with fail
  go_loopw [21] (DpRel w2.heap.size n w2) (fun i _ => n - (intOf i).toNat)
  case atStart =>
    refine ⟨0, rfl, by omega, Lib.hid ⟨_, heap_alloc_new w2 _, HK2.out.mono (fun b hb => ⟨by omega, by simp; omega⟩) (fun b hb => Below.heap_alloc _ _ _ hb.2)⟩, (Below.refl _ w2).alloc (Nat.le_refl _) _⟩
  case round =>
    obtain ⟨i, rfl, hi, hch, hb⟩ := hrel
    obtain ⟨v, hg, hk⟩ := hch.out
    obtain ⟨va, vc, rfl⟩ := hk.shape
    obtain ⟨c0, c1, c2, c3, f0, f1, f2, f3⟩ := block4 hg
    have hglt : w2.heap.size < wr.heap.size := (Array.getElem?_eq_some_iff.1 hg).1
    have hi0 : (0 : Int) ≤ (i : Int) := by omega
    have hi255 : (i : Int) ≤ 255 := by omega
    by_cases hlt : i + 1 < n
    · have hltI : (i : Int) < (n : Int) - 1 := by omega
      have hkk : KidsAt (wr.alloc (.cells #[.int .i64 2, .int .u64 0, .string ⟨#[]⟩, .slice va (chain i).len vc] 27)) (fun b => b < wr.heap.size + 1) (chain (i + 1)) (.slice (some ⟨wr.heap.size, 0, none⟩) 1 1) := by
        refine .inr ⟨wr.heap.size, 0, 1, rfl, by omega, ⟨_, _, heap_alloc_new wr _⟩, lies_cons.2 ⟨⟨.slice va (chain i).len vc, ?_, ?_, ?_, ?_, hk.mono (fun b hb => by omega) (fun b hb => Below.heap_alloc _ _ _ hb.2)⟩, trivial⟩⟩ <;> simp [World.cell?_alloc_new]
      have hcall := Lib.hid (l_prog (chain (i + 1)) _ _ (wr.alloc (.cells #[.int .i64 2, .int .u64 0, .string ⟨#[]⟩, .slice va (chain i).len vc] 27)) (by rw [chain_deep]; omega) (by unfold Lim; rw [chain_len]; simp) (chain_ok _) hkk (fun b hb => by simpa using hb))
      have HG := Lib.hid hg
      clear hkk hk hg
      go_wp2_with fail
      refine hcall.out.mono ?_
      rintro e w5 ⟨a5, cap5, rfl, hb5, hk5⟩
      have hg5 : Hid (w5.heap[w2.heap.size]? = some (.cells #[.int .i64 2, .int .u64 0, .string ⟨#[]⟩, .slice va (chain i).len vc] 27 (0, 0))) := Lib.hid (by rw [hb5.block _ (by simp; omega), Below.heap_alloc _ _ _ hglt]; exact HG.out)
      obtain ⟨c0, c1, c2, c3, f0, f1, f2, f3⟩ := block4 hg5.out
      have HK5 := Lib.hid hk5
      clear hcall hk5
      go_wp2_with fail
      go_roundw
      case rel =>
        refine ⟨i + 1, by go_num, by omega, Lib.hid ⟨.slice a5 (chain (i + 1)).len cap5, ?_, ?_⟩, ?_⟩
        · have h1 := heap_setCell_same w5 w2.heap.size 0 _ _ (.int .i64 2) hg5.out
          have h2 := heap_setCell_same _ w2.heap.size 1 _ _ (.int .u64 0) h1
          have h3 := heap_setCell_same _ w2.heap.size 2 _ _ (.string ⟨#[]⟩) h2
          exact heap_setCell_same _ w2.heap.size 3 _ _ (.slice a5 (chain (i + 1)).len cap5) h3
        · refine HK5.out.mono (fun b hb => ⟨by simp at hb; omega, by simp only [size_setCell]; exact hb.2⟩) (fun b hb => ?_)
          have hne : b ≠ w2.heap.size := by simp at hb; omega
          rw [setCell_ne _ _ _ _ _ hne, setCell_ne _ _ _ _ _ hne, setCell_ne _ _ _ _ _ hne, setCell_ne _ _ _ _ _ hne]
        · have hbb := (hb.alloc (by omega) (.cells #[.int .i64 2, .int .u64 0, .string ⟨#[]⟩, .slice va (chain i).len vc] 27)).trans (hb5.mono (by simp; omega))
          exact (((hbb.setCell (Nat.le_refl _) _).setCell (Nat.le_refl _) _).setCell (Nat.le_refl _) _).setCell (Nat.le_refl _) _
      case measure => rw [intOf_int, intOf_int]; omega
    · have hltI : ¬ ((i : Int) < (n : Int) - 1) := by omega
      obtain rfl : n = i + 1 := by omega
      obtain ⟨r, hr⟩ : ∃ r, decide (i ≤ 19) = r := ⟨_, rfl⟩
      obtain ⟨S, hS⟩ : ∃ S : ByteArray, S = if r then ⟨(chT i).toArray⟩ else ⟨#[]⟩ := ⟨_, rfl⟩
      have hkw : KidsAt wr (· < wr.heap.size) (chain i) (.slice va (chain i).len vc) := hk.mono (fun _ h => h.2) (fun _ _ => rfl)
      have hlen : (chT i).length ≤ 100 := by rw [← chT_eq, List.length_append, chP_len]; simp; omega
      have hwr := Lib.hid (write_prog 2 0 ⟨#[]⟩ (chain i) (.slice va (chain i).len vc) wr (chNd_ok i) hkw (by rw [chNd_bytes]; unfold Fits; omega) r S (by have := chNd_right i 20 (by omega); rw [chNd] at this; rw [this, ← hr]) (by rw [chNd_bytes]; exact hS))
      unfold nodeV at hwr
      have HKW := Lib.hid hkw
      have HG := Lib.hid hg
      have HR := Lib.hid hr
      have HS := Lib.hid hS
      have HL := Lib.hid hlen
      have HBW : Hid (Below w.heap.size w wr) := Lib.hid (HB2.out.trans (hb.mono HB2.out.size))
      clear hkw hk hg hr hS hlen hb hch
      go_wp2_with fail
      refine hwr.out.mono ?_
      rintro e w6 ⟨rfl, hb6⟩
      have hg6 : Hid (w6.heap[w2.heap.size]? = some (.cells #[.int .i64 2, .int .u64 0, .string ⟨#[]⟩, .slice va (chain i).len vc] 27 (0, 0))) := Lib.hid (by rw [hb6.block _ hglt]; exact HG.out)
      have HK6 : Hid (KidsAt w6 (· < w6.heap.size) (chain i) (.slice va (chain i).len vc)) := Lib.hid (HKW.out.mono (fun _ h => Nat.lt_of_lt_of_le h hb6.size) (fun b h => hb6.block b h))
      have HB6 : Hid (Below w.heap.size w w6) := Lib.hid (HBW.out.trans (hb6.mono HBW.out.size))
      have hg6lt : w2.heap.size < w6.heap.size := by have := hb6.size; omega
      clear hwr hb6 c0 c1 c2 c3 f0 f1 f2 f3
      go_wp2_with fail
      go_loopw [6, 33] (TxRel (i + 1) w6) (fun _ s _ => i + 1 - (intOf s).toNat)
      case atStart => exact ⟨0, ⟨#[]⟩, rfl, rfl, by omega, Lib.hid (by rw [if_neg (by omega)]; rfl), rfl⟩
      case round =>
        obtain ⟨j, T, rfl, rfl, hj, hT, rfl⟩ := hrel
        have hj0 : (0 : Int) ≤ (j : Int) := by omega
        have hj255 : (j : Int) ≤ 254 := by omega
        by_cases hjl : j < i + 1
        · have hjI : (j : Int) < (i : Int) + 1 := by omega
          have hT2 := hT.out
          rw [if_neg (by omega)] at hT2
          have hTsz : (T.size : Int) ≤ 200 := by have h1 := congrArg List.length hT2; rw [chP_len] at h1; simp at h1; omega
          have hTs0 : (0 : Int) ≤ (T.size : Int) := by omega
          by_cases hji : j = i
          · have he : ((j : Int) == (i : Int)) = true := by simp [hji]
            have HN : Hid ((T ++ (⟨#[108, 0]⟩ : ByteArray)).data.toList = chT i) := Lib.hid (by rw [ByteArray.data_append, Array.toList_append, hT2, hji, chT_eq])
            have HJ := Lib.hid hji
            clear hji hT2 hT
            go_wp2_with fail
            go_roundw
            case rel => exact ⟨j + 1, _, by go_num, rfl, by omega, Lib.hid (by rw [if_pos (by rw [HJ.out])]; simpa using HN.out), rfl⟩
            case measure => rw [intOf_int, intOf_int]; omega
          · have he : ((j : Int) == (i : Int)) = false := by simp; omega
            have HN : Hid ((T ++ (⟨#[108, 1]⟩ : ByteArray)).data.toList = chP (j + 1)) := Lib.hid (by rw [ByteArray.data_append, Array.toList_append, hT2]; rfl)
            have HJ := Lib.hid hji
            clear hji hT2 hT
            go_wp2_with fail
            go_roundw
            case rel => exact ⟨j + 1, _, by go_num, rfl, by omega, Lib.hid (by rw [if_neg (by have := HJ.out; omega)]; exact HN.out), rfl⟩
            case measure => rw [intOf_int, intOf_int]; omega
        · have hjI : ¬ ((j : Int) < (i : Int) + 1) := by omega
          have hT2 := hT.out
          rw [if_pos (by omega), show i + 1 - 1 = i by omega] at hT2
          have hTs : T.size ≤ 10000000 := by have := congrArg List.length hT2; have := HL.out; simp at *; omega
          have hrd := Lib.hid (read_prog T w6 hTs)
          have HT := Lib.hid hT2
          clear hT2 hT
          go_wp2_with fail
          refine hrd.out.mono ?_
          rintro e w7 ⟨x, xa, xn, xc, b, rfl, hb7, p1, p2, _⟩
          unfold nodeV
          have hbr : Hid (b = r) := Lib.hid (by
            have h1 := chT_read i (by omega)
            rw [← HT.out] at h1
            have h2 := HR.out
            cases b with
            | true =>
              have := p1 rfl
              rw [this] at h1
              by_cases h19 : i ≤ 19
              · rw [← h2]; simp [h19]
              · rw [if_neg h19] at h1; cases h1
            | false =>
              have := (p2 rfl).1
              rw [this] at h1
              by_cases h19 : i ≤ 19
              · rw [if_pos h19] at h1; cases h1
              · rw [← h2]; simp [h19])
          have hg7 : Hid (w7.heap[w2.heap.size]? = some (.cells #[.int .i64 2, .int .u64 0, .string ⟨#[]⟩, .slice va (chain i).len vc] 27 (0, 0))) := Lib.hid (by rw [hb7.block _ hg6lt]; exact hg6.out)
          obtain ⟨c0, c1, c2, c3, _, _, _, _⟩ := block4 hg7.out
          have HB7 : Hid (Below w.heap.size w w7) := Lib.hid (HB6.out.trans (hb7.mono HB6.out.size))
          have hlt7 : w2.heap.size < w7.heap.size := by have := hb7.size; omega
          have hrt := Lib.hid (right_prog (chNd i) (.slice va (chain i).len vc) (w7.alloc (.cells #[.int .i64 x.k, .int .u64 x.n, .string x.s, .slice xa xn xc] 27)) (chNd_ok i)
            (HK6.out.mono (fun _ h => by have := hb7.size; simp; omega) (fun z h => by rw [Below.heap_alloc _ _ _ (by have := hb7.size; omega)]; exact hb7.block z h)))
          rw [chNd_right i 20 (by omega), HR.out] at hrt
          unfold nodeV chNd at hrt
          simp only at hrt
          have hrb := hbr.out
          clear p1 p2 hb7 hrd hbr
          subst hrb
          have hR := HR.out
          cases b with
          | false =>
            have h20 : ¬ ((i : Int) + 1 ≤ 20) := by simp at hR; omega
            have h20d : decide ((i : Int) + 1 ≤ 20) = false := by simpa using h20
            clear hR
            go_wp2_with fail
            refine hrt.out.mono ?_
            rintro e w8 ⟨rfl, hb8⟩
            have HB8 := Lib.hid ((HB7.out.alloc HB7.out.size (.cells #[.int .i64 x.k, .int .u64 x.n, .string x.s, .slice xa xn xc] 27)).trans (hb8.mono (by have := HB7.out.size; simp; omega)))
            clear hb8 hrt
            go_wp2_with fail
            go_ret
            exact ⟨rfl, HB8.out⟩
          | true =>
            have h20 : (i : Int) + 1 ≤ 20 := by simp at hR; omega
            have h20d : decide ((i : Int) + 1 ≤ 20) = true := by simpa using h20
            have hST : S = T := by
              rw [HS.out]
              apply ByteArray.ext
              simp only [if_true]
              rw [← HT.out]
            subst hST
            clear hR
            go_wp2_with fail
            refine hrt.out.mono ?_
            rintro e w8 ⟨rfl, hb8⟩
            have HB8 := Lib.hid ((HB7.out.alloc HB7.out.size (.cells #[.int .i64 x.k, .int .u64 x.n, .string x.s, .slice xa xn xc] 27)).trans (hb8.mono (by have := HB7.out.size; simp; omega)))
            clear hb8 hrt
            go_wp2
            go_ret
            exact ⟨rfl, HB8.out⟩
end Go.Proofs.Ytinhemiihpohkaa
