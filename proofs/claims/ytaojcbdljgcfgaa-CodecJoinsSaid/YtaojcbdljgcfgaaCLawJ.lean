/- CodecJoins' law. -/
import Derived.Test.YtaojcbdljgcfgaaCTop
namespace Go.Proofs.Ytaojcbdljgcfgaa
open Go.RowKit

theorem F.drop_plain : ∀ (f : F) (i : Nat), f.plain = true → (f.drop i).plain = true
  | .nil, i, _ => by rw [F.drop_nil]; rfl
  | .cons _ _ _ _ _, 0, h => h
  | .cons k n s c r, i + 1, h => by
    simp only [F.plain, Bool.and_eq_true] at h
    exact F.drop_plain r i h.2.2
/-- A kid of what is right is right. -/
theorem kid_right {f : F} (hr : (tnd f).right 20 = true) {i : Nat} {k n : Int} {s : ByteArray} {c : F} (hd : f.drop i = .cons k n s c (f.drop (i + 1))) : Nd.right ⟨k, n, s, c⟩ 20 = true := by
  unfold Nd.right tnd at hr
  simp only [Bool.and_eq_true] at hr
  have h1 := hr.2.2
  rw [right_iff, Bool.and_eq_true, decide_eq_true_eq] at h1
  have h2 := F.drop_deep f i
  have h3 := F.drop_plain f i h1.2
  rw [hd] at h2 h3
  simp only [F.deep, F.plain, Bool.and_eq_true] at h2 h3
  unfold Nd.right
  simp only [Bool.and_eq_true, decide_eq_true_eq, right_iff]
  exact ⟨h3.1, by omega, by omega, h3.2.1⟩
theorem tbs_start {f : F} (h : f.len < 128) : [108, UInt8.ofNat f.len] ++ f.bytes = tbs f := by
  unfold tbs nodeL
  rw [szL_lt h]
  rfl
def JnRel (f : F) (W : World) (B : Nat) (al i : Value) (wr : World) : Prop :=
  ∃ (k : Nat) (A : ByteArray), i = .int .i64 k ∧ k ≤ f.len ∧ al = .string A ∧ A.size ≤ 81016 ∧ Hid (A.data.toList ++ (f.drop k).bytes = tbs f) ∧ Below B W wr

set_option maxRecDepth 30000 in
set_option maxHeartbeats 2000000 in
theorem joins_law (la : Option Addr) (ln lc : Nat) (w : World) (hf : Flats w w.heap.size la ln) :
    Calls Try.prog 7 #[.slice la ln lc] w fun e w' => e = .returned (.bool true) ∧ Below w.heap.size w w' := by
  have HA := Lib.hid (awake_prog w)
  have HF := Lib.hid hf
  clear hf
  go_enter Try.func7, Try.ntmps7
  go_wp2_with fail
  refine HA.out.mono ?_
  rintro e w1 ⟨rfl, hb1⟩
  have HT := Lib.hid (tree_prog la ln lc w1 (flats_below HF.out (Nat.le_refl _) hb1))
  go_wp2_with fail
  refine HT.out.mono ?_
  rintro e w2 ⟨hb2, hres⟩
  have HB2 := Lib.hid (hb1.trans (hb2.mono hb1.size))
  clear HT HA hb1 hb2
  rcases hres with ⟨ka, kn, kc, f, rfl, hk, hwt, hnok⟩ | rfl
  · obtain rfl : kn = f.len := by
      obtain ⟨_, _, h⟩ := hk.shape
      injection h
    have HK := Lib.hid hk
    have HW := Lib.hid hwt
    have HN := Lib.hid hnok
    clear hk hwt hnok
    unfold nodeV
    obtain ⟨W, hW⟩ : ∃ W, W = w2.alloc (.cells #[.int .i64 2, .int .u64 0, .string ⟨#[]⟩, .slice ka f.len kc] 27) := ⟨_, rfl⟩
    have hkW : Hid (KidsAt W (· < W.heap.size) f (.slice ka f.len kc)) := Lib.hid (by rw [hW]; exact kids_later HK.out ((Below.refl _ w2).alloc (Nat.le_refl _) _))
    have hbW : Hid (Below w.heap.size w W) := Lib.hid (by rw [hW]; exact HB2.out.alloc HB2.out.size _)
    have hblk : Hid (W.heap[w2.heap.size]? = some (.cells #[.int .i64 2, .int .u64 0, .string ⟨#[]⟩, .slice ka f.len kc] 27 (0, 0))) := Lib.hid (by rw [hW]; exact heap_alloc_new w2 _)
    have hlW : Hid (w2.heap.size < W.heap.size) := Lib.hid (by rw [hW]; simp)
    obtain ⟨r, hr⟩ : ∃ r, r = (tnd f).right 20 := ⟨_, rfl⟩
    obtain ⟨S, hS⟩ : ∃ S : ByteArray, S = if r then ⟨(tbs f).toArray⟩ else ⟨#[]⟩ := ⟨_, rfl⟩
    have hwr := Lib.hid (write_prog 2 0 ⟨#[]⟩ f (.slice ka f.len kc) W (tree_ok HW.out HN.out).1 hkW.out (tree_fits HW.out HN.out) r S hr.symm hS)
    unfold nodeV at hwr
    have HS := Lib.hid hS
    have HR := Lib.hid hr
    clear hS hr
    cases r with
    | false =>
      go_wp2_with fail
      rw [← hW]
      refine hwr.out.mono ?_
      rintro e w3 ⟨rfl, hb3⟩
      go_wp2_with fail
      go_ret
      exact ⟨rfl, hbW.out.trans (hb3.mono hbW.out.size)⟩
    | true =>
      go_wp2_with fail
      rw [← hW]
      refine hwr.out.mono ?_
      rintro e w3 ⟨rfl, hb3⟩
      have HBW3 := Lib.hid hb3
      obtain ⟨_, _, _, c3, _, _, _, _⟩ := block4 (block_kept hblk.out hlW.out hb3)
      have hl3 : w2.heap.size < w3.heap.size := by have := hlW.out; have := hb3.size; omega
      have hflen := (tree_ok HW.out HN.out).2.2
      have hfI : (f.len : Int) ≤ 127 := by omega
      have hf0 : (0 : Int) ≤ (f.len : Int) := by omega
      have hmc : (f.len : Int) = ((UInt8.ofNat f.len).toNat : Int) := by simp; omega
      have hcv : (convert 40 9 (.slice (some ⟨w3.heap.size, 0, none⟩) 1 1)).run Try.prog (w3.alloc (.cells #[.int .u8 (f.len : Int)] 5)) = .ok (.string ⟨#[UInt8.ofNat f.len]⟩) (w3.alloc (.cells #[.int .u8 (f.len : Int)] 5)) :=
        run_string_block (w := (w3.alloc (.cells #[.int .u8 (f.len : Int)] 5))) (src := 40) (dst := 9) Try.underlying40 Try.underlying5 Try.underlying9 w3.heap.size 1 [UInt8.ofNat f.len] (by rw [heap_at_alloc, hmc]; simp [byteV])
      clear hb3 hwr hW hmc
      go_wp2_with fail
      obtain ⟨w4, hw4⟩ : ∃ w4, w4 = w3.alloc (.cells #[.int .u8 (f.len : Int)] 5) := ⟨_, rfl⟩
      have hbw4 : Below W.heap.size W w4 := by rw [hw4]; exact HBW3.out.alloc HBW3.out.size _
      try rw [← hw4]
      go_loopw [7, 38] (JnRel f W W.heap.size) (fun _ i _ => f.len - (intOf i).toNat)
      case atStart => exact ⟨0, _, rfl, by omega, rfl, by rw [ByteArray.size_append]; show 1 + 1 ≤ 81016; omega, Lib.hid (by have := tbs_start hflen; simpa [F.drop] using this), hbw4⟩
      case round =>
        obtain ⟨k, A, rfl, hk, rfl, hA, hAb, hb⟩ := hrel
        have hAI : (A.size : Int) ≤ 81016 := by omega
        clear hcv c3 hbw4 hw4
        by_cases hlt : k < f.len
        · have hltI : (k : Int) < (f.len : Int) := by omega
          have hk0 : (0 : Int) ≤ (k : Int) := by omega
          obtain ⟨g, o, cap, hkv, hgB, hlx⟩ := hkW.out.lies (by omega)
          injection hkv with e1 _ e2
          subst e1 e2
          obtain ⟨k1, n1, s1, c1, hd⟩ := F.drop_at f k hlt
          have hlx2 := (Lies.drop k f g o hlx).below hgB hb
          rw [hd] at hlx2
          obtain ⟨⟨v1, p0, p1, p2, p3, hk1⟩, _⟩ := lies_cons.1 hlx2
          obtain ⟨a1, b1, rfl⟩ := hk1.shape
          have hokd := F.drop_ok f k (tree_ok HW.out HN.out).1.2.2.2
          rw [hd] at hokd
          have hkr := kid_right HR.out.symm hd
          obtain ⟨T, hT⟩ : ∃ T : ByteArray, T = ⟨(nodeL k1 n1 s1 c1.len c1.bytes).toArray⟩ := ⟨_, rfl⟩
          have hTl : Hid (T.data.toList = nodeL k1 n1 s1 c1.len c1.bytes) := Lib.hid (by rw [hT])
          have hTs : A.size + T.size ≤ 81016 := by
            have h1 := (tree_ok HW.out HN.out).2.1
            rw [← hAb.out, hd, List.length_append] at h1
            simp only [F.bytes, List.length_append] at h1
            rw [← hTl.out] at h1
            simp only [Array.length_toList, ByteArray.size_data] at h1
            omega
          have hTI : (T.size : Int) ≤ 81016 := by omega
          obtain ⟨V, hV⟩ : ∃ V, V = wr.alloc (.cells #[.int .i64 k1, .int .u64 n1, .string s1, .slice a1 c1.len b1] 27) := ⟨_, rfl⟩
          have hk1V : KidsAt V (· < V.heap.size) c1 (.slice a1 c1.len b1) := by
            rw [hV]; exact hk1.up (by have := hb.size; simp; omega) (((Below.refl _ wr).alloc (by have := hb.size; omega) _))
          have hwr2 := Lib.hid (write_prog k1 n1 s1 c1 (.slice a1 c1.len b1) V ⟨hokd.1, hokd.2.1, hokd.2.2.1, hokd.2.2.2.1⟩ hk1V (by rw [← hTl.out]; unfold Fits; simp only [Array.length_toList, ByteArray.size_data]; omega) true T hkr hT)
          unfold nodeV at hwr2
          have HD := Lib.hid hd
          have HT := Lib.hid hT
          have HbV : Hid (Below W.heap.size W V) := Lib.hid (by rw [hV]; exact hb.alloc hb.size _)
          clear hT hd hlx hlx2 hk1 hkr hokd hk1V
          go_wp2_with fail
          rw [← hV]
          refine hwr2.out.mono ?_
          rintro e w5 ⟨rfl, hb5⟩
          go_wp2_with fail
          go_roundw
          case rel => exact ⟨k + 1, A ++ T, by simp, by omega, rfl, by rw [ByteArray.size_append]; omega, Lib.hid (by
            rw [ByteArray.data_append, Array.toList_append, hTl.out, List.append_assoc, ← hAb.out, HD.out]; rfl), HbV.out.trans (hb5.mono HbV.out.size)⟩
          case measure => rw [intOf_int, intOf_int]; omega
        · have hge : ¬ (k : Int) < (f.len : Int) := by omega
          have hAS : S.toList = A.toList := by
            have hkf : k = f.len := by omega
            have h1 := hAb.out
            rw [hkf, F.drop_end, F.bytes, List.append_nil] at h1
            have h2 : S.data.toList = A.data.toList := by rw [h1, HS.out]; simp
            rw [ByteArray.toList_eq, ByteArray.toList_eq, h2]
          go_wp2_with fail
          go_ret
          exact ⟨rfl, hbW.out.trans (hb.mono hbW.out.size)⟩
  · unfold nodeV
    go_wp2_with fail
    go_ret
    exact ⟨rfl, HB2.out.alloc HB2.out.size _⟩
end Go.Proofs.Ytaojcbdljgcfgaa
