/- The reference's Texts. -/
import Derived.Test.YtohcackebmmikaaDoorIRefC
import Derived.Test.YtohcackebmmikaaDoorIRefN
import Derived.Test.YtohcackebmmikaaDoorILawL
namespace Go.Proofs.YtohcackebmmikaaDoor
open Go.RowKit

/-- Bytes as a text. -/
def bs (l : List UInt8) : ByteArray := ⟨l.toArray⟩
theorem ks_bs (l : List UInt8) : ks (bs l) = l := by simp [ks, bs]
theorem bs_ks (s : ByteArray) : bs (ks s) = s := ks_inj (ks_bs _)
theorem bs_size (l : List UInt8) : (bs l).size = l.length := mk_size l
def Tr.txs (t : Tr) : List ByteArray := t.texts.map bs
/-- The slice value v owns these texts. -/
def SOwn (w : World) (B : Nat) (v : Value) (l : List ByteArray) : Prop := w.ownsRow B 9 1 v l.length (l.map Value.string)
theorem SOwn.alloc {w : World} {B : Nat} {v : Value} {l : List ByteArray} (h : SOwn w B v l) (o : Obj) : SOwn (w.alloc o) B v l := World.ownsRow.alloc h o
theorem SOwn.low {w : World} {B : Nat} {v : Value} {l : List ByteArray} (h : SOwn w B v l) : ∀ k, v.ownBlock = some k → B ≤ k := ownN_low h
theorem SOwn.later {w w' : World} {B : Nat} {v : Value} {l : List ByteArray} (h : SOwn w B v l) (hb : Below w.heap.size w w') : SOwn w' B v l := ownN_mv h (fun k hk => hb.block k (World.ownsRow.lt h k hk).2)
theorem SOwn.base {w : World} {B B' : Nat} {v : Value} {l : List ByteArray} (h : SOwn w B v l) (hB : B' ≤ B) : SOwn w B' v l := ownN_base h (fun k hk => Nat.le_trans hB (SOwn.low h k hk))
/-- Where an owned slice that is not empty lies. -/
theorem SOwn.at {w : World} {B : Nat} {v : Value} {l : List ByteArray} (h : SOwn w B v l) (hne : l ≠ []) : ∃ g c, v = .slice (some ⟨g, 0, none⟩) l.length c ∧ l.length ≤ c ∧ B ≤ g ∧ g < w.heap.size ∧ ∀ i s, l[i]? = some s → w.cell? ⟨g, i, none⟩ = some (.string s) := by
  rcases h.2 with ⟨h1, h2⟩ | ⟨g, cap, cur, he, hB, hg, hn, hm, hs, ht⟩
  · exact absurd (List.eq_nil_of_length_eq_zero h2) hne
  · refine ⟨g, cap, he, hn, hB, block_lt hg, fun i s hi => ?_⟩
    have hj : i < l.length := (List.getElem?_eq_some_iff.1 hi).1
    have hu : (l.map Value.string)[i]? = some (.string s) := by rw [List.getElem?_map, hi]; rfl
    rw [← ht, List.getElem?_take] at hu
    split at hu
    · unfold World.cell?
      rw [hg]
      simpa using hu
    · cases hu
def TxRes (w : World) (l : List ByteArray) (e : Ending) (w' : World) : Prop := ∃ v, e = .returned v ∧ SOwn w' w.heap.size v l ∧ Below w.heap.size w w'

theorem leaf_three (k v S : ByteArray) (hS : sumB (ks v) = S) : (⟨#[0]⟩ : ByteArray) ++ k ++ S = bs (leafT k v) := by
  subst hS
  apply ks_inj
  rw [ks_bs]
  simp [leafT, ks, sumB]
theorem own_two (w : World) (B : Nat) (hB : B ≤ w.heap.size) (x y : ByteArray) : SOwn (w.alloc (.cells #[.string x, .string y] 9)) B (.slice (some ⟨w.heap.size, 0, none⟩) 2 2) [x, y] :=
  World.ownsRow_lit w #[.string x, .string y] 2 hB (by decide) (by simp)

set_option maxRecDepth 30000 in
set_option maxHeartbeats 2000000 in
theorem texts_leaf (k v : ByteArray) (lv : Value) (w : World) (hk : k.size = 32) (hv : v.size ≤ 100) (h : PSl w lv [(k, v)]) :
    Calls Tryd.prog 28 #[lv] w (TxRes w (Tr.leaf k v).txs) := by
  obtain ⟨aa, c, rfl, hc, hcells⟩ := h
  obtain ⟨g, o, rfl, hg, hcs⟩ := hcells (by simp)
  obtain ⟨c1, c2⟩ := hcs 0 (k, v) rfl
  rw [Nat.zero_mul, Nat.add_zero] at c1 c2
  simp only at c1 c2
  have hl : [(k, v)].length = 1 := rfl
  rw [hl]
  obtain ⟨S, hS⟩ : ∃ S, sumB (ks v) = S := ⟨_, rfl⟩
  have hSs : S.size ≤ 32 := by rw [← hS, sumB_size]; omega
  have HP := Lib.hid (fun W => print_at v S W hS (by omega))
  have hk2 : k.size ≤ 32 := by omega
  have H3 := Lib.hid (leaf_three k v S hS)
  have q1 : ¬ 9223372036854775807 < 1 + k.size := by omega
  have q2 : ¬ 9223372036854775807 < 1 + k.size + S.size := by omega
  clear hcells hcs hc hl hS hk
  go_enter Tryd.func28, Tryd.ntmps28
  go_wp2_with fail
  go_region_held3 (fun w' => w'.cell? ⟨g, o, none⟩ = some (.string k) ∧ w'.cell? ⟨g, o + 1, none⟩ = some (.string v))
    (first | exact ⟨c1, c2⟩ | exact e4 | exact ⟨cellA _ e4.1, cellA _ e4.2⟩)
    ((go_at_call 30; refine (HP.out _).mono ?_; rintro e w4 ⟨rfl, hb4⟩; have e4 := And.intro (cellD hb4 c1) (cellD hb4 c2); have HB4 := Lib.hid ((Below.refl w.heap.size w).drew.trans hb4)))
  go_wp2
  go_ret
  refine ⟨_, rfl, ?_, HB4.out.alloc HB4.out.size _⟩
  show SOwn _ _ _ [bs (ks v), bs (leafT k v)]
  rw [bs_ks, ← H3.out]
  exact own_two w4 _ HB4.out.size _ _
end Go.Proofs.YtohcackebmmikaaDoor
