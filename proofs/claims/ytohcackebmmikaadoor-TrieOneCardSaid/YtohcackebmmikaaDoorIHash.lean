/- trie's Empty, LeafHash, ForkHash. -/
import Derived.Test.YtohcackebmmikaaDoorIFirst
import Derived.Test.YtohcackebmmikaaDoorSRounds
namespace Go.Proofs.YtohcackebmmikaaDoor
open Go.RowKit

theorem sum_ok : SumOk := sum_prog rounds_ok

/-- The hash of bytes, as a text. -/
def sumB (l : List UInt8) : ByteArray := ⟨(sumL l).toArray⟩
theorem sumL_length (l : List UInt8) : (sumL l).length = 32 := by rw [sumL, sumBy_length]
theorem sumB_size (l : List UInt8) : (sumB l).size = 32 := by rw [sumB, mk_size, sumL_length]
theorem ks_sumB (l : List UInt8) : ks (sumB l) = sumL l := by simp [ks, sumB]
/-- What a leaf's hash is of, and a fork's. -/
def leafT (k v : ByteArray) : List UInt8 := 0 :: (ks k ++ sumL (ks v))
def forkT (p : Nat) (k z o : ByteArray) : List UInt8 := 1 :: UInt8.ofNat (p / 256) :: UInt8.ofNat (p % 256) :: (ks k ++ (ks z ++ ks o))
def leafH (k v : ByteArray) : ByteArray := sumB (leafT k v)
def forkH (p : Nat) (k z o : ByteArray) : ByteArray := sumB (forkT p k z o)
/-- 32 bytes 0. -/
def noneH : ByteArray := ⟨(List.replicate 32 (0 : UInt8)).toArray⟩

theorem leafT_length (k v : ByteArray) : (leafT k v).length = k.size + 33 := by simp [leafT, sumL_length]
theorem forkT_length (p : Nat) (k z o : ByteArray) : (forkT p k z o).length = k.size + z.size + o.size + 3 := by simp [forkT]; omega
theorem sum_at (s : ByteArray) (T : List UInt8) (w : World) (hT : ks s = T) (hs : T.length ≤ 100000) (hst : Start w) :
    Calls Tryd.prog 63 #[.string s] w fun e w' => e = .returned (.string (sumB T)) ∧ Below w.heap.size w w' := by
  subst hT; exact sum_ok s w (by simpa using hs) hst

set_option maxRecDepth 100000 in
theorem leafHash_prog (k v : ByteArray) (w : World) (hk : k.size ≤ 1000) (hv : v.size ≤ 1000) (hst : Start w) :
    Calls Tryd.prog 56 #[.string k, .string v] w fun e w' => e = .returned (.string (leafH k v)) ∧ Below w.heap.size w w' := by
  have HS := Lib.hid hst
  clear hst
  obtain ⟨S, hS⟩ : ∃ S, S = sumB (ks v) := ⟨_, rfl⟩
  have hsz : S.size ≤ 32 := by rw [hS, sumB_size]; omega
  have HSS := Lib.hid hS
  clear hS
  go_enter Tryd.func56, Tryd.ntmps56
  go_wp2_with fail
  refine (sum_at v _ _ rfl (by simp; omega) HS.out).mono ?_
  rw [← HSS.out]
  rintro e w1 ⟨rfl, hb1⟩
  have hst1 := Lib.hid (HS.out.later hb1)
  go_wp2_with fail
  refine (sum_at _ (leafT k v) _ ?_ ?_ hst1.out).mono ?_
  · simp [leafT, HSS.out, ks, sumB]
  · rw [leafT_length]; omega
  rintro e w2 ⟨rfl, hb2⟩
  go_wp2
  go_ret
  exact ⟨rfl, hb1.trans (hb2.mono hb1.size)⟩

set_option maxRecDepth 100000 in
theorem forkHash_prog (p : Nat) (k z o : ByteArray) (w : World) (hp : p < 65536) (hk : k.size ≤ 1000) (hz : z.size ≤ 1000) (ho : o.size ≤ 1000) (hst : Start w) :
    Calls Tryd.prog 61 #[.int .i64 p, .string k, .string z, .string o] w fun e w' => e = .returned (.string (forkH p k z o)) ∧ Below w.heap.size w w' := by
  have HS := Lib.hid hst
  clear hst
  have hp0 : (0 : Int) ≤ (p : Int) := by omega
  have hp1 : (p : Int) ≤ 65535 := by omega
  have hcv := run_string_block (P := Tryd.prog) (w := w.alloc (.cells #[.int .u8 ((p : Int) / 256), .int .u8 ((p : Int) % 256)] 5)) (src := 58) (dst := 9) Tryd.underlying58 Tryd.underlying5 Tryd.underlying9 w.heap.size 2 [UInt8.ofNat (p / 256), UInt8.ofNat (p % 256)] (by rw [heap_at_alloc]; simp [byteV]; omega)
  simp only [List.length_cons, List.length_nil, Nat.zero_add] at hcv
  go_enter Tryd.func61, Tryd.ntmps61
  go_wp2_with fail
  refine (sum_at _ (forkT p k z o) _ ?_ ?_ (HS.out.later ((Below.refl _ w).alloc (Nat.le_refl _) _))).mono ?_
  · simp [forkT, ks]
  · rw [forkT_length]; omega
  rintro e w2 ⟨rfl, hb2⟩
  go_wp2
  go_ret
  exact ⟨rfl, ((Below.refl _ w).alloc (Nat.le_refl _) _).trans (hb2.mono (by simp))⟩

theorem empty_prog (w : World) :
    Calls Tryd.prog 35 #[] w fun e w' => e = .returned (.string noneH) ∧ Below w.heap.size w w' := by
  go_enter Tryd.func35, Tryd.ntmps35
  go_wp2_with (refine list_makeN Tryd.bytesSl rfl _ _ rfl 32 32 32 rfl rfl rfl rfl (by omega) (by unfold maxLen; omega) rfl ?_)
  intro w1 hr hb
  have hc := rowIs_block hr
  have hcells := cells_map 32 (List.replicate 32 (0 : UInt8)) (fun _ => 0) (by simp) (fun j hj => by rw [List.getD_eq_getElem?_getD, List.getElem?_replicate]; simp [hj])
  have e0 : arrL 32 (fun _ => Value.int .u8 0) = (List.replicate 32 (0 : UInt8)).map byteV := hcells
  rw [e0] at hc
  have hcv := run_string_row (src := 58) (dst := 9) Tryd.underlying58 Tryd.underlying5 Tryd.underlying9 w.heap.size 32 (List.replicate 32 (0 : UInt8)) (P := Tryd.prog) (e := 5) (w := w1) hc
  rw [List.length_replicate] at hcv
  clear hc hcells e0 hr
  go_wp2
  go_ret
  exact ⟨rfl, hb⟩
end Go.Proofs.YtohcackebmmikaaDoor
