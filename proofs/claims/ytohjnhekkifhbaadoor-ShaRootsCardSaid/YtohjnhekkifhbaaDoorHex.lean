import Derived.Test.YtohjnhekkifhbaaDoorChecked
import Derived.Test.YtohjnhekkifhbaaDoorLib
namespace Go.Proofs.YtohjnhekkifhbaaDoor
open Go.RowKit

theorem Tryd.bytesSl : Sl Tryd.prog 32 5 (.int .u8 0) 1 := ⟨Tryd.underlying32, by kernel_rfl, rfl⟩

def hexDig (k : Nat) : UInt8 := (#[48, 49, 50, 51, 52, 53, 54, 55, 56, 57, 97, 98, 99, 100, 101, 102] : Array UInt8).getD k 0
def hexOf (l : List UInt8) : List UInt8 := l.flatMap fun c => [hexDig (c.toNat / 16), hexDig (c.toNat % 16)]

theorem bits_and15 (n : Nat) (h : n < 256) : bits BinOp.and IntKind.u8 (n : Int) 15 = (n : Int) % 16 :=
  bits_mask .u8 8 (by decide) (by intro n h0 h1; rw [IntKind.wrap_u8]; omega) 4 (by decide) n (by omega) (by omega)

theorem hexl (i : Int) (m : Nat) (h : i.toNat < 16) (e : i.toNat = m) :
    (({ data := #[48, 49, 50, 51, 52, 53, 54, 55, 56, 57, 97, 98, 99, 100, 101, 102] } : ByteArray)[i.toNat]'h) = hexDig m := by
  subst e
  generalize i.toNat = k at h ⊢
  have : ∀ k, (h : k < 16) → (({ data := #[48, 49, 50, 51, 52, 53, 54, 55, 56, 57, 97, 98, 99, 100, 101, 102] } : ByteArray)[k]'h) = hexDig k := by decide
  exact this k h

theorem hexOf_snoc (l : List UInt8) (c : UInt8) : hexOf (l ++ [c]) = hexOf l ++ [hexDig (c.toNat / 16), hexDig (c.toNat % 16)] := by simp [hexOf]
theorem hexOf_length (l : List UInt8) : (hexOf l).length = 2 * l.length := by
  induction l with
  | nil => rfl
  | cons c l ih => simp [hexOf] at ih ⊢; omega
theorem take_snoc (s : ByteArray) (k : Nat) (h : k < s.size) : s.data.toList.take (k + 1) = s.data.toList.take k ++ [s[k]] := by
  rw [List.take_succ_eq_append_getElem (by simpa using h)]; rfl

theorem hex_step (s : ByteArray) (k : Nat) (hk : k < s.size) (x y : UInt8) (hx : x = hexDig (s[k].toNat / 16)) (hy : y = hexDig (s[k].toNat % 16)) :
    (hexOf (s.data.toList.take k)).map byteV ++ [.int .u8 (x.toNat : Int), .int .u8 (y.toNat : Int)] = (hexOf (s.data.toList.take (k + 1))).map byteV := by
  rw [take_snoc s k hk, hexOf_snoc, hx, hy]; simp [byteV]

set_option maxHeartbeats 400000 in
theorem hex_prog (s : ByteArray) (w : World) (hs : s.size ≤ 1000000) :
    Calls Tryd.prog 17 #[.string s] w fun e w' => e = .returned (.string ⟨(hexOf s.data.toList).toArray⟩) ∧ Below w.heap.size w w' := by
  go_enter Tryd.func17, Tryd.ntmps17
  go_wp2_with (first
      | (at_make; refine list_make0 Tryd.bytesSl rfl _ _ rfl (2 * s.size) rfl _ rfl (by omega) (by omega) (by unfold maxLen; omega) ?_))
  intro w1 hown hg
  go_wp2_with fail
  go_loopw [3, 11] (fun v i wr => ∃ k : Nat, k ≤ s.size ∧ i = .int .i64 k ∧ Owns wr w.heap.size 5 v ((hexOf (s.data.toList.take k)).map byteV) ∧ Below w.heap.size w wr) (fun _ i _ => s.size - (intOf i).toNat)
  case atStart => exact ⟨0, by omega, rfl, hown, hg⟩
  case round =>
    obtain ⟨k, hk, rfl, hw, hb⟩ := hrel
    by_cases hlt : k < s.size
    · have h0 : (0 : Int) ≤ (k : Int) := by omega
      have h1 : (k : Int) < (s.size : Int) := by omega
      have hc := s[k].toNat_lt
      have a0 : (0 : Int) ≤ (s[k].toNat : Int) / 16 := by omega
      have a1 : (s[k].toNat : Int) / 16 < 16 := by omega
      have hand : bits BinOp.and IntKind.u8 (s[k].toNat : Int) 15 = (s[k].toNat : Int) % 16 := bits_and15 _ hc
      have a2 : (0 : Int) ≤ (s[k].toNat : Int) % 16 := by omega
      have a3 : (s[k].toNat : Int) % 16 < 16 := by omega
      go_wp2_with fail
      go_region_held3 (fun _ => True) (trivial)
        ((refine step_app Tryd.bytesSl rfl _ _ rfl w.heap.size _ _ (by rfl) ((hw.alloc _).drew) wr.heap.size _ (by rfl) (heap_at_alloc wr _) (by simp [Value.oneCell']) (by simp) (by simp only [List.length_map, hexOf_length, List.length_take, List.length_cons, List.length_nil]; unfold maxLen; omega) (by simp only [List.length_map, hexOf_length, List.length_take, List.length_cons, List.length_nil]; omega) (by have := hb.size; simp [World.drew]; omega) ?_; intro v2 w2 hown2 hb2))
      all_goals
        rw [hex_step s k hlt _ _ (hexl _ _ _ (by omega)) (hexl _ _ _ (by omega))] at hown2
        have hb3 : Below w.heap.size w w2 := ((hb.alloc hb.size _).drew).trans hb2
        clear hb2 hw hb
        go_wp2
        go_roundw
        case rel => exact ⟨k + 1, by omega, by go_num, hown2, hb3⟩
        case measure => simp [intOf]; omega
    · obtain rfl : s.size = k := by omega
      have hcv := run_string_owned (src := 32) (dst := 9) Tryd.underlying32 Tryd.underlying5 Tryd.underlying9 hw
      go_wp2
      go_ret
      rw [List.take_of_length_le (by simp)]
      exact ⟨rfl, hb⟩
end Go.Proofs.YtohjnhekkifhbaaDoor
