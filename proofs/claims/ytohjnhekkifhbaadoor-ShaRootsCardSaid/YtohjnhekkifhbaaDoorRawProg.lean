import Derived.Test.YtohjnhekkifhbaaDoorRawSpec
namespace Go.Proofs.YtohjnhekkifhbaaDoor
open Go.RowKit

set_option maxHeartbeats 400000 in
theorem digit_some (c x : Nat) (w : World) (hc : c < 256) (h : digV c = some x) :
    Calls Tryd.prog 34 #[.int .u8 c] w fun e w' => e = .returned (.tuple #[.int .u8 x, .bool true]) ∧ w = w' := by
  unfold digV at h
  split at h
  · rename_i h1
    obtain ⟨h1, h2⟩ := h1
    have hx : c - 48 = x := by simpa using h
    clear h
    have e1 : (x : Int) = c - 48 := by omega
    have HE := Lib.hid e1; clear e1 hx
    go_enter Tryd.func34, Tryd.ntmps34
    go_wp2
    go_ret2
    exact ⟨by rw [HE.out]; rfl, rfl⟩
  · rename_i h1
    split at h
    · rename_i h2
      obtain ⟨h2, h3⟩ := h2
      have hx : c - 87 = x := by simpa using h
      clear h
      have e1 : (x : Int) = c - 87 := by omega
      have HE := Lib.hid e1; clear e1 hx h1
      go_enter Tryd.func34, Tryd.ntmps34
      go_wp2
      go_ret2
      exact ⟨by rw [HE.out]; simp; omega, rfl⟩
    · cases h

set_option maxHeartbeats 400000 in
theorem digit_none (c : Nat) (w : World) (hc : c < 256) (h : digV c = none) :
    Calls Tryd.prog 34 #[.int .u8 c] w fun e w' => e = .returned (.tuple #[.int .u8 0, .bool false]) ∧ w = w' := by
  have h1 : c < 48 ∨ (57 < c ∧ c < 97) ∨ 102 < c := by
    unfold digV at h; split at h
    · cases h
    · split at h
      · cases h
      · omega
  clear h
  rcases h1 with h1 | ⟨h1, h2⟩ | h1
  all_goals
    go_enter Tryd.func34, Tryd.ntmps34
    go_wp2
    go_ret2
    exact ⟨rfl, rfl⟩

theorem digit_any (c : Nat) (w : World) (hc : c < 256) :
    Calls Tryd.prog 34 #[.int .u8 c] w fun e w' => e = .returned (.tuple #[.int .u8 ((digV c).getD 0 : Nat), .bool (digV c).isSome]) ∧ w = w' := by
  cases h : digV c with
  | none => exact digit_none c w hc h
  | some x => exact digit_some c x w hc h

theorem bits_or16 (x y : Nat) (hx : x < 16) (hy : y < 16) : bits BinOp.or IntKind.u8 ((x : Int) * 16) (y : Int) = (x : Int) * 16 + y :=
  bits_join .u8 8 (by decide) (by intro n h0 h1; rw [IntKind.wrap_u8]; omega) 4 _ _ (by omega) (by omega) (by omega) (by omega) (by omega) (by omega)

set_option maxHeartbeats 1000000 in
theorem raw_prog (s : ByteArray) (w : World) (hs : s.size ≤ 1000000) :
    Calls Tryd.prog 18 #[.string s] w fun e w' => e = .returned (.tuple #[.string ⟨((rawOf s.data.toList).getD []).toArray⟩, .bool (rawOf s.data.toList).isSome]) ∧ Below w.heap.size w w' := by
  by_cases hodd : s.size % 2 = 1
  · have hr : rawOf s.data.toList = none := rawOf_odd _ (by simpa using hodd)
    rw [hr]; clear hr
    go_enter Tryd.func18, Tryd.ntmps18
    go_wp2
    go_ret2
    exact ⟨rfl, Below.refl _ _⟩
  · have hev : s.size % 2 = 0 := by omega
    clear hodd
    go_enter Tryd.func18, Tryd.ntmps18
    go_wp2_with (first
      | (at_make; refine list_make0 Tryd.bytesSl rfl _ _ rfl (s.size / 2) rfl _ rfl (by omega) (by omega) (by unfold maxLen; omega) ?_))
    intro w1 hown hg
    go_wp2_with fail
    go_loopw [4, 5] (fun v i wr => ∃ (j : Nat) (l : List UInt8), j ≤ s.size ∧ j % 2 = 0 ∧ i = .int .i64 j ∧ Hid (rawOf (s.data.toList.take j) = some l) ∧ Owns wr w.heap.size 5 v (l.map byteV) ∧ Below w.heap.size w wr) (fun _ i _ => s.size - (intOf i).toNat)
    case atStart => exact ⟨0, [], by omega, by omega, rfl, Lib.hid rfl, hown, hg⟩
    case round =>
      obtain ⟨j, l, hj, hj2, rfl, hr, hw, hb⟩ := hrel
      by_cases hlt : j < s.size
      · have hlt1 : j + 1 < s.size := by omega
        have HR : Hid (rawOf s.data.toList = match pairV s[j].toNat s[j + 1].toNat with | some v => (rawOf (s.data.toList.drop (j + 2))).map (fun r => l ++ UInt8.ofNat v :: r) | none => none) := by
          refine Lib.hid ?_
          conv => lhs; rw [split_two s j hlt1, rawOf_append _ _ (by simp; omega), hr.out]
          simp only [Option.bind_some, rawOf]
          cases pairV s[j].toNat s[j + 1].toNat with
          | none => simp
          | some v => simp only [Option.map_map]; rfl
        have ha := s[j].toNat_lt
        have hb' := s[j + 1].toNat_lt
        have HP : Hid (pairV s[j].toNat s[j + 1].toNat = match digV s[j].toNat, digV s[j + 1].toNat with | some x, some y => some (16 * x + y) | _, _ => none) := Lib.hid rfl
        cases hx : digV s[j].toNat with
        | none =>
          rw [hx] at HP
          go_wp2_with (go_at_call 34; refine (digit_any _ _ (by assumption)).mono ?_; rintro e w' ⟨rfl, rfl⟩)
          go_ret2
          exact ⟨by rw [HR.out, HP.out]; rfl, hb⟩
        | some x =>
          cases hy : digV s[j + 1].toNat with
          | none =>
            rw [hx, hy] at HP
            go_wp2_with (go_at_call 34; refine (digit_any _ _ (by assumption)).mono ?_; rintro e w' ⟨rfl, rfl⟩)
            go_ret2
            exact ⟨by rw [HR.out, HP.out]; rfl, hb⟩
          | some y =>
            have hxl := digV_lt hx
            have hyl := digV_lt hy
            have hor := bits_or16 x y hxl hyl
            rw [hx, hy] at HP
            have hl2 : l.length ≤ 1000000 := by have := rawOf_length _ _ hr.out; rw [List.length_take] at this; omega
            go_wp2_with (first
              | (go_at_call 34; refine (digit_any _ _ (by assumption)).mono ?_; rintro e w' ⟨rfl, rfl⟩)
              | (at_builtin; refine list_app Tryd.bytesSl rfl _ _ rfl w.heap.size _ _ rfl (hw.alloc _) wr.heap.size _ rfl (heap_at_alloc wr _) (by simp [Value.oneCell']) (by simp) (by simp; unfold maxLen; omega) (by simp; omega) (by have := hb.size; simp; omega) ?_; intro v2 w2 hown2 hb2))
            have hrr : Hid (rawOf (s.data.toList.take (j + 2)) = some (l ++ [UInt8.ofNat (16 * x + y)])) := by
              refine Lib.hid ?_
              rw [take_two s j hlt1, rawOf_append _ _ (by simp; omega), hr.out]
              simp [rawOf, HP.out]
            have hcells : l.map byteV ++ [.int .u8 ((x : Int) * 16 + y)] = (l ++ [UInt8.ofNat (16 * x + y)]).map byteV := by
              simp [byteV]; omega
            rw [hcells] at hown2
            have hb3 : Below w.heap.size w w2 := (hb.alloc hb.size _).trans hb2
            clear hb2 hw hb hr hcells hx hy hor HR HP
            go_wp2
            go_roundw
            case rel => exact ⟨j + 2, _, by omega, by omega, by go_num, hrr, hown2, hb3⟩
            case measure => simp [intOf]; omega
      · obtain rfl : s.size = j := by omega
        have hcv := run_string_owned (src := 32) (dst := 9) Tryd.underlying32 Tryd.underlying5 Tryd.underlying9 hw
        have hr2 := hr.out
        rw [List.take_of_length_le (by simp)] at hr2
        have HR2 := Lib.hid hr2; clear hr2
        go_wp2
        go_ret2
        exact ⟨by rw [HR2.out]; rfl, hb⟩

end Go.Proofs.YtohjnhekkifhbaaDoor
