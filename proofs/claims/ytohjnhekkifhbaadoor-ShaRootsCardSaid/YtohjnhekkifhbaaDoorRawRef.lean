import Derived.Test.YtohjnhekkifhbaaDoorRefA
import Derived.Test.YtohjnhekkifhbaaDoorRawSpec
namespace Go.Proofs.YtohjnhekkifhbaaDoor
open Go.RowKit

def found (x : Option Nat) (k : Nat) : Int := match x with | some v => if v < k then (v : Int) else -1 | none => -1
theorem found_step {x : Option Nat} {k : Nat} (h : ¬ x = some k) : found x k = found x (k + 1) := by
  cases x with
  | none => rfl
  | some v =>
    have : v ≠ k := fun e => h (by rw [e])
    have : (v < k) = (v < k + 1) := by simp; omega
    simp only [found, this]
theorem found_hit {x : Option Nat} {k : Nat} (h : x = some k) : (k : Int) = found x (k + 1) := by subst h; simp [found]
theorem found_zero (x : Option Nat) : (-1 : Int) = found x 0 := by cases x <;> simp [found]
theorem found_some {v k : Nat} (h : v < k) : found (some v) k = v := by simp [found, h]

theorem drop_two (q : ByteArray) (h : 1 < q.size) : q.data.toList = q[0] :: q[1] :: (q.extract 2 q.size).data.toList := by
  have h2 := split_two q 0 h
  simp only [List.take_zero, List.nil_append, Nat.zero_add] at h2
  have h3 : (q.extract 2 q.size).data.toList = q.data.toList.drop 2 := by
    simp; rw [List.take_of_length_le (by simp)]
  rw [h3]; exact h2
theorem head_two (q : ByteArray) (h : 1 < q.size) : q.extract 0 2 = ⟨[q[0], q[1]].toArray⟩ := by
  have h2 := take_two q 0 h
  simp only [List.take_zero, List.nil_append, Nat.zero_add] at h2
  apply ByteArray.ext
  apply Array.toList_inj.1
  simp [h2]

set_option maxRecDepth 100000 in
set_option maxHeartbeats 1000000 in
theorem raw_ref (s : ByteArray) (w : World) (hs : s.size ≤ 1000000) :
    Calls Tryd.prog 19 #[.string s] w fun e w' => e = .returned (.tuple #[.string ⟨((rawOf s.data.toList).getD []).toArray⟩, .bool (rawOf s.data.toList).isSome]) ∧ Below w.heap.size w w' := by
  go_enter Tryd.func19, Tryd.ntmps19
  go_wp2_with fail
  go_loopw [0, 4] (fun r v wr => ∃ (q : ByteArray) (p l : List UInt8), r = .string q ∧ v = .string ⟨l.toArray⟩ ∧ Hid (s.data.toList = p ++ q.data.toList) ∧ p.length % 2 = 0 ∧ l.length ≤ 1000000 ∧ q.size ≤ 1000000 ∧ p.length + q.size = s.size ∧ 2 * l.length = p.length ∧ Hid (rawOf p = some l) ∧ Below w.heap.size w wr)
    (fun r _ _ => match r with | .string q => q.size | _ => 0)
  case atStart => exact ⟨s, [], [], rfl, rfl, Lib.hid rfl, rfl, by simp, hs, by simp, rfl, Lib.hid rfl, Below.refl _ _⟩
  case round =>
    obtain ⟨q, p, l, rfl, rfl, hsp, hp2, hl, hq, hpq, hlp, hr, hb⟩ := hrel
    by_cases hlt : 1 < q.size
    · obtain ⟨a, hae⟩ : ∃ a, a = q[0] := ⟨_, rfl⟩
      obtain ⟨b, hbe⟩ : ∃ b, b = q[1] := ⟨_, rfl⟩
      have hql : Hid (q.data.toList = a :: b :: (q.extract 2 q.size).data.toList) := by
        subst hae hbe; exact Lib.hid (drop_two q hlt)
      have hex : q.extract 0 2 = ⟨[a, b].toArray⟩ := by subst hae hbe; exact head_two q hlt
      have HA := Lib.hid hae; have HB := Lib.hid hbe
      clear hae hbe
      have hdec : decide ((1 : Int) < (q.size : Int)) = true := by simp; omega
      go_wp2_with fail
      go_loopw [5, 6] (fun n i wx => ∃ k : Nat, k ≤ 256 ∧ i = .int .i64 k ∧ n = .int .i64 (found (pairV a.toNat b.toNat) k) ∧ Below w.heap.size w wx) (fun _ i _ => 256 - (intOf i).toNat)
      case atStart => exact ⟨0, by omega, rfl, congrArg (Value.int .i64) (found_zero _), hb⟩
      case round =>
        obtain ⟨k, hk, rfl, rfl, hbx⟩ := hrel
        by_cases hk2 : k < 256
        · obtain ⟨m, hm⟩ : ∃ m : Int, m = found (pairV a.toNat b.toNat) k := ⟨_, rfl⟩
          rw [← hm]
          have HM := Lib.hid hm; clear hm
          have hsl : (2 : Int) ≤ (q.size : Int) := by omega
          have hcv := run_string_block (w := (wr.alloc (.cells #[.int .u8 (k : Int)] 5)).drew) (src := 32) (dst := 9) Tryd.underlying32 Tryd.underlying5 Tryd.underlying9 wr.heap.size 1 [UInt8.ofNat k] (by show (wr.alloc _).heap[_]? = _; rw [heap_at_alloc]; simp [byteV]; omega)
          simp only [List.length_cons, List.length_nil, Nat.zero_add] at hcv
          have hwk : IntKind.u8.wrap (k : Int) = (k : Int) := by rw [IntKind.wrap_u8]; omega
          have hB := hex_pair k hk2 a b
          by_cases hpk : pairV a.toNat b.toNat = some k
          all_goals
            simp only [hpk, decide_true, decide_false] at hB
            have HPK := Lib.hid hpk
            clear hpk
            go_wp2_with fail
            go_region_with ((go_at_call 20; refine (hex_ref _ _ (by show (1 : Nat) ≤ 1000000; omega)).mono ?_; rintro e w' ⟨rfl, hsm⟩))
            have hb3 : Below w.heap.size w w' := (((hbx.alloc hbx.size _).drew)).trans (hsm.below _)
            clear hsm hcv
            go_wp2
            go_roundw
            case measure => simp [intOf]; omega
            case rel =>
              first
                | exact ⟨k + 1, by omega, by go_num, congrArg (Value.int .i64) (found_hit HPK.out), hb3⟩
                | ((repeat apply Exists.intro); exact ⟨⟨k + 1, by omega, by go_num, congrArg (Value.int .i64) (found_hit HPK.out), hb3⟩, rfl⟩)
                | exact ⟨k + 1, by omega, by go_num, congrArg (Value.int .i64) (HM.out.trans (found_step HPK.out)), hb3⟩
        · obtain rfl : k = 256 := by omega
          cases hv : pairV a.toNat b.toNat with
          | none =>
            have HV := Lib.hid hv; clear hv
            have hf : found none 256 = -1 := rfl
            rw [hf]
            clear hf
            go_wp2
            go_ret2
            refine ⟨?_, hbx⟩
            rw [hsp.out, rawOf_append _ _ hp2, hr.out, hql.out]
            simp [rawOf, HV.out]
          | some v =>
            have hvl := pairV_lt hv
            have HV := Lib.hid hv; clear hv
            rw [found_some hvl]
            have hcv := run_string_block (w := (wr.alloc (.cells #[.int .u8 (v : Int)] 5))) (src := 32) (dst := 9) Tryd.underlying32 Tryd.underlying5 Tryd.underlying9 wr.heap.size 1 [UInt8.ofNat v] (by rw [heap_at_alloc]; simp [byteV]; omega)
            simp only [List.length_cons, List.length_nil, Nat.zero_add] at hcv
            go_wp2
            go_roundw
            case rel =>
              refine ⟨q.extract 2 q.size, p ++ [a, b], l ++ [UInt8.ofNat v], rfl, congrArg Value.string (ByteArray.mk_append_mk l [_]), Lib.hid ?_, by simp; omega, by simp; omega, by simp; omega, by simp; omega, by simp; omega, Lib.hid ?_, hbx.alloc hbx.size _⟩
              · rw [hsp.out, hql.out]; simp
              · rw [rawOf_append _ _ hp2, hr.out]; simp [rawOf, HV.out]
            case measure => simp; omega
    · by_cases hq0 : q.size = 0
      · have hq1 : q.toList = [] := by rw [ByteArray.toList_eq]; apply List.eq_nil_of_length_eq_zero; simpa using hq0
        have hqd : Hid (q.data.toList = []) := Lib.hid (by apply List.eq_nil_of_length_eq_zero; simpa using hq0)
        go_wp2
        go_ret2
        refine ⟨?_, hb⟩
        rw [hsp.out, hqd.out, List.append_nil, hr.out]; rfl
      · have hlen : q.data.toList.length = 1 := by simp; omega
        have hqd : Hid (∃ c, q.data.toList = [c]) := Lib.hid (List.length_eq_one_iff.1 hlen)
        have hq1 : q.toList.isEmpty = false := by rw [ByteArray.toList_eq]; cases h : q.data.toList with
          | nil => simp [h] at hlen
          | cons _ _ => rfl
        clear hlen
        go_wp2
        go_ret2
        refine ⟨?_, hb⟩
        obtain ⟨c, hc⟩ := hqd.out
        rw [hsp.out, rawOf_append _ _ hp2, hr.out, hc]; rfl

end Go.Proofs.YtohjnhekkifhbaaDoor
