/- codec.withSize; a slice of bytes that the call owns. -/
import Derived.Test.YtgdlnjhbencjkaaChecked
import Derived.Test.YtgdlnjhbencjkaaLib2
import Derived.Test.YtgdlnjhbencjkaaCGrew
namespace Go.Proofs.Ytgdlnjhbencjkaa
open Go.RowKit

theorem Try.bytesSl : Sl Try.prog 90 5 (.int .u8 0) 1 := ⟨Try.underlying90, by kernel_rfl, rfl⟩
theorem Try.bytesSlN : SlN Try.prog 90 5 (.int .u8 0) 1 1 := ⟨Try.underlying90, by kernel_rfl, rfl, by decide⟩

/-- A slice that owns bytes. -/
def OwnsB (w : World) (B : Nat) (v : Value) (xs : List UInt8) : Prop := w.ownsRow B 5 1 v xs.length (xs.map byteV)
theorem OwnsB.owns {w : World} {B : Nat} {v : Value} {xs : List UInt8} (h : OwnsB w B v xs) : Owns w B 5 v (xs.map byteV) := by unfold Owns; rw [List.length_map]; exact h
theorem OwnsB.of {w : World} {B : Nat} {v : Value} {xs : List UInt8} (h : Owns w B 5 v (xs.map byteV)) : OwnsB w B v xs := by unfold Owns at h; rw [List.length_map] at h; exact h
theorem OwnsB.nil (w : World) (B : Nat) : OwnsB w B (.slice none 0 0) [] := World.ownsRow_nil _ _ _ _
theorem OwnsB.alloc {w : World} {B : Nat} {v : Value} {xs : List UInt8} (h : OwnsB w B v xs) (o : Obj) : OwnsB (w.alloc o) B v xs := World.ownsRow.alloc h o
theorem OwnsB.drew {w : World} {B : Nat} {v : Value} {xs : List UInt8} (h : OwnsB w B v xs) : OwnsB w.drew B v xs := h
theorem OwnsB.ne {w : World} {B : Nat} {v : Value} {xs : List UInt8} (h : OwnsB w B v xs) {b : Nat} (hb : w.heap.size ≤ b) : v.ownBlock ≠ some b := ownN_ne h hb
theorem OwnsB.low {w : World} {B : Nat} {v : Value} {xs : List UInt8} (h : OwnsB w B v xs) : ∀ k, v.ownBlock = some k → B ≤ k := ownN_low h
theorem Grew.belowB {w w' : World} {v v' : Value} {B : Nat} {xs : List UInt8} (h : Grew w v w' v') (hB : B ≤ w.heap.size) (ho : OwnsB w B v xs) : Below B w w' := h.below hB ho.low

theorem byteV_ofNat (n : Nat) (h : n < 256) : byteV (UInt8.ofNat n) = .int .u8 (n : Int) := by
  rw [byteV, ofNat_toNat _ h]

/-- Bounds behind a name: great numerals in the context end the walk. -/
def Lim (m : Nat) : Prop := m < 268435456
def Room (m : Nat) : Prop := m ≤ 67108864
theorem Room.le {a b : Nat} (h : Room b) (hab : a ≤ b) : Room a := Nat.le_trans hab h

/-- append of one byte to owned bytes. -/
theorem list_app1 {ops : Array Oper} {rest : List Oper} {o : Oper} {a : Act} {Q : Exit → Act → World → Prop} {w : World} (hgd : o.guard = none) (s x : Operand)
    (ho : o.op = .call { callee := .builtin .append, args := #[s, x], argTypes := #[90, 90] })
    (B : Nat) (v : Value) (xs : List UInt8) (hs : a.eval s = v) (hown : OwnsB w B v xs)
    (g0 c : Nat) (y : Value) (b : UInt8) (hx : a.eval x = .slice (some ⟨g0, 0, none⟩) 1 c) (hblk : w.heap[g0]? = some (.cells #[y] 5 (0, 0))) (hy : y = byteV b) (hr : Room (xs.length + 1)) (hbase : B ≤ w.heap.size)
    (h : ∀ v' w', OwnsB w' B v' (xs ++ [b]) → Grew w v w' v' → wpList Try.prog ops Q rest (a.put o.dst v') w') : wpList Try.prog ops Q (o :: rest) a w := by
  unfold Room at hr
  subst hy
  refine list_appN Try.bytesSlN hgd s x ho B v xs.length _ hs hown g0 1 c [byteV b] hx hblk (by simp) (by simp [byteV, Value.oneCell']) (by omega) (by unfold maxLen; omega) (by omega) hbase ?_
  intro g cap w' h2 h3
  refine h _ w' ?_ h3
  unfold OwnsB
  simpa using h2
theorem step_app1 {ops : Array Oper} {o : Oper} {a : Act} {K : Act → World → Prop} {Q : Exit → Act → World → Prop} {E : Prop} {w : World} (hgd : o.guard = none) (s x : Operand)
    (ho : o.op = .call { callee := .builtin .append, args := #[s, x], argTypes := #[90, 90] })
    (B : Nat) (v : Value) (xs : List UInt8) (hs : a.eval s = v) (hown : OwnsB w B v xs)
    (g0 c : Nat) (y : Value) (b : UInt8) (hx : a.eval x = .slice (some ⟨g0, 0, none⟩) 1 c) (hblk : w.heap[g0]? = some (.cells #[y] 5 (0, 0))) (hy : y = byteV b) (hr : Room (xs.length + 1)) (hbase : B ≤ w.heap.size)
    (h : ∀ v' w', OwnsB w' B v' (xs ++ [b]) → Grew w v w' v' → K (a.put o.dst v') w') : if Region.wanted o (yielded ops a.tmps) = true then Oper.wp Try.prog o a w K Q else E := by
  unfold Room at hr
  subst hy
  refine step_appN Try.bytesSlN hgd s x ho B v xs.length _ hs hown g0 1 c [byteV b] hx hblk (by simp) (by simp [byteV, Value.oneCell']) (by omega) (by unfold maxLen; omega) (by omega) hbase ?_
  intro g cap w' h2 h3
  refine h _ w' ?_ h3
  unfold OwnsB
  simpa using h2

theorem intOf_int (k : IntKind) (x : Int) : intOf (.int k x) = x := rfl
theorem meas_div (j : Nat) (x : Int) (h : 128 ≤ j) (hx : x = (j : Int) / 128) : x.toNat < (j : Int).toNat := by subst hx; omega

def SzRes (B : Nat) (w : World) (v : Value) (zs : List UInt8) (e : Ending) (w' : World) : Prop := ∃ v', e = .returned v' ∧ OwnsB w' B v' zs ∧ Grew w v w' v'
def SzRel (B : Nat) (w : World) (v0 : Value) (zs : List UInt8) (v i : Value) (wr : World) : Prop :=
  ∃ (ys : List UInt8) (m : Nat), Lim m ∧ i = .int .i64 m ∧ OwnsB wr B v ys ∧ Hid (ys ++ szL m = zs) ∧ Grew w v0 wr v

set_option maxRecDepth 30000 in
set_option maxHeartbeats 1000000 in
theorem withSize_prog (xs : List UInt8) (m : Nat) (B : Nat) (v : Value) (w : World) (hown : OwnsB w B v xs) (hB : B ≤ w.heap.size) (hm : Lim m) (hx : Room (xs.length + (szL m).length)) :
    Calls Try.prog 51 #[v, .int .i64 m] w (SzRes B w v (xs ++ szL m)) := by
  obtain ⟨zs, hzs⟩ : ∃ zs, xs ++ szL m = zs := ⟨_, rfl⟩
  have hzl : Room zs.length := by rw [← hzs, List.length_append]; exact hx
  rw [hzs]
  have HZ := Lib.hid hzs
  have HOWN := Lib.hid hown
  clear hzs hx hown
  go_enter Try.func51, Try.ntmps51
  go_wp2_with fail
  go_loopw [0, 1] (SzRel B w v zs) (fun _ i _ => (intOf i).toNat)
  case atStart => exact ⟨xs, m, hm, rfl, HOWN.out, HZ, Grew.refl _ _⟩
  case round =>
    obtain ⟨ys, j, hj, rfl, how, hz, hb⟩ := hrel
    have HOW := Lib.hid how
    have hBr : B ≤ wr.heap.size := Nat.le_trans hB hb.size
    clear how
    by_cases hge : 128 ≤ j
    · have hsz := szL_ge hge
      have h0 : (0 : Int) ≤ (j : Int) := by omega
      have h1 : (128 : Int) ≤ (j : Int) := by omega
      have HQ := Lib.hid <| show wrap64 ((j : Int) / 128) = (j : Int) / 128 from IntWalk.wrap64_in _ (by unfold Lim at hj; omega)
      have hz' : Hid ((ys ++ [UInt8.ofNat (j % 128 + 128)]) ++ szL (j / 128) = zs) := Lib.hid (by rw [← hz.out, hsz]; simp)
      have hzl' : Room (ys.length + 1) := hzl.le (by rw [← hz'.out]; simp)
      have HBY : Hid (Value.int .u8 ((j : Int) % 128 + 128) = byteV (UInt8.ofNat (j % 128 + 128))) := Lib.hid (by rw [byteV_ofNat _ (by omega)]; go_num)
      clear hsz
      go_wp2_with (at_builtin; refine list_app1 rfl _ _ rfl B _ _ rfl (HOW.out.alloc _) wr.heap.size 1 _ _ rfl (heap_at_alloc wr _) HBY.out hzl' (by simp; omega) ?_; intro v2 w2 hown2 hb2)
      go_roundw
      case rel => exact ⟨_, j / 128, by unfold Lim at hj ⊢; omega, by rw [HQ.out]; go_num, hown2, hz', (hb.trans (Grew.alloc _ _ _)).trans hb2⟩
      case measure => rw [intOf_int, intOf_int]; exact meas_div j _ hge HQ.out
    · have hsz := szL_lt (n := j) (by omega)
      have h0 : (0 : Int) ≤ (j : Int) := by omega
      have HBY : Hid (Value.int .u8 (j : Int) = byteV (UInt8.ofNat j)) := Lib.hid (by rw [byteV_ofNat _ (by omega)])
      have h1 : ¬ ((128 : Int) ≤ (j : Int)) := by omega
      clear hge
      have hz' : Hid (ys ++ [UInt8.ofNat j] = zs) := Lib.hid (by rw [← hz.out, hsz])
      have hzl' : Room (ys.length + 1) := hzl.le (by rw [← hz'.out]; simp)
      clear hsz
      go_wp2_with (at_builtin; refine list_app1 rfl _ _ rfl B _ _ rfl (HOW.out.alloc _) wr.heap.size 1 _ _ rfl (heap_at_alloc wr _) HBY.out hzl' (by simp; omega) ?_; intro v2 w2 hown2 hb2)
      go_ret
      exact ⟨_, rfl, by rw [← hz'.out]; exact hown2, (hb.trans (Grew.alloc _ _ _)).trans hb2⟩
end Go.Proofs.Ytgdlnjhbencjkaa
