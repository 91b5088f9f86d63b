/- part's fits. -/
import Derived.Test.YtmpjpaomgifpcaaGreatDoorPSing
namespace Go.Proofs.YtmpjpaomgifpcaaGreatDoor
open Go.RowKit
open Cod (F Nd KidsAt Lies nodeV)

set_option maxRecDepth 30000 in
set_option maxHeartbeats 4000000 in
theorem fits_at (b : Nat) (lf : Bool) (u : ByteArray) (p0 q : Nat) (a : Nat) (k : ByteArray) (p : Nat) (side : Bool) (si : Int) (hsi : si = bitN side) (w : World) (hu : u.size = 32) (hk : k.size = 32) (hp : p < 256)
    (hq : q = if lf then 256 else p0) (c0 : w.cell? ⟨b, 0, none⟩ = some (.bool lf)) (c1 : w.cell? ⟨b, 1, none⟩ = some (.bool false)) (c2 : w.cell? ⟨b, 2, none⟩ = some (.string u)) (c4 : w.cell? ⟨b, 4, none⟩ = some (.int .i64 p0))
    (e2 : w.cell? ⟨a, 2, none⟩ = some (.string k)) (e4 : w.cell? ⟨a, 4, none⟩ = some (.int .i64 p)) :
    Calls Tryz.prog 80 #[pp b, pp a, .int .u8 si] w fun e w' => e = .returned (.bool (standB p k side q u)) ∧ Same w w' := by
  subst hsi
  have hsp := Lib.hid (fun (n : Nat) => span_at b lf p0 q (w.drewN n) c0 c4 hq)
  have hcom := Lib.hid (fun W => com_prog u k W hu hk)
  have hbit := Lib.hid (fun W => bit_prog u p W hp (by omega))
  obtain ⟨C, hC⟩ : ∃ C, C = comL (ks u) (ks k) := ⟨_, rfl⟩
  obtain ⟨r, hr⟩ : ∃ r, r = bitL (ks u) p := ⟨_, rfl⟩
  unfold standB pp at *
  rw [← hC] at hcom ⊢
  rw [← hr] at hbit ⊢
  clear hC hr hu hk hq
  cases h1 : decide (p < q) with
  | false =>
    have hI1 : decide ((p : Int) < (q : Int)) = false := by simpa using h1
    have hJ1 : ¬ (p : Int) < (q : Int) := of_decide_eq_false hI1
    go_enter Tryz.func80, Tryz.ntmps80
    go_wp2_with fail
    go_quiet (first | (go_at_call 99; exact quietE (hsp.out _)) | (go_at_call 82; exact quietS (hcom.out _)) | (go_at_call 95; exact quietE (hbit.out _)))
    go_wp2
    go_ret
    exact ⟨rfl, Same.of _ _⟩
  | true =>
    have hI1 : decide ((p : Int) < (q : Int)) = true := by simpa using h1
    have hJ1 : (p : Int) < (q : Int) := of_decide_eq_true hI1
    cases h2 : decide (p ≤ C) with
    | false =>
      have hI2 : decide ((p : Int) ≤ (C : Int)) = false := by simpa using h2
      have hJ2 : ¬ (p : Int) ≤ (C : Int) := of_decide_eq_false hI2
      go_enter Tryz.func80, Tryz.ntmps80
      go_wp2_with fail
      go_quiet (first | (go_at_call 99; exact quietE (hsp.out _)) | (go_at_call 82; exact quietS (hcom.out _)) | (go_at_call 95; exact quietE (hbit.out _)))
      go_wp2
      go_ret
      exact ⟨rfl, Same.of _ _⟩
    | true =>
      have hI2 : decide ((p : Int) ≤ (C : Int)) = true := by simpa using h2
      have hJ2 : (p : Int) ≤ (C : Int) := of_decide_eq_true hI2
      have hrs : (bitN r == bitN side) = (r == side) := by cases r <;> cases side <;> rfl
      go_enter Tryz.func80, Tryz.ntmps80
      go_wp2_with fail
      go_quiet (first | (go_at_call 99; exact quietE (hsp.out _)) | (go_at_call 82; exact quietS (hcom.out _)) | (go_at_call 95; exact quietE (hbit.out _)))
      go_wp2
      go_ret
      exact ⟨by rw [← hrs]; rfl, Same.of _ _⟩

/-- What stands above. -/
def AbV (w : World) (ab : Option (Nat × ByteArray)) (v : Value) : Prop := match ab with
  | none => v = .pointer none
  | some (p, k) => p < 256 ∧ k.size = 32 ∧ ∃ a, v = pp a ∧ w.cell? ⟨a, 2, none⟩ = some (.string k) ∧ w.cell? ⟨a, 4, none⟩ = some (.int .i64 p)
theorem AbV.later {w w' : World} {ab : Option (Nat × ByteArray)} {v : Value} (h : AbV w ab v) (hb : Below w.heap.size w w') : AbV w' ab v := by
  match ab, h with
  | none, h => exact h
  | some (p, k), ⟨h1, h2, a, h3, h4, h5⟩ => exact ⟨h1, h2, a, h3, cellB hb h4, cellB hb h5⟩
def SN.fine : SN → Prop
  | .stub _ => True
  | .leaf k _ => k.size = 32
  | .fork _ k => k.size = 32

set_option maxHeartbeats 1000000 in
theorem fits_none (b : Nat) (si : Int) (w : World) : Calls Tryz.prog 80 #[pp b, .pointer none, .int .u8 si] w fun e w' => e = .returned (.bool true) ∧ Same w w' := by
  unfold pp
  go_enter Tryz.func80, Tryz.ntmps80
  go_wp2
  go_ret
  exact ⟨rfl, Same.refl _⟩
set_option maxHeartbeats 1000000 in
theorem fits_stub (b a : Nat) (si : Int) (w : World) (c1 : w.cell? ⟨b, 1, none⟩ = some (.bool true)) : Calls Tryz.prog 80 #[pp b, pp a, .int .u8 si] w fun e w' => e = .returned (.bool true) ∧ Same w w' := by
  unfold pp
  go_enter Tryz.func80, Tryz.ntmps80
  go_wp2
  go_ret
  exact ⟨rfl, Same.refl _⟩

theorem fits_prog (x : SN) (b : Nat) (ab : Option (Nat × ByteArray)) (av : Value) (side : Bool) (si : Int) (hsi : si = bitN side) (w : World) (hx : SNAt w x b) (hf : x.fine) (hab : AbV w ab av) :
    Calls Tryz.prog 80 #[pp b, av, .int .u8 si] w fun e w' => e = .returned (.bool (fitS ab side x)) ∧ Same w w' := by
  cases ab with
  | none =>
    have h : av = .pointer none := hab
    rw [h]
    exact fits_none b si w
  | some pk =>
    obtain ⟨p, k⟩ := pk
    obtain ⟨hp, hk, a, h, e2, e4⟩ := hab
    rw [h]
    cases x with
    | stub u =>
      have hs : StubAt w b u := hx
      obtain ⟨_, c1, _⟩ := StubAt.cells hs
      exact fits_stub b a si w c1
    | leaf u v =>
      have hn : NodeAt w b true u v 0 (.pointer none) (.pointer none) (leafH u v) := hx
      obtain ⟨c0, c1, c2, _, c4, _⟩ := NodeAt.cells8 hn
      exact fits_at b true u 0 256 a k p side si hsi w hf hk hp rfl c0 c1 c2 c4 e2 e4
    | fork q u =>
      have hn : NodeAt w b false u ⟨#[]⟩ q (.pointer none) (.pointer none) ⟨#[]⟩ := hx
      obtain ⟨c0, c1, c2, _, c4, _⟩ := NodeAt.cells8 hn
      exact fits_at b false u q q a k p side si hsi w hf hk hp rfl c0 c1 c2 c4 e2 e4
end Go.Proofs.YtmpjpaomgifpcaaGreatDoor
