/- The reference's read, of every list. -/
import Derived.Test.YtmpjpaomgifpcaaGreatDoorPRead3
namespace Go.Proofs.YtmpjpaomgifpcaaGreatDoor
open Go.RowKit
open Cod (F Nd KidsAt Lies nodeV)

/-- Where a node may stand, as the reference takes it. -/
def AtV (ab : Option (Nat × ByteArray)) (at_ : Int) (bits : ByteArray) : Prop := match ab with
  | none => at_ = -1
  | some (p, k) => at_ = (p : Int) ∧ bits = k ∧ p < 256 ∧ k.size = 32
theorem addr_plus (g o n : Nat) : (⟨g, o, none⟩ : Addr).add n = ⟨g, o + n, none⟩ := by
  unfold Addr.add
  split
  · rename_i h; subst h; rfl
  · rfl
theorem lies_drop {w : World} {S : Nat → Prop} : ∀ (j : Nat) (f : F) (g o : Nat), Lies w S f g o → Lies w S (dropF j f) g (o + j * 4)
  | 0, _, _, _, h => by simpa [dropF] using h
  | _ + 1, .nil, _, _, _ => trivial
  | j + 1, .cons _ _ _ _ r, g, o, h => by
    have := lies_drop j r g (o + 4) (Cod.lies_cons.1 h).2
    rw [show o + (j + 1) * 4 = o + 4 + j * 4 by omega]
    exact this
theorem kids_drop {w : World} {B : Nat} {f : F} {g o c : Nat} (hg : g < B) (hu : Cod.Unf w g) (hc : f.len ≤ c) (hl : Lies w (· < B) f g o) (j : Nat) (hj : j ≤ f.len) {va : Option Addr} {vn vc : Nat} (hv : sliced (some ⟨g, o, none⟩) j f.len c 4 = .slice va vn vc) :
    KidsAt w (· < B) (dropF j f) (.slice va vn vc) := by
  rw [← hv]
  unfold sliced
  have hlen := dropF_len j f
  by_cases h : c = j
  · rw [if_pos h]
    refine .inr ⟨g, o, c - j, by rw [hlen], hg, hu, by omega, ?_⟩
    have h0 : (dropF j f).len = 0 := by omega
    rw [Cod.F.len_zero h0]; trivial
  · rw [if_neg h]
    refine .inr ⟨g, o + j * 4, c - j, by rw [hlen]; simp [addr_plus], hg, hu, by omega, lies_drop j f g o hl⟩
theorem ok_drop : ∀ (j : Nat) (f : F), f.ok → (dropF j f).ok
  | 0, _, h => h
  | _ + 1, .nil, _ => trivial
  | j + 1, .cons _ _ _ _ r, h => ok_drop j r h.2.2.2.2
theorem sml_dropF {B : Nat} : ∀ (j : Nat) (f : F), sml B f → sml B (dropF j f)
  | 0, _, h => h
  | _ + 1, .nil, _ => trivial
  | j + 1, .cons _ _ _ _ r, h => sml_dropF j r h.2.2

def fitAB (ab : Option (Nat × ByteArray)) (side : Bool) (q : Nat) (u : ByteArray) : Bool := match ab with
  | none => true
  | some (p, k) => standB p k side q u
theorem below_any (ab : Option (Nat × ByteArray)) (at_ : Int) (bits u : ByteArray) (side : Bool) (q : Nat) (hab : AtV ab at_ bits) (hu : u.size = 32) (hq : q ≤ 256) (W : World) :
    Calls Tryz.prog 85 #[.string u, .int .i64 q, .int .i64 at_, .string bits, .int .i64 (bitN side)] W fun e w' => e = .returned (.bool (fitAB ab side q u)) ∧ W = w' := by
  match ab, hab with
  | none, hab =>
    have : at_ = -1 := hab
    subst this
    exact below_free u bits q _ W
  | some (p, k), ⟨h1, h2, h3, h4⟩ =>
    subst h1 h2
    exact below_prog u bits q p side W hu h4 h3 hq
theorem fit_leaf (ab : Option (Nat × ByteArray)) (side : Bool) (u v : ByteArray) : fitS ab side (.leaf u v) = fitAB ab side 256 u := by
  cases ab <;> rfl
theorem fit_fork (ab : Option (Nat × ByteArray)) (side : Bool) (q : Nat) (u : ByteArray) : fitS ab side (.fork q u) = fitAB ab side q u := by
  cases ab <;> rfl
theorem fit_at {ab : Option (Nat × ByteArray)} {at_ : Int} {bits : ByteArray} {side : Bool} {q : Nat} {u : ByteArray} (hab : AtV ab at_ bits) (h : fitS ab side (.fork q u) = true) : at_ < (q : Int) := by
  match ab, hab, h with
  | none, hab, _ => have : at_ = -1 := hab; omega
  | some (p, k), ⟨h1, _⟩, h =>
    unfold fitS standB at h
    simp only [Bool.and_eq_true, decide_eq_true_eq] at h
    omega
theorem fit_stub (ab : Option (Nat × ByteArray)) (side : Bool) (h : ByteArray) : fitS ab side (.stub h) = true := by cases ab <;> rfl

set_option maxRecDepth 10000 in
theorem read_prog (B : Nat) : ∀ (m : Nat) (f : F) (fv : Value) (ab : Option (Nat × ByteArray)) (side : Bool) (at_ : Int) (bits : ByteArray) (w : World), f.len ≤ m → f.len ≤ 268435456 → f.ok → sml 5000 f → B ≤ w.heap.size → KidsAt w (· < B) f fv → AtV ab at_ bits →
    Calls Tryz.prog 48 #[fv, .int .i64 at_, .string bits, .int .i64 (bitN side)] w (RdO w f (treeP m f ab side)) := by
  intro m
  induction m with
  | zero =>
    intro f fv ab side at_ bits w hm _ _ _ _ hk _
    obtain ⟨a, c, rfl⟩ := hk.shape
    have h0 : f.len = 0 := by omega
    have := Cod.F.len_zero h0
    subst this
    exact read_nil a c bits at_ _ w
  | succ m ih =>
    intro f fv ab side at_ bits w hm hlim hok hs hB hk hab
    match f, hm, hlim, hok, hs, hk with
    | .nil, _, _, _, _, hk =>
      obtain ⟨a, c, rfl⟩ := hk.shape
      exact read_nil a c bits at_ _ w
    | .cons k n s c r, hm, hlim, hok, hs, hk =>
      obtain ⟨g, o, cap, rfl, hg, hu, hcap, hl⟩ := hk.full (by simp [F.len])
      obtain ⟨⟨kv, c0, c1, c2, c3, hkc⟩, hlr⟩ := Cod.lies_cons.1 hl
      obtain ⟨ka, kc, rfl⟩ := hkc.shape
      have hL1 : 1 ≤ (F.cons k n s c r).len := by simp [F.len]
      have hr1 : r = dropF 1 (.cons k n s c r) := rfl
      by_cases hk1 : k = 1
      · subst hk1
        have e : treeP (m + 1) (.cons 1 n s c r) ab side = if s.size = 32 then some (.stub s, r) else none := by
          rw [treeP]; unfold singP
          rw [if_pos rfl]
          by_cases h : s.size = 32
          · rw [if_pos h, if_pos h]; simp [fit_stub]
          · rw [if_neg h, if_neg h]
        rw [e]
        exact read_stub n s ka c.len kc g o _ cap hL1 r c bits at_ _ w c0 c1 c2 c3
      by_cases hk2 : ¬ k = 2
      · have e : treeP (m + 1) (.cons k n s c r) ab side = none := by
          rw [treeP]; unfold singP
          rw [if_neg hk1, if_neg hk2]
        rw [e]
        exact read_bad k n s ka c.len kc g o _ cap hL1 _ bits at_ _ w hk1 (.inl hk2) c0 c1 c2 c3
      have hk2 : k = 2 := by omega
      subst hk2
      have bad : singP 2 s c = none → (c.len ≠ 2 ∨ ∃ (g2 o2 : Nat) (k2 : Int), ka = some ⟨g2, o2, none⟩ ∧ w.cell? ⟨g2, o2 + 4, none⟩ = some (.int .i64 k2) ∧ k2 ≠ 1) →
          Calls Tryz.prog 48 #[.slice (some ⟨g, o, none⟩) (F.cons 2 n s c r).len cap, .int .i64 at_, .string bits, .int .i64 (bitN side)] w (RdO w (.cons 2 n s c r) (treeP (m + 1) (.cons 2 n s c r) ab side)) := fun h1 h2 => by
        have e : treeP (m + 1) (.cons 2 n s c r) ab side = none := by rw [treeP, h1]
        rw [e]
        exact read_bad 2 n s ka c.len kc g o _ cap hL1 _ bits at_ _ w hk1 (.inr h2) c0 c1 c2 c3
      match c, hkc, c3, hok, hs, bad with
      | .nil, _, _, _, _, bad => exact bad rfl (.inl (by decide))
      | .cons k1 n1 s1 c1 .nil, _, _, _, _, bad => exact bad rfl (.inl (by simp [F.len]))
      | .cons k1 n1 s1 c1 (.cons k2 n2 s2 c2 (.cons k3 n3 s3 c3 r3)), _, _, _, _, bad => exact bad rfl (.inl (by simp [F.len]))
      | .cons k1 n1 s1 d1 (.cons k2 n2 s2 d2 .nil), hkc, c3, hok, hs, bad =>
        obtain ⟨g2, o2, cap2, e2, _, hl2⟩ := hkc.lies (by simp [F.len])
        injection e2 with e21 _ e23
        subst e21 e23
        obtain ⟨⟨v1, p0, p1, p2, p3, hv1⟩, hl3⟩ := Cod.lies_cons.1 hl2
        obtain ⟨⟨v2, q0, q1, q2, q3, hv2⟩, _⟩ := Cod.lies_cons.1 hl3
        obtain ⟨a1, m1, rfl⟩ := hv1.shape
        by_cases h21 : ¬ k2 = 1
        · exact bad (by show twoP k1 n1 s1 k2 s2 = none; unfold twoP; rw [if_neg h21]) (.inr ⟨g2, o2, k2, rfl, q0, h21⟩)
        have h21 : k2 = 1 := by omega
        subst h21
        have hs2 : s2.size ≤ 5000 := hs.2.1.2.2.1
        by_cases h11 : k1 = 1
        · subst h11
          have e : treeP (m + 1) (.cons 2 n s (.cons 1 n1 s1 d1 (.cons 1 n2 s2 d2 .nil)) r) ab side = if s1.size = 32 ∧ fitS ab side (.leaf s1 s2) = true then some (.leaf s1 s2, r) else none := by
            rw [treeP]
            show (match twoP 1 n1 s1 1 s2 with | none => none | some x => _) = _
            unfold twoP
            rw [if_pos rfl, if_pos rfl]
            by_cases h : s1.size = 32
            · rw [if_pos h]
              by_cases hf : fitS ab side (.leaf s1 s2) = true
              · rw [if_pos ⟨h, hf⟩]; simp [hf]
              · rw [if_neg (fun hh => hf hh.2)]; simp [hf]
            · rw [if_neg h, if_neg (fun hh => h hh.1)]
          rw [e]
          exact read_leaf n n1 s s1 s2 g2 o2 _ a1 _ m1 g o _ cap hL1 _ r hr1 hL1 bits at_ _ w _ hs2 (fun h W => by rw [fit_leaf]; exact below_any ab at_ bits s1 side 256 hab h (by omega) W) c0 c1 c2 c3 p0 p1 p2 p3 q0 q2
        have hn1 : 0 ≤ n1 ∧ n1 < 18446744073709551616 := hok.2.2.2.1.1
        by_cases hgood : k1 = 0 ∧ n1 < 256 ∧ s2.size = 32 ∧ firstB s2 n1.toNat = s2 ∧ fitS ab side (.fork n1.toNat s2) = true
        · obtain ⟨h0, h256, h32, hfi, hfit⟩ := hgood
          subst h0
          obtain ⟨N, rfl⟩ := Int.eq_ofNat_of_zero_le hn1.1
          rw [Int.toNat_natCast] at hfi hfit
          have e : treeP (m + 1) (.cons 2 n s (.cons 0 (N : Int) s1 d1 (.cons 1 n2 s2 d2 .nil)) r) ab side = forkO N s2 (treeP m r (some (N, s2)) false) (fun r1 => treeP m r1 (some (N, s2)) true) := by
            rw [treeP]
            show (match twoP 0 (N : Int) s1 1 s2 with | none => none | some x => _) = _
            unfold twoP
            rw [if_pos rfl, if_neg (by decide), if_pos rfl, if_pos ⟨h256, h32, by rw [Int.toNat_natCast]; exact hfi⟩]
            simp only [Int.toNat_natCast, hfit, if_true]
            unfold forkO
            rfl
          rw [e]
          have hrl : r.len ≤ m := by simp only [F.len] at hm; omega
          have hro : r.ok := hok.2.2.2.2
          have hrs : sml 5000 r := hs.2.2
          refine read_fork n N s s1 s2 g2 o2 _ a1 _ m1 g o _ cap hL1 _ rfl hlim bits at_ _ w (by omega) h32 (fit_at hab hfit) hfi (fun W => ?_) _ _ ⟨?_, ?_⟩ ?_ ?_ c0 c1 c2 c3 p0 p1 p2 p3 q0 q2
          · have hb := below_any ab at_ bits s2 side N hab h32 (by omega) W
            rw [← fit_fork, hfit] at hb
            exact hb
          · intro z r1 h
            exact (treeP_ok m r _ _ z r1 hro hrs h).1
          · intro z r1 oo r2 h1 h2
            obtain ⟨_, x1, x2, _⟩ := treeP_ok m r _ _ z r1 hro hrs h1
            exact (treeP_ok m r1 _ _ oo r2 x1 x2 h2).1
          · intro W hb va vn vc hv
            have hkr := kids_drop hg (Cod.Unf.of hu (hb.block g (by omega))) hcap (Lies.below hl hg (hb.mono hB)) 1 hL1 hv
            exact ih r _ (some (N, s2)) false N s2 W hrl (by simp only [F.len] at hlim; omega) hro hrs (Nat.le_trans hB hb.size) hkr ⟨rfl, rfl, by omega, h32⟩
          · intro z j h1 hj W hb va vn vc hv
            have hkr := kids_drop hg (Cod.Unf.of hu (hb.block g (by omega))) hcap (Lies.below hl hg (hb.mono hB)) (1 + j) hj hv
            have hd := dropF_len (1 + j) (.cons 2 n s (.cons 0 (N : Int) s1 d1 (.cons 1 n2 s2 d2 .nil)) r)
            have hf : (F.cons 2 n s (.cons 0 (N : Int) s1 d1 (.cons 1 n2 s2 d2 .nil)) r).len = r.len + 1 := rfl
            obtain ⟨_, x1, x2, _⟩ := treeP_ok m r _ _ z _ hro hrs h1
            exact ih _ _ (some (N, s2)) true N s2 W (by omega) (by omega) x1 x2 (Nat.le_trans hB hb.size) hkr ⟨rfl, rfl, by omega, h32⟩
        · have hN : (n1.toNat : Int) = n1 := Int.toNat_of_nonneg hn1.1
          have e : treeP (m + 1) (.cons 2 n s (.cons k1 n1 s1 d1 (.cons 1 n2 s2 d2 .nil)) r) ab side = none := by
            rw [treeP]
            show (match twoP k1 n1 s1 1 s2 with | none => none | some x => _) = _
            unfold twoP
            rw [if_pos rfl, if_neg h11]
            by_cases h0 : k1 = 0
            · rw [if_pos h0]
              by_cases h3 : n1 < 256 ∧ s2.size = 32 ∧ firstB s2 n1.toNat = s2
              · rw [if_pos h3]
                have hf : fitS ab side (.fork n1.toNat s2) = false := by
                  cases hq : fitS ab side (.fork n1.toNat s2) with
                  | false => rfl
                  | true => exact absurd ⟨h0, h3.1, h3.2.1, h3.2.2, hq⟩ hgood
                simp [hf]
              · rw [if_neg h3]
            · rw [if_neg h0]
          rw [e]
          refine read_forkbad n n1 k1 s s1 s2 g2 o2 _ a1 _ m1 g o _ cap hL1 _ bits at_ _ w h11 (fitAB ab side n1.toNat s2) hn1.1 hn1.2 (fun _ h2 h3 _ W => ?_) ?_ c0 c1 c2 c3 p0 p1 p2 p3 q0 q2
          · have hb := below_any ab at_ bits s2 side n1.toNat hab h3 (by omega) W
            rw [hN] at hb
            exact hb
          · rintro ⟨h0, h2, h3, _, h5, h6⟩
            exact hgood ⟨h0, h2, h3, h6, by rw [fit_fork]; exact h5⟩
end Go.Proofs.YtmpjpaomgifpcaaGreatDoor
