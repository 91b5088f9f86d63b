/- net: Bytes. -/
import Derived.Test.YtgdlnjhbencjkaaNByt
namespace Go.Proofs.Ytgdlnjhbencjkaa
open Go.RowKit
/-- A message as nodes. -/
def msgF (m : Mg) : F := .cons 0 m.kind ⟨#[]⟩ .nil (.cons 0 (m.src + 1) ⟨#[]⟩ .nil (.cons 0 (m.dst + 1) ⟨#[]⟩ .nil (.cons 0 (m.term : Int) ⟨#[]⟩ .nil (.cons 0 (m.index : Int) ⟨#[]⟩ .nil (.cons 0 (m.lterm : Int) ⟨#[]⟩ .nil (.cons 0 (m.commit : Int) ⟨#[]⟩ .nil (.cons 0 (okN m.ok) ⟨#[]⟩ .nil (.cons 2 0 ⟨#[]⟩ (entsF m.ents) (.cons 1 0 m.state .nil .nil)))))))))
def msgB (m : Mg) : List UInt8 := nodeL 2 0 ⟨#[]⟩ 10 (msgF m).bytes
theorem msg_kids {w : World} {S : Nat → Prop} {g : Nat} {m : Mg} {ka : Option Addr} {kc : Nat} {ty : TypeId} (h : w.heap[g]? = some (.cells #[.int .i64 0, .int .u64 m.kind, .string ⟨#[]⟩, .slice none 0 0, .int .i64 0, .int .u64 (m.src + 1), .string ⟨#[]⟩, .slice none 0 0, .int .i64 0, .int .u64 (m.dst + 1), .string ⟨#[]⟩, .slice none 0 0, .int .i64 0, .int .u64 (m.term : Int), .string ⟨#[]⟩, .slice none 0 0, .int .i64 0, .int .u64 (m.index : Int), .string ⟨#[]⟩, .slice none 0 0, .int .i64 0, .int .u64 (m.lterm : Int), .string ⟨#[]⟩, .slice none 0 0, .int .i64 0, .int .u64 (m.commit : Int), .string ⟨#[]⟩, .slice none 0 0, .int .i64 0, .int .u64 (okN m.ok), .string ⟨#[]⟩, .slice none 0 0, .int .i64 2, .int .u64 0, .string ⟨#[]⟩, .slice ka m.ents.length kc, .int .i64 1, .int .u64 0, .string m.state, .slice none 0 0] ty (0, 0))) (hS : S g) (hk : KidsAt w S (entsF m.ents) (.slice ka m.ents.length kc)) :
    KidsAt w S (msgF m) (.slice (some ⟨g, 0, none⟩) 10 10) := by
  refine .inr ⟨g, 0, 10, rfl, hS, ⟨_, _, h⟩, Nat.le_refl 10, ?_⟩
  unfold msgF
  refine lies_cons.2 ⟨⟨_, ?_, ?_, ?_, ?_, KidsAt.nil _ _⟩, ?_⟩
  iterate 4 (· simp [World.cell?, h])
  refine lies_cons.2 ⟨⟨_, ?_, ?_, ?_, ?_, KidsAt.nil _ _⟩, ?_⟩
  iterate 4 (· simp [World.cell?, h])
  refine lies_cons.2 ⟨⟨_, ?_, ?_, ?_, ?_, KidsAt.nil _ _⟩, ?_⟩
  iterate 4 (· simp [World.cell?, h])
  refine lies_cons.2 ⟨⟨_, ?_, ?_, ?_, ?_, KidsAt.nil _ _⟩, ?_⟩
  iterate 4 (· simp [World.cell?, h])
  refine lies_cons.2 ⟨⟨_, ?_, ?_, ?_, ?_, KidsAt.nil _ _⟩, ?_⟩
  iterate 4 (· simp [World.cell?, h])
  refine lies_cons.2 ⟨⟨_, ?_, ?_, ?_, ?_, KidsAt.nil _ _⟩, ?_⟩
  iterate 4 (· simp [World.cell?, h])
  refine lies_cons.2 ⟨⟨_, ?_, ?_, ?_, ?_, KidsAt.nil _ _⟩, ?_⟩
  iterate 4 (· simp [World.cell?, h])
  refine lies_cons.2 ⟨⟨_, ?_, ?_, ?_, ?_, KidsAt.nil _ _⟩, ?_⟩
  iterate 4 (· simp [World.cell?, h])
  refine lies_cons.2 ⟨⟨_, ?_, ?_, ?_, ?_, hk⟩, ?_⟩
  iterate 4 (· simp [World.cell?, h])
  refine lies_cons.2 ⟨⟨_, ?_, ?_, ?_, ?_, KidsAt.nil _ _⟩, trivial⟩ <;> simp [World.cell?, h]
theorem u64_w (x : Int) (h0 : 0 ≤ x) (h1 : x < 18446744073709551616) : IntKind.u64.wrap x = x := by
  simp only [IntKind.wrap, IntKind.signed, IntKind.bits]; simp; omega
theorem u64_up (x : Int) (h0 : -1 ≤ x) (h1 : x < 9223372036854775808) : IntKind.u64.wrap (IntKind.u64.wrap x + 1) = x + 1 := by
  simp only [IntKind.wrap, IntKind.signed, IntKind.bits]; simp; omega
set_option maxHeartbeats 8000000 in
set_option maxRecDepth 100000 in
theorem bytes_yes (m : Mg) (ev : Value) (w : World) (h : ESl w ev m.ents) (hl : m.ents.length ≤ 1000) (hk : 0 ≤ m.kind ∧ m.kind < 9223372036854775808) (hs : -1 ≤ m.src ∧ m.src < 9223372036854775808) (hd : -1 ≤ m.dst ∧ m.dst < 9223372036854775808)
    (hok : Nd.ok ⟨2, 0, ⟨#[]⟩, msgF m⟩) (hr : Nd.right ⟨2, 0, ⟨#[]⟩, msgF m⟩ 20 = true) (hfit : Fits (msgB m).length) :
    Calls Try.prog 20 #[.agg (mgL m ev).toArray] w fun e w' => e = .returned (.string ⟨(msgB m).toArray⟩) ∧ Below w.heap.size w w' := by
  obtain ⟨ea, ec, rfl, _, _⟩ := id h
  obtain ⟨W0, hW0⟩ : ∃ W0, W0 = w.alloc (.cells #[.int .i64 m.kind, .int .i64 m.src, .int .i64 m.dst, .int .u64 (m.term : Int), .int .u64 (m.index : Int), .int .u64 (m.lterm : Int), .int .u64 (m.commit : Int), .bool m.ok, .slice ea m.ents.length ec, .string m.state] 32) := ⟨_, rfl⟩
  have hb0 : Below w.heap.size w W0 := by rw [hW0]; exact (Below.refl _ _).alloc (Nat.le_refl _) _
  have hz0 : W0.heap[w.heap.size]? = some (.cells #[.int .i64 m.kind, .int .i64 m.src, .int .i64 m.dst, .int .u64 (m.term : Int), .int .u64 (m.index : Int), .int .u64 (m.lterm : Int), .int .u64 (m.commit : Int), .bool m.ok, .slice ea m.ents.length ec, .string m.state] 32 (0, 0)) := by rw [hW0]; exact heap_alloc_new _ _
  have hw1 := u64_w m.kind hk.1 (by omega)
  have hw2 := u64_up m.src hs.1 hs.2
  have hw3 := u64_up m.dst hd.1 hd.2
  obtain ⟨X2, hX2⟩ : ∃ X, IntKind.u64.wrap m.src = X := ⟨_, rfl⟩
  obtain ⟨X3, hX3⟩ : ∃ X, IntKind.u64.wrap m.dst = X := ⟨_, rfl⟩
  rw [hX2] at hw2
  rw [hX3] at hw3
  have g1 : ¬ m.kind < 0 := by omega
  have g2 : ¬ m.src < -1 := by omega
  have g3 : ¬ m.dst < -1 := by omega
  have g4 : (m.ents.length : Int) ≤ 1000 := by omega
  have HE := Lib.hid (fun W (hW : Below w.heap.size w W) => entriesNode_prog m.ents (.slice ea m.ents.length ec) W (h.later hW) hl)
  have HW := Lib.hid (fun W v (hv : KidsAt W (· < W.heap.size) (msgF m) v) => write_prog 2 0 ⟨#[]⟩ (msgF m) v W hok hv hfit true ⟨(msgB m).toArray⟩ hr rfl)
  unfold nodeV at HW
  unfold mgL
  have HB0 := Lib.hid hb0
  have HZ0 := Lib.hid hz0
  obtain ⟨c0, c1, c2, c3, c4, c5, c6, c7, c8, c9⟩ := cells10 hz0
  have HC0 : Hid (W0.cell? ⟨w.heap.size, 0, none⟩ = some (.int .i64 m.kind) ∧ W0.cell? ⟨w.heap.size, 1, none⟩ = some (.int .i64 m.src) ∧ W0.cell? ⟨w.heap.size, 2, none⟩ = some (.int .i64 m.dst) ∧ W0.cell? ⟨w.heap.size, 3, none⟩ = some (.int .u64 (m.term : Int)) ∧ W0.cell? ⟨w.heap.size, 4, none⟩ = some (.int .u64 (m.index : Int)) ∧ W0.cell? ⟨w.heap.size, 5, none⟩ = some (.int .u64 (m.lterm : Int)) ∧ W0.cell? ⟨w.heap.size, 6, none⟩ = some (.int .u64 (m.commit : Int)) ∧ W0.cell? ⟨w.heap.size, 7, none⟩ = some (.bool m.ok) ∧ W0.cell? ⟨w.heap.size, 8, none⟩ = some (.slice ea m.ents.length ec) ∧ W0.cell? ⟨w.heap.size, 9, none⟩ = some (.string m.state)) := Lib.hid ⟨c0, c1, c2, c3, c4, c5, c6, c7, c8, c9⟩
  have HC1 : Hid (W0.drew.cell? ⟨w.heap.size, 0, none⟩ = some (.int .i64 m.kind) ∧ W0.drew.cell? ⟨w.heap.size, 1, none⟩ = some (.int .i64 m.src) ∧ W0.drew.cell? ⟨w.heap.size, 2, none⟩ = some (.int .i64 m.dst) ∧ W0.drew.cell? ⟨w.heap.size, 3, none⟩ = some (.int .u64 (m.term : Int)) ∧ W0.drew.cell? ⟨w.heap.size, 4, none⟩ = some (.int .u64 (m.index : Int)) ∧ W0.drew.cell? ⟨w.heap.size, 5, none⟩ = some (.int .u64 (m.lterm : Int)) ∧ W0.drew.cell? ⟨w.heap.size, 6, none⟩ = some (.int .u64 (m.commit : Int)) ∧ W0.drew.cell? ⟨w.heap.size, 7, none⟩ = some (.bool m.ok) ∧ W0.drew.cell? ⟨w.heap.size, 8, none⟩ = some (.slice ea m.ents.length ec) ∧ W0.drew.cell? ⟨w.heap.size, 9, none⟩ = some (.string m.state)) := Lib.hid ⟨c0, c1, c2, c3, c4, c5, c6, c7, c8, c9⟩
  have HZc : Hid (W0.drew.heap[w.heap.size]? = some (.cells #[.int .i64 m.kind, .int .i64 m.src, .int .i64 m.dst, .int .u64 (m.term : Int), .int .u64 (m.index : Int), .int .u64 (m.lterm : Int), .int .u64 (m.commit : Int), .bool m.ok, .slice ea m.ents.length ec, .string m.state] 32 (0, 0))) := Lib.hid hz0
  have HBc : Hid (Below w.heap.size w W0.drew) := Lib.hid hb0.drew
  clear h hl hk hs hd hok hr hfit hb0 hz0
  go_enter Try.func20, Try.ntmps20
  go_wp2_with fail
  simp only [← hW0]
  clear hW0
  go_region_held3 (fun w' => w'.cell? ⟨w.heap.size, 0, none⟩ = some (.int .i64 m.kind) ∧ w'.cell? ⟨w.heap.size, 1, none⟩ = some (.int .i64 m.src) ∧ w'.cell? ⟨w.heap.size, 2, none⟩ = some (.int .i64 m.dst) ∧ w'.cell? ⟨w.heap.size, 3, none⟩ = some (.int .u64 (m.term : Int)) ∧ w'.cell? ⟨w.heap.size, 4, none⟩ = some (.int .u64 (m.index : Int)) ∧ w'.cell? ⟨w.heap.size, 5, none⟩ = some (.int .u64 (m.lterm : Int)) ∧ w'.cell? ⟨w.heap.size, 6, none⟩ = some (.int .u64 (m.commit : Int)) ∧ w'.cell? ⟨w.heap.size, 7, none⟩ = some (.bool m.ok) ∧ w'.cell? ⟨w.heap.size, 8, none⟩ = some (.slice ea m.ents.length ec) ∧ w'.cell? ⟨w.heap.size, 9, none⟩ = some (.string m.state))
    (first | with_reducible exact HC0.out | with_reducible exact HC1.out | with_reducible exact hcs | with_reducible exact hcs8 | with_reducible exact hcs9)
    (first
      | (go_at_call 31; refine (n_prog _ _).mono ?_; unfold nodeV; rintro e w3 ⟨rfl, hb3⟩; have HZc := Lib.hid ((hb3.block _ (block_lt HZc.out)).trans HZc.out); have hcs := cells10 HZc.out; have HBc := Lib.hid (HBc.out.trans (hb3.mono HBc.out.size)))
      | (go_at_call 32; refine (one_prog _ _).mono ?_; rintro e w3 ⟨rfl, rfl⟩)
      | (go_at_call 33; refine (HE.out _ HBc.out).mono ?_; rintro e w5 ⟨kv, rfl, hk5, hb5⟩; obtain ⟨ka, kc, rfl⟩ := hk5.shape; rw [entsF_len] at hk5 ⊢; have HKc := Lib.hid (hk5.mono (S' := fun b => b < w5.heap.size) (fun b hb => hb.2) (fun _ _ => rfl)); have HZc := Lib.hid ((hb5.block _ (block_lt HZc.out)).trans HZc.out); have hcs := cells10 HZc.out; have HBc := Lib.hid (HBc.out.trans (hb5.mono HBc.out.size)))
      | (go_at_call 34; refine (s_prog _ _).mono ?_; unfold nodeV; rintro e w6 ⟨rfl, hb6⟩; have HKc := Lib.hid (HKc.out.up hb6.size hb6); have HZc := Lib.hid ((hb6.block _ (block_lt HZc.out)).trans HZc.out); have hcs := cells10 HZc.out; have HBc := Lib.hid (HBc.out.trans (hb6.mono HBc.out.size));
          have hb7 := (Below.refl w6.heap.size w6).alloc (Nat.le_refl _) (.cells #[.int .i64 0, .int .u64 m.kind, .string ⟨#[]⟩, .slice none 0 0, .int .i64 0, .int .u64 (m.src + 1), .string ⟨#[]⟩, .slice none 0 0, .int .i64 0, .int .u64 (m.dst + 1), .string ⟨#[]⟩, .slice none 0 0, .int .i64 0, .int .u64 (m.term : Int), .string ⟨#[]⟩, .slice none 0 0, .int .i64 0, .int .u64 (m.index : Int), .string ⟨#[]⟩, .slice none 0 0, .int .i64 0, .int .u64 (m.lterm : Int), .string ⟨#[]⟩, .slice none 0 0, .int .i64 0, .int .u64 (m.commit : Int), .string ⟨#[]⟩, .slice none 0 0, .int .i64 0, .int .u64 (okN m.ok), .string ⟨#[]⟩, .slice none 0 0, .int .i64 2, .int .u64 0, .string ⟨#[]⟩, .slice ka m.ents.length kc, .int .i64 1, .int .u64 0, .string m.state, .slice none 0 0] 76); have hkm := msg_kids (S := fun b => b < (w6.alloc (.cells #[.int .i64 0, .int .u64 m.kind, .string ⟨#[]⟩, .slice none 0 0, .int .i64 0, .int .u64 (m.src + 1), .string ⟨#[]⟩, .slice none 0 0, .int .i64 0, .int .u64 (m.dst + 1), .string ⟨#[]⟩, .slice none 0 0, .int .i64 0, .int .u64 (m.term : Int), .string ⟨#[]⟩, .slice none 0 0, .int .i64 0, .int .u64 (m.index : Int), .string ⟨#[]⟩, .slice none 0 0, .int .i64 0, .int .u64 (m.lterm : Int), .string ⟨#[]⟩, .slice none 0 0, .int .i64 0, .int .u64 (m.commit : Int), .string ⟨#[]⟩, .slice none 0 0, .int .i64 0, .int .u64 (okN m.ok), .string ⟨#[]⟩, .slice none 0 0, .int .i64 2, .int .u64 0, .string ⟨#[]⟩, .slice ka m.ents.length kc, .int .i64 1, .int .u64 0, .string m.state, .slice none 0 0] 76)).heap.size) (heap_alloc_new w6 (.cells #[.int .i64 0, .int .u64 m.kind, .string ⟨#[]⟩, .slice none 0 0, .int .i64 0, .int .u64 (m.src + 1), .string ⟨#[]⟩, .slice none 0 0, .int .i64 0, .int .u64 (m.dst + 1), .string ⟨#[]⟩, .slice none 0 0, .int .i64 0, .int .u64 (m.term : Int), .string ⟨#[]⟩, .slice none 0 0, .int .i64 0, .int .u64 (m.index : Int), .string ⟨#[]⟩, .slice none 0 0, .int .i64 0, .int .u64 (m.lterm : Int), .string ⟨#[]⟩, .slice none 0 0, .int .i64 0, .int .u64 (m.commit : Int), .string ⟨#[]⟩, .slice none 0 0, .int .i64 0, .int .u64 (okN m.ok), .string ⟨#[]⟩, .slice none 0 0, .int .i64 2, .int .u64 0, .string ⟨#[]⟩, .slice ka m.ents.length kc, .int .i64 1, .int .u64 0, .string m.state, .slice none 0 0] 76)) (by simp) (HKc.out.up hb7.size hb7); have HZ7 := Lib.hid ((hb7.block _ (block_lt HZc.out)).trans HZc.out); have hcs8 := cells10 HZ7.out; have HB7 := Lib.hid (HBc.out.trans (hb7.mono HBc.out.size)))
      | (go_at_call 30; refine (list_prog _ _ _ _).mono ?_; rintro e w8 ⟨rfl, hb8⟩; have HZ8 := Lib.hid ((hb8.block _ (block_lt HZ7.out)).trans HZ7.out); have hcs9 := cells10 HZ8.out; have HB8 := Lib.hid (HB7.out.trans (hb8.mono HB7.out.size)); have hkm8 := hkm.up hb8.size hb8)
      | (go_at_call 29; refine (HW.out _ _ hkm8).mono ?_; rintro e w9 ⟨rfl, hb9⟩; have HB9 := Lib.hid (HB8.out.trans (hb9.mono HB8.out.size)); have hcs := cells10 ((hb9.block _ (block_lt HZ8.out)).trans HZ8.out)))
  clear hcs hcs8 hcs9 hkm hkm8 hb7 hb8 hb9 c0 c1 c2 c3 c4 c5 c6 c7 c8 c9
  go_wp2_with fail
  go_ret
  exact ⟨rfl, HB9.out⟩
set_option maxHeartbeats 2000000 in
set_option maxRecDepth 100000 in
theorem bytes_no (m : Mg) (ev : Value) (w : World) (h : m.kind < 0 ∨ m.src < -1 ∨ m.dst < -1) :
    Calls Try.prog 20 #[.agg (mgL m ev).toArray] w fun e w' => e = .returned (.string ⟨#[]⟩) ∧ Below w.heap.size w w' := by
  unfold mgL
  by_cases g1 : m.kind < 0
  · clear h
    go_enter Try.func20, Try.ntmps20
    go_wp2_with fail
    go_ret
    exact ⟨rfl, (Below.refl _ _).alloc (Nat.le_refl _) _⟩
  · by_cases g2 : m.src < -1
    · clear h
      go_enter Try.func20, Try.ntmps20
      go_wp2_with fail
      go_ret
      exact ⟨rfl, (Below.refl _ _).alloc (Nat.le_refl _) _⟩
    · have g3 : m.dst < -1 := by omega
      clear h
      go_enter Try.func20, Try.ntmps20
      go_wp2_with fail
      go_ret
      exact ⟨rfl, (Below.refl _ _).alloc (Nat.le_refl _) _⟩
end Go.Proofs.Ytgdlnjhbencjkaa
