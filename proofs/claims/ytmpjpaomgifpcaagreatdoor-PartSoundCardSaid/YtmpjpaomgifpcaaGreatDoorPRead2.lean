/- The reference's read: a fork that is none. -/
import Derived.Test.YtmpjpaomgifpcaaGreatDoorPRead
namespace Go.Proofs.YtmpjpaomgifpcaaGreatDoor
open Go.RowKit
open Cod (F Nd KidsAt Lies nodeV)

set_option maxRecDepth 30000 in
set_option maxHeartbeats 4000000 in
/-- A node of a number and a text that is none. -/
theorem read_forkbad (n n1 : Int) (k1 : Int) (s u v : ByteArray) (g2 o2 kc : Nat) (ka1 : Option Addr) (kn1 kc1 : Nat) (g o L c : Nat) (hL : 1 ≤ L) (f : F) (bits : ByteArray) (at_ si : Int) (w : World) (hk1 : k1 ≠ 1) (b : Bool) (hn0 : 0 ≤ n1) (hn64 : n1 < 18446744073709551616)
    (hbel : 0 ≤ n1 → n1 < 256 → v.size = 32 → at_ < n1 → ∀ W : World, Calls Tryz.prog 85 #[.string v, .int .i64 n1, .int .i64 at_, .string bits, .int .i64 si] W fun e w' => e = .returned (.bool b) ∧ W = w')
    (hbad : ¬ (k1 = 0 ∧ n1 < 256 ∧ v.size = 32 ∧ at_ < n1 ∧ b = true ∧ firstB v n1.toNat = v))
    (c0 : w.cell? ⟨g, o, none⟩ = some (.int .i64 2)) (c1 : w.cell? ⟨g, o + 1, none⟩ = some (.int .u64 n)) (c2 : w.cell? ⟨g, o + 2, none⟩ = some (.string s)) (c3 : w.cell? ⟨g, o + 3, none⟩ = some (.slice (some ⟨g2, o2, none⟩) 2 kc))
    (p0 : w.cell? ⟨g2, o2, none⟩ = some (.int .i64 k1)) (p1 : w.cell? ⟨g2, o2 + 1, none⟩ = some (.int .u64 n1)) (p2 : w.cell? ⟨g2, o2 + 2, none⟩ = some (.string u)) (p3 : w.cell? ⟨g2, o2 + 3, none⟩ = some (.slice ka1 kn1 kc1))
    (q0 : w.cell? ⟨g2, o2 + 4, none⟩ = some (.int .i64 1)) (q2 : w.cell? ⟨g2, o2 + 4 + 2, none⟩ = some (.string v)) :
    Calls Tryz.prog 48 #[.slice (some ⟨g, o, none⟩) L c, .int .i64 at_, .string bits, .int .i64 si] w (RdO w f none) := by
  have hL0 : 0 < L := by omega
  have hLI : (0 : Int) < (L : Int) := by omega
  have hLe : ((L : Int) == 0) = false := by simp; omega
  have x0 := cellA zTree (cellA zTree c0)
  have x1 := cellA zTree (cellA zTree c1)
  have x2 := cellA zTree (cellA zTree c2)
  have x3 := cellA zTree (cellA zTree c3)
  have y0 : (((w.alloc zTree).alloc zTree).alloc (.cells #[.int .i64 2, .int .u64 n, .string s, .slice (some ⟨g2, o2, none⟩) 2 kc] 80)).cell? ⟨g2, o2, none⟩ = some (.int .i64 k1) := cellA _ (cellA _ (cellA _ p0))
  have y1 : (((w.alloc zTree).alloc zTree).alloc (.cells #[.int .i64 2, .int .u64 n, .string s, .slice (some ⟨g2, o2, none⟩) 2 kc] 80)).cell? ⟨g2, o2 + 1, none⟩ = some (.int .u64 n1) := cellA _ (cellA _ (cellA _ p1))
  have y2 : (((w.alloc zTree).alloc zTree).alloc (.cells #[.int .i64 2, .int .u64 n, .string s, .slice (some ⟨g2, o2, none⟩) 2 kc] 80)).cell? ⟨g2, o2 + 2, none⟩ = some (.string u) := cellA _ (cellA _ (cellA _ p2))
  have y3 : (((w.alloc zTree).alloc zTree).alloc (.cells #[.int .i64 2, .int .u64 n, .string s, .slice (some ⟨g2, o2, none⟩) 2 kc] 80)).cell? ⟨g2, o2 + 3, none⟩ = some (.slice ka1 kn1 kc1) := cellA _ (cellA _ (cellA _ p3))
  have z0 : (((w.alloc zTree).alloc zTree).alloc (.cells #[.int .i64 2, .int .u64 n, .string s, .slice (some ⟨g2, o2, none⟩) 2 kc] 80)).cell? ⟨g2, o2 + 4, none⟩ = some (.int .i64 1) := cellA _ (cellA _ (cellA _ q0))
  have z1 : ((((w.alloc zTree).alloc zTree).alloc (.cells #[.int .i64 2, .int .u64 n, .string s, .slice (some ⟨g2, o2, none⟩) 2 kc] 80)).alloc (.cells #[.int .i64 k1, .int .u64 n1, .string u, .slice ka1 kn1 kc1] 80)).cell? ⟨g2, o2 + 4 + 2, none⟩ = some (.string v) := cellA _ (cellA _ (cellA _ (cellA _ q2)))
  have hk1I : (k1 == 1) = false := by simpa using hk1
  by_cases hk0 : k1 = 0
  · subst hk0
    by_cases h256 : n1 < 256
    · have h255 : ¬ (255 : Int) < n1 := by omega
      have hcv : IntKind.i64.wrap n1 = n1 := IntWalk.i64_in _ (by omega)
      by_cases h : v.size = 32
      · have hI : ((v.size : Int) != 32) = false := by rw [h]; rfl
        by_cases hat : at_ < n1
        · have hatI : ¬ n1 ≤ at_ := by omega
          have HBEL := Lib.hid (hbel hn0 h256 h hat)
          cases b with
          | false =>
            clear h256 hat hbad hbel h
            go_enter Tryz.func48, Tryz.ntmps48
            go_wp2_with fail
            refine (HBEL.out _).mono ?_
            rintro e wz ⟨rfl, rfl⟩
            go_wp2_with fail
            refine bodyPost_ret (v := .tuple #[tv0, .int .i64 (-1)]) (by simp [results, Tryz.results48, go_sem, tv0, tv]) rfl ⟨rfl, ?_⟩
            exact ((((Below.refl _ w).alloc (Nat.le_refl _) _).alloc (by simp) _).alloc (by simp; omega) _).alloc (by simp; omega) _
          | true =>
            have hne : ¬ firstB v n1.toNat = v := fun e => hbad ⟨rfl, h256, h, hat, rfl, e⟩
            have hneI := str_ne hne
            obtain ⟨N, rfl⟩ := Int.eq_ofNat_of_zero_le hn0
            rw [Int.toNat_natCast] at hneI hne
            have HFI := Lib.hid (fun W => first_ref v N W h (by omega))
            obtain ⟨V, hV⟩ : ∃ V, V = firstB v N := ⟨_, rfl⟩
            rw [← hV] at HFI hneI
            obtain ⟨W4, hW4⟩ : ∃ W, W = ((((w.alloc zTree).alloc zTree).alloc (.cells #[.int .i64 2, .int .u64 n, .string s, .slice (some ⟨g2, o2, none⟩) 2 kc] 80)).alloc (.cells #[.int .i64 0, .int .u64 (N : Int), .string u, .slice ka1 kn1 kc1] 80)) := ⟨_, rfl⟩
            have hb4 : Below w.heap.size w W4 := by rw [hW4]; exact ((((Below.refl _ w).alloc (Nat.le_refl _) _).alloc (by simp) _).alloc (by simp; omega) _).alloc (by simp; omega) _
            have hbk : W4.heap[w.heap.size]? = some zTree := by
              rw [hW4]
              have hh := heap_alloc_new w zTree
              exact block_kept (block_kept (block_kept hh (by simp) ((Below.refl _ _).alloc (Nat.le_refl _) _)) (by simp; omega) ((Below.refl _ _).alloc (Nat.le_refl _) _)) (by simp; omega) ((Below.refl _ _).alloc (Nat.le_refl _) _)
            have hbk2 : W4.heap[w.heap.size + 1]? = some zTree := by
              rw [hW4]
              have hh := heap_alloc_new (w.alloc zTree) zTree
              rw [show (w.alloc zTree).heap.size = w.heap.size + 1 by simp] at hh
              exact block_kept (block_kept hh (by simp) ((Below.refl _ _).alloc (Nat.le_refl _) _)) (by simp <;> omega) ((Below.refl _ _).alloc (Nat.le_refl _) _)
            have HW4 := Lib.hid hW4
            have HB4 := Lib.hid hb4
            have HK := Lib.hid hbk
            have HK2 := Lib.hid hbk2
            clear h256 hat hbad hbel h hne hV hW4 hb4 hbk hbk2
            go_enter Tryz.func48, Tryz.ntmps48
            go_wp2_with fail
            refine (HBEL.out _).mono ?_
            rintro e wz ⟨rfl, rfl⟩
            go_wp2_with fail
            rw [← HW4.out]
            refine (HFI.out W4).mono ?_
            rintro e w5 ⟨rfl, hb5⟩
            have hk5 := block_kept HK.out (World.lt_of_block HK.out) hb5
            have hk25 := block_kept HK2.out (World.lt_of_block HK2.out) hb5
            have HB5 := Lib.hid (HB4.out.trans (hb5.mono HB4.out.size))
            obtain ⟨⟨a0, a1, a2, a3, a4, a5⟩, b0, b1, b2, b3, b4, b5⟩ := block6 hk5
            obtain ⟨⟨e0, e1, e2, e3, e4, e5⟩, _⟩ := block6 hk25
            have hlt5 : w.heap.size < w5.heap.size := World.lt_of_block hk5
            clear hb5 hk5 hk25
            go_wp2_with fail
            refine bodyPost_ret (v := .tuple #[tv0, .int .i64 (-1)]) (by simp [results, Tryz.results48, go_sem, tv0, tv, a0, a1, a2, a3, a4, a5]) rfl ⟨rfl, ?_⟩
            exact six_below HB5.out (Nat.le_refl _)
        · have hatI : n1 ≤ at_ := by omega
          clear h256 hat hbad hbel h
          go_enter Tryz.func48, Tryz.ntmps48
          go_wp2_with fail
          refine bodyPost_ret (v := .tuple #[tv0, .int .i64 (-1)]) (by simp [results, Tryz.results48, go_sem, tv0, tv]) rfl ⟨rfl, ?_⟩
          exact ((((Below.refl _ w).alloc (Nat.le_refl _) _).alloc (by simp) _).alloc (by simp; omega) _).alloc (by simp; omega) _
      · have hI : ((v.size : Int) != 32) = true := by simp; omega
        clear h256 hbad hbel h
        go_enter Tryz.func48, Tryz.ntmps48
        go_wp2_with fail
        refine bodyPost_ret (v := .tuple #[tv0, .int .i64 (-1)]) (by simp [results, Tryz.results48, go_sem, tv0, tv]) rfl ⟨rfl, ?_⟩
        exact ((((Below.refl _ w).alloc (Nat.le_refl _) _).alloc (by simp) _).alloc (by simp; omega) _).alloc (by simp; omega) _
    · have h255 : (255 : Int) < n1 := by omega
      clear h256 hbad hbel
      go_enter Tryz.func48, Tryz.ntmps48
      go_wp2_with fail
      refine bodyPost_ret (v := .tuple #[tv0, .int .i64 (-1)]) (by simp [results, Tryz.results48, go_sem, tv0, tv]) rfl ⟨rfl, ?_⟩
      exact ((((Below.refl _ w).alloc (Nat.le_refl _) _).alloc (by simp) _).alloc (by simp; omega) _).alloc (by simp; omega) _
  · have hk0I : (k1 != 0) = true := by simpa using hk0
    clear hbad hbel hk0 hk1
    go_enter Tryz.func48, Tryz.ntmps48
    go_wp2_with fail
    refine bodyPost_ret (v := .tuple #[tv0, .int .i64 (-1)]) (by simp [results, Tryz.results48, go_sem, tv0, tv]) rfl ⟨rfl, ?_⟩
    exact ((((Below.refl _ w).alloc (Nat.le_refl _) _).alloc (by simp) _).alloc (by simp; omega) _).alloc (by simp; omega) _
end Go.Proofs.YtmpjpaomgifpcaaGreatDoor
