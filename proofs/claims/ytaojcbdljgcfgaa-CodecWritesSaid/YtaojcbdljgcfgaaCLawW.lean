/- CodecWrites' law. -/
import Derived.Test.YtaojcbdljgcfgaaCLawU
import Derived.Test.YtaojcbdljgcfgaaCRfW
namespace Go.Proofs.Ytaojcbdljgcfgaa
open Go.RowKit

theorem deep_wt : ∀ f : F, f.deep ≤ f.wt
  | .nil => by simp [F.deep]
  | .cons _ _ _ c r => by
    have h1 := deep_wt c
    have h2 := deep_wt r
    simp only [F.deep, F.wt]
    omega
/-- What the three functions that read the node leave of it. -/
def KeepR (w1 : World) (s37 : Value) (wx : World) : Prop := s37 = .bool false ∧ Below w1.heap.size w1 wx

set_option maxRecDepth 30000 in
set_option maxHeartbeats 4000000 in
theorem writes_law (la : Option Addr) (ln lc : Nat) (w : World) (hf : Flats w w.heap.size la ln) :
    Calls Try.prog 3 #[.slice la ln lc] w fun e w' => e = .returned (.bool true) ∧ Below w.heap.size w w' := by
  have HA := Lib.hid (awake_prog w)
  have HF := Lib.hid hf
  clear hf
  go_enter Try.func3, Try.ntmps3
  go_wp2_with fail
  refine HA.out.mono ?_
  rintro e w1 ⟨rfl, hb1⟩
  have HT := Lib.hid (tree_prog la ln lc w1 (flats_below HF.out (Nat.le_refl _) hb1))
  go_wp2_with fail
  refine HT.out.mono ?_
  rintro e w2 ⟨hb2, hres⟩
  have HB2 := Lib.hid (hb1.trans (hb2.mono hb1.size))
  clear HT HA hb1 hb2
  rcases hres with ⟨ka, kn, kc, f, rfl, hk, hwt, hnok⟩ | rfl
  · have HK := Lib.hid hk
    have HW := Lib.hid hwt
    have HN := Lib.hid hnok
    clear hk hwt hnok
    unfold nodeV
    obtain ⟨W, hW⟩ : ∃ W, W = w2.alloc (.cells #[.int .i64 2, .int .u64 0, .string ⟨#[]⟩, .slice ka kn kc] 27) := ⟨_, rfl⟩
    have hkW : Hid (KidsAt W (· < W.heap.size) f (.slice ka kn kc)) := Lib.hid (by rw [hW]; exact kids_later HK.out ((Below.refl _ w2).alloc (Nat.le_refl _) _))
    have hbW : Hid (Below w.heap.size w W) := Lib.hid (by rw [hW]; exact HB2.out.alloc HB2.out.size _)
    have hblk : Hid (W.heap[w2.heap.size]? = some (.cells #[.int .i64 2, .int .u64 0, .string ⟨#[]⟩, .slice ka kn kc] 27 (0, 0))) := Lib.hid (by rw [hW]; exact heap_alloc_new w2 _)
    have HTO := Lib.hid (tree_ok HW.out HN.out).1
    have hdp : Hid (f.deep ≤ 1000000) := Lib.hid (by have := deep_wt f; have := HW.out; omega)
    have hln : Hid ((nodeL 2 0 ⟨#[]⟩ f.len f.bytes).length ≤ 16777216) := Lib.hid (by have := (tree_ok HW.out HN.out).2.1; unfold tbs at this; omega)
    obtain ⟨r, hr⟩ : ∃ r, r = (tnd f).right 20 := ⟨_, rfl⟩
    obtain ⟨S, hS⟩ : ∃ S : ByteArray, S = if r then ⟨(tbs f).toArray⟩ else ⟨#[]⟩ := ⟨_, rfl⟩
    have hwr := Lib.hid (write_prog 2 0 ⟨#[]⟩ f (.slice ka kn kc) W HTO.out hkW.out (tree_fits HW.out HN.out) r S hr.symm hS)
    have kk : Hid (∀ w3 : World, Below W.heap.size W w3 → KidsAt w3 (· < w3.heap.size) f (.slice ka kn kc)) := Lib.hid (fun w3 hb => hkW.out.mono (fun b h => Nat.lt_of_lt_of_le h hb.size) (fun b h => hb.block b h))
    have hwr2 := Lib.hid (fun (w3 : World) (hb : Below W.heap.size W w3) => write_ref (tnd f) (.slice ka kn kc) w3 HTO.out hdp.out (kk.out w3 hb) hln.out r S hr.symm hS)
    have hri := Lib.hid (fun (w3 : World) (hb : Below W.heap.size W w3) => right_prog (tnd f) (.slice ka kn kc) w3 HTO.out (kk.out w3 hb))
    have hri2 := Lib.hid (fun (w3 : World) (hb : Below W.heap.size W w3) => rright_prog (tnd f) (.slice ka kn kc) w3 HTO.out hdp.out (kk.out w3 hb))
    rw [← hr] at hri hri2
    unfold nodeV at hwr
    simp only [nodeV, tnd] at hwr2 hri hri2
    have PS := Lib.hid (tree_pre HW.out HN.out hS)
    have HR := Lib.hid hr
    have hlW : Hid (w2.heap.size < W.heap.size) := Lib.hid (by rw [hW]; simp)
    clear hS hr
    go_wp2_with fail
    rw [← hW]
    clear hW
    refine hwr.out.mono ?_
    rintro e w3 ⟨rfl, hb3⟩
    obtain ⟨x0, x1, x2, x3, _, _, _, _⟩ := block4' (blockP hb3 hblk.out)
    have h2 := Lib.hid (hwr2.out w3 hb3)
    have HB3 := Lib.hid hb3
    clear hwr hwr2 hb3
    go_wp2_with fail
    refine h2.out.mono ?_
    rintro e w4 ⟨rfl, hb4⟩
    have HB4 : Hid (Below W.heap.size W w4) := Lib.hid (HB3.out.trans (hb4.mono HB3.out.size))
    clear h2 hb4 x0 x1 x2 x3
    obtain ⟨x0, x1, x2, x3, _, _, _, _⟩ := block4' (blockP HB4.out hblk.out)
    go_upto_region 8 with (fail)
    go_cut [44] (fun s44 wx => KeepR w4 s44 wx)
    case first =>
      cases r with
      | false =>
        go_region_held3 (fun w' => w'.cell? ⟨w2.heap.size, 0, none⟩ = some (.int .i64 2) ∧ w'.cell? ⟨w2.heap.size, 1, none⟩ = some (.int .u64 0) ∧ w'.cell? ⟨w2.heap.size, 2, none⟩ = some (.string ⟨#[]⟩) ∧ w'.cell? ⟨w2.heap.size, 3, none⟩ = some (.slice ka kn kc))
          (first
            | exact ⟨x0, x1, x2, x3⟩
            | exact ⟨cellB hb5 x0, cellB hb5 x1, cellB hb5 x2, cellB hb5 x3⟩
            | exact ⟨cellP hb6 (cellB hb5 x0), cellP hb6 (cellB hb5 x1), cellP hb6 (cellB hb5 x2), cellP hb6 (cellB hb5 x3)⟩)
          ((first
            | (go_at_call 13; refine (hri.out _ HB4.out.drew).mono ?_; rintro e w5 ⟨rfl, hb5⟩; have hacc5 : Below W.heap.size W w5 := HB4.out.drew.trans (hb5.mono HB4.out.size))
            | (go_at_call 14; refine (hri2.out _ hacc5).mono ?_; rintro e w6 ⟨rfl, hb6⟩)))
        have hacc6 : Below w4.heap.size w4 w6 := ((Below.refl _ w4).drew.trans hb5).trans (hb6.mono (by have := hb5.size; exact this))
        go_wp2_with fail
        go_meet
        exact ⟨rfl, hacc6⟩
      | true =>
        go_region_held3 (fun w' => w'.cell? ⟨w2.heap.size, 0, none⟩ = some (.int .i64 2) ∧ w'.cell? ⟨w2.heap.size, 1, none⟩ = some (.int .u64 0) ∧ w'.cell? ⟨w2.heap.size, 2, none⟩ = some (.string ⟨#[]⟩) ∧ w'.cell? ⟨w2.heap.size, 3, none⟩ = some (.slice ka kn kc))
          (first
            | exact ⟨x0, x1, x2, x3⟩
            | exact ⟨cellB hb5 x0, cellB hb5 x1, cellB hb5 x2, cellB hb5 x3⟩
            | exact ⟨cellP hb6 (cellB hb5 x0), cellP hb6 (cellB hb5 x1), cellP hb6 (cellB hb5 x2), cellP hb6 (cellB hb5 x3)⟩)
          ((first
            | (go_at_call 13; refine (hri.out _ HB4.out.drew).mono ?_; rintro e w5 ⟨rfl, hb5⟩; have hacc5 : Below W.heap.size W w5 := HB4.out.drew.trans (hb5.mono HB4.out.size))
            | (go_at_call 14; refine (hri2.out _ hacc5).mono ?_; rintro e w6 ⟨rfl, hb6⟩)))
        have hacc6 : Below w4.heap.size w4 w6 := ((Below.refl _ w4).drew.trans hb5).trans (hb6.mono (by have := hb5.size; exact this))
        go_wp2_with fail
        go_meet
        exact ⟨rfl, hacc6⟩
    case rest =>
      obtain ⟨rfl, hbc⟩ := hcut
      have HB5 : Hid (Below W.heap.size W wc) := Lib.hid (HB4.out.trans (hbc.mono HB4.out.size))
      clear x0 x1 x2 x3 hbc hri hri2
      obtain ⟨x0, x1, x2, x3, _, _, _, _⟩ := block4' (blockP HB5.out hblk.out)
      cases r with
      | false =>
        go_wp2_with fail
        go_ret
        exact ⟨rfl, hbW.out.trans (HB5.out.mono hbW.out.size)⟩
      | true =>
        have hSl : Hid (S.data.toList = tbs f) := Lib.hid (PS.out.2 rfl)
        have hSs : S.size ≤ 10000000 := by have := PS.out.1; omega
        have hrd := Lib.hid (read_prog S wc hSs)
        have hro : Hid (readO S.data.toList = some (tnd f)) := Lib.hid (by
          have := tbs_parse HW.out HN.out HR.out.symm []
          rw [List.append_nil] at this
          rw [hSl.out, readO, this])
        clear hSs
        go_wp2_with fail
        refine hrd.out.mono ?_
        rintro e w5 ⟨x, xa, xn, xc, b, rfl, hb5, p1, p2, hk5⟩
        obtain rfl : b = true := by
          cases b with
          | true => rfl
          | false => have := (p2 rfl).1; rw [hro.out] at this; cases this
        obtain rfl : x = tnd f := by
          have := p1 rfl
          rw [hro.out] at this
          exact (Option.some.inj this).symm
        have HB6 : Hid (Below W.heap.size W w5) := Lib.hid (HB5.out.trans (hb5.mono HB5.out.size))
        obtain ⟨V, hV⟩ : ∃ V, V = w5.alloc (.cells #[.int .i64 2, .int .u64 0, .string ⟨#[]⟩, .slice xa xn xc] 27) := ⟨_, rfl⟩
        have hbV : Below w5.heap.size w5 V := by rw [hV]; exact (Below.refl _ w5).alloc (Nat.le_refl _) _
        have hVn : Hid (V.heap[w5.heap.size]? = some (.cells #[.int .i64 2, .int .u64 0, .string ⟨#[]⟩, .slice xa xn xc] 27 (0, 0))) := Lib.hid (by rw [hV]; exact heap_alloc_new w5 _)
        have HBV : Hid (Below W.heap.size W V) := Lib.hid (HB6.out.trans (hbV.mono HB6.out.size))
        have hkV : Hid (KidsAt V (· < V.heap.size) f (.slice xa xn xc)) := Lib.hid (kids_later hk5 hbV)
        have hkf : Hid (KidsAt V (· < V.heap.size) f (.slice ka kn kc)) := Lib.hid (kk.out V HBV.out)
        have hsm := Lib.hid (csame_prog (tnd f) (tnd f) (.slice xa xn xc) (.slice ka kn kc) V HTO.out hkV.out hkf.out)
        rw [show (tnd f).eqB (tnd f) = true from (ndEqB_iff _ _).2 rfl] at hsm
        unfold nodeV tnd at hsm
        obtain ⟨y0, y1, y2, y3, _, _, _, _⟩ := block4' (blockP HBV.out hblk.out)
        rw [hV] at y0 y1 y2 y3
        clear x0 x1 x2 x3 hb5 p1 p2 hk5 hbV hrd
        simp only [nodeV, tnd]
        go_wp2_with fail
        rw [← hV]
        clear hV
        refine hsm.out.mono ?_
        rintro e w6 ⟨rfl, hb6⟩
        have HB7 : Hid (Below W.heap.size W w6) := Lib.hid (HBV.out.trans (hb6.mono HBV.out.size))
        obtain ⟨z0, z1, z2, z3, _, _, _, _⟩ := block4' (blockP hb6 hVn.out)
        clear y0 y1 y2 y3
        obtain ⟨y0, y1, y2, y3, _, _, _, _⟩ := block4' (blockP HB7.out hblk.out)
        have hsm2 := Lib.hid (same_ok (f.deep + 1) (tnd f) (tnd f) (.slice xa xn xc) (.slice ka kn kc) w6.heap.size w6 (by show f.deep < f.deep + 1; omega) HTO.out.2.2.1 HTO.out.2.2.2 (Nat.le_refl _)
          (hkV.out.mono (fun b h => Nat.lt_of_lt_of_le h hb6.size) (fun b h => hb6.block b h)) (kk.out w6 HB7.out))
        rw [show (tnd f).eqB (tnd f) = true from (ndEqB_iff _ _).2 rfl] at hsm2
        unfold nodeV tnd at hsm2
        clear hsm hb6
        go_wp2_with fail
        refine hsm2.out.mono ?_
        rintro e w7 ⟨rfl, hb7⟩
        have HB8 : Hid (Below W.heap.size W w7) := Lib.hid (HB7.out.trans (hb7.mono HB7.out.size))
        clear hsm2 hb7 z0 z1 z2 z3 y0 y1 y2 y3
        go_wp2_with fail
        go_ret
        exact ⟨rfl, hbW.out.trans (HB8.out.mono hbW.out.size)⟩
  · unfold nodeV
    go_wp2_with fail
    go_ret
    exact ⟨rfl, HB2.out.alloc HB2.out.size _⟩
end Go.Proofs.Ytaojcbdljgcfgaa
