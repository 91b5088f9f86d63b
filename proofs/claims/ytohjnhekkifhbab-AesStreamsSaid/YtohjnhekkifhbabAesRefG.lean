/- The document's text under a key and a number, walked: the whole; AesStreams. -/
import Derived.Test.YtohjnhekkifhbabAesRefF
import Derived.Test.YtohjnhekkifhbabAesLawD
namespace Go.Proofs.Ytohjnhekkifhbab
open Go.RowKit

theorem blk_at (s : ByteArray) (k : Nat) (h : k < s.size) : s[k] = blk s k := by
  have h2 : k < s.data.size := h
  unfold blk
  rw [Array.getElem?_eq_getElem h2]; rfl

set_option maxRecDepth 100000 in
set_option maxHeartbeats 4000000 in
theorem stream_ref (key n s : ByteArray) (gb cb : Nat) (w : World) (hk : key.size = 16) (hn : n.size = 16) (hs : s.size ≤ 1000000) (hbox : Reads w gb 256 boxT) :
    Calls Try.prog 17 #[.string key, .string n, .string s, .slice (some ⟨gb, 0, none⟩) 256 cb] w fun e w' => e = .returned (.string (strT key n s)) ∧ Below w.heap.size w w' := by
  obtain ⟨KW, hKW⟩ : ∃ KW, KWf key.data.toList = KW := ⟨_, rfl⟩
  obtain ⟨N, hN⟩ : ∃ N, blk n = N := ⟨_, rfl⟩
  have HT : Hid (strT key n s = outS KW N s) := Lib.hid (by unfold strT; rw [hKW, hN])
  have HE : Hid (∀ b : ByteArray, encT key b = txt (enc KW (blk b))) := Lib.hid (fun b => by unfold encT; rw [hKW])
  have HK := Lib.hid hk
  have HN := Lib.hid hN
  have HNS := Lib.hid hn
  have hgb := hbox.lt
  clear hKW hN hk hn
  go_enter Try.func17, Try.ntmps17
  go_wp2_with (first
    | (refine list_bytes (e := 5) Try.underlying9 Try.underlying29 Try.underlying5 rfl _ rfl s rfl ?_))
  intro cap w1 hp1 hb1
  obtain ⟨go, hgo⟩ : ∃ g, w.heap.size = g := ⟨_, rfl⟩
  have hgw : w.heap.size ≤ go := by omega
  rw [hgo] at hp1 ⊢
  clear hgo
  go_wp2_with fail
  go_loopw [1, 10] (fun nv iv WX => ∃ (v : Nat) (nb : ByteArray), v % 16 = 0 ∧ v ≤ s.size + 15 ∧ iv = .int .i64 v ∧ nv = .string nb ∧ Hid (nb.size = 16) ∧ Hid (∀ j, j < 16 → blk nb j = nxtN N (v / 16) j) ∧ Part WX go s.size (fun a => if a < v then outB KW N s a else blk s a) ∧ Below w.heap.size w WX) (fun _ iv _ => s.size + 16 - (intOf iv).toNat)
  case atStart => exact ⟨0, n, rfl, by omega, rfl, rfl, HNS, Lib.hid (fun j _ => by rw [HN.out]; rfl), hp1.congr (fun a _ => by simp), hb1⟩
  case round =>
    clear hp1 hb1
    obtain ⟨v, nb, hv16, hvs, rfl, rfl, HNB, HNN, hp, hb⟩ := hrel
    by_cases hlt : v < s.size
    · have hbr := block_ref key nb gb cb wr HK.out HNB.out (hbox.below hb hgb)
      obtain ⟨E, hE⟩ : ∃ E, encT key nb = E := ⟨_, rfl⟩
      rw [hE] at hbr
      have HBR := Lib.hid hbr
      have HEE : Hid (∀ i, i < 16 → blk E i = strB KW N (v + i)) := Lib.hid (fun i hi => by
        rw [← hE, HE.out, blk_txt _ _ hi]
        unfold strB
        rw [show (v + i) / 16 = v / 16 by omega, show (v + i) % 16 = i by omega]
        exact enc_congr KW HNN.out i hi)
      have hEs : E.size = 16 := by rw [← hE]; exact encT_size _ _
      have e1 : E.size ≤ 16 := by omega
      have e2 : 16 ≤ E.size := by omega
      clear hbr hE hEs
      go_wp2_with fail
      refine HBR.out.mono ?_
      rintro e w2 ⟨rfl, hb2⟩
      have hp2 : Part w2 go s.size (fun a => if a < v + 0 then outB KW N s a else blk s a) := hp.later hb2
      have hb3 := belowNext hb hb2
      clear hp hb hb2
      go_wp2_with fail
      go_loopw [12] (fun iv WX => ∃ i : Nat, i ≤ 16 ∧ v + i ≤ s.size ∧ iv = .int .i64 i ∧ Part WX go s.size (fun a => if a < v + i then outB KW N s a else blk s a) ∧ Below w.heap.size w WX) (fun iv _ => 16 - (intOf iv).toNat)
      case atStart => exact ⟨0, by omega, by omega, rfl, hp2, hb3⟩
      case round =>
        clear hp2 hb3
        obtain ⟨i, hi, his, rfl, hp, hbs⟩ := hrel
        by_cases h1 : i < 16
        · have d1 : decide ((i : Int) < 16) = true := by simp; omega
          by_cases h2 : v + i < s.size
          · have d2 : decide ((v : Int) + (i : Int) < (s.size : Int)) = true := by simp; omega
            have c1 := hp.cell (v + i) h2
            have f1 := hp.frozen (v + i) h2
            simp only [Nat.lt_irrefl, if_false] at c1
            have nE : i < E.size := by omega
            obtain ⟨x, hx, ex⟩ := xname (blk s (v + i)) E[i]
            have HX : Hid (outB KW N s (v + i) = x) := Lib.hid (by unfold outB; rw [← HEE.out i h1, ← blk_at E i nE, hx])
            clear hx
            have i0 : (0 : Int) ≤ (i : Int) := by omega
            have i1 : (i : Int) < (E.size : Int) := by omega
            have q0 : IntKind.i64.wrap ((v : Int) + (i : Int)) = (v : Int) + (i : Int) := IntWalk.i64_in _ (by omega)
            have a0 : (0 : Int) ≤ (v : Int) + (i : Int) := by omega
            have a1 : (v : Int) + (i : Int) < (s.size : Int) := by omega
            have n1 : ((v : Int) + (i : Int)).toNat = v + i := by omega
            go_wp2_with fail
            go_still_tail 15, (by kernel_rfl)
            go_wp2
            go_roundw
            case rel =>
              refine ⟨i + 1, by omega, by omega, by go_num, Part.drew (hp.set (v + i) x _ (fun a _ => ?_)), (hbs.setCell hgw _).drew⟩
              by_cases hav : a = v + i
              · subst hav; rw [if_pos (by omega), if_pos rfl, HX.out]
              · rw [if_neg hav]
                by_cases hl : a < v + i
                · rw [if_pos hl, if_pos (by omega)]
                · rw [if_neg hl, if_neg (by omega)]
            case measure => simp [intOf]; omega
          · have d2 : decide ((v : Int) + (i : Int) < (s.size : Int)) = false := by simp; omega
            have hpe : Part wr go s.size (fun a => if a < v + 16 then outB KW N s a else blk s a) := hp.congr (fun a ha => by
              by_cases h1 : a < v + i
              · rw [if_pos h1, if_pos (by omega)]
              · rw [if_neg h1, if_neg (by omega)])
            clear hp
            go_wp2_with fail
            refine (next_ref nb wr HNB.out).mono ?_
            rintro e w8 ⟨rfl, hb8⟩
            have hp8 := hpe.later hb8
            have hbs8 := belowNext hbs hb8
            clear hpe hbs hb8
            obtain ⟨nb2, hnb2⟩ : ∃ nb2, txt (nxt (blk nb)) = nb2 := ⟨_, rfl⟩
            have HNB2 : Hid (nb2.size = 16) := Lib.hid (by rw [← hnb2]; exact txt_size _)
            have HNN2 : Hid (∀ j, j < 16 → blk nb2 j = nxtN N ((v + 16) / 16) j) := Lib.hid (fun j hj => by
              rw [← hnb2, blk_txt _ _ hj, show (v + 16) / 16 = v / 16 + 1 by omega]
              exact nxt_congr HNN.out j hj)
            rw [hnb2]
            clear hnb2
            go_wp2_with fail
            go_roundw
            case rel => exact ⟨v + 16, nb2, by omega, by omega, by go_num, rfl, HNB2, HNN2, hp8, hbs8⟩
            case measure => simp [intOf]; omega

        · have d1 : decide ((i : Int) < 16) = false := by simp; omega
          have hpe : Part wr go s.size (fun a => if a < v + 16 then outB KW N s a else blk s a) := hp.congr (fun a ha => by
            by_cases h1 : a < v + i
            · rw [if_pos h1, if_pos (by omega)]
            · rw [if_neg h1, if_neg (by omega)])
          clear hp
          go_wp2_with fail
          refine (next_ref nb wr HNB.out).mono ?_
          rintro e w8 ⟨rfl, hb8⟩
          have hp8 := hpe.later hb8
          have hbs8 := belowNext hbs hb8
          clear hpe hbs hb8
          obtain ⟨nb2, hnb2⟩ : ∃ nb2, txt (nxt (blk nb)) = nb2 := ⟨_, rfl⟩
          have HNB2 : Hid (nb2.size = 16) := Lib.hid (by rw [← hnb2]; exact txt_size _)
          have HNN2 : Hid (∀ j, j < 16 → blk nb2 j = nxtN N ((v + 16) / 16) j) := Lib.hid (fun j hj => by
            rw [← hnb2, blk_txt _ _ hj, show (v + 16) / 16 = v / 16 + 1 by omega]
            exact nxt_congr HNN.out j hj)
          rw [hnb2]
          clear hnb2
          go_wp2_with fail
          go_roundw
          case rel => exact ⟨v + 16, nb2, by omega, by omega, by go_num, rfl, HNB2, HNN2, hp8, hbs8⟩
          case measure => simp [intOf]; omega

    · have hge : (s.size : Int) ≤ (v : Int) := by omega
      have hcv := run_convert_bytes_back (P := Try.prog) wr 29 9 5 ⟨go, 0, none⟩ cap ((List.range s.size).map (outB KW N s)) Try.underlying29 Try.underlying5 Try.underlying9 (fun j hj => by
        have hj2 : j < s.size := by simpa using hj
        rw [Addr.add_mid, Nat.zero_add, hp.cell j hj2, if_pos (by omega)]
        simp)
      rw [List.length_map, List.length_range] at hcv
      replace hcv : (convert 29 9 (.slice (some ⟨go, 0, none⟩) s.size cap)).run Try.prog wr = .ok (.string (outS KW N s)) wr := hcv
      clear hp hlt
      go_wp2
      go_ret
      exact ⟨by rw [HT.out]; rfl, hb⟩
end Go.Proofs.Ytohjnhekkifhbab
