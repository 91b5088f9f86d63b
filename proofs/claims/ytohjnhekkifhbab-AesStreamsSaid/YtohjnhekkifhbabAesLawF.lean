/- AesBlocks: a block under a key is the document's. -/
import Derived.Test.YtohjnhekkifhbabAesRefE
import Derived.Test.YtohjnhekkifhbabAesLawE
namespace Go.Proofs.Ytohjnhekkifhbab
open Go.RowKit

/-- What 'Boxes' leaves. -/
def BoxesPost (w : World) (e : Ending) (w' : World) : Prop :=
  ∃ g cap : Nat, e = .returned (.slice (some ⟨g, 0, none⟩) 256 cap) ∧ Reads w' g 256 boxT ∧ Below w.heap.size w w'
theorem boxr_at2 (b : UInt8) (x : Int) (z : UInt8) (w : World) (hx : x = (b.toNat : Int)) (hz : sb b = z) :
    Calls Try.prog 12 #[.int .u8 x] w fun e w' => e = .returned (.int .u8 (z.toNat : Int)) ∧ Below w.heap.size w w' := by subst hx hz; exact box_ref b w

set_option maxRecDepth 100000 in
set_option maxHeartbeats 2000000 in
theorem boxes_ref (w : World) : Calls Try.prog 15 #[] w (BoxesPost w) := by
  go_enter Try.func15, Try.ntmps15
  go_wp2_with fail
  go_loopw [1, 2] (fun vs iv WX => ∃ (k : Nat) (v : Value), v = vs ∧ k ≤ 256 ∧ iv = .int .i64 k ∧ Owns WX w.heap.size 5 v (arrL k (fun j => byteV (boxT j))) ∧ Below w.heap.size w WX) (fun _ iv _ => 256 - (intOf iv).toNat)
  case atStart => exact ⟨0, _, rfl, by omega, rfl, Owns.nil _ _ _, Below.refl _ _⟩
  case round =>
    obtain ⟨k, v, rfl, hk, rfl, hown, hb⟩ := hrel
    by_cases hlt : k < 256
    · obtain ⟨z, hz⟩ : ∃ z, sb (UInt8.ofNat k) = z := ⟨_, rfl⟩
      have hcc : (k : Int) = ((UInt8.ofNat k).toNat : Int) := by simp; omega
      have HCC := Lib.hid hcc
      have HZ := Lib.hid hz
      have hsn : arrL (k + 1) (fun j => byteV (boxT j)) = arrL k (fun j => byteV (boxT j)) ++ [byteV z] := by
        simp only [arrL, List.range_succ, List.map_append, List.map_cons, List.map_nil]; rw [← hz]; rfl
      have HSN := Lib.hid hsn
      have hll : (arrL k (fun j => byteV (boxT j))).length ≤ 256 := by rw [arrL_length]; omega
      have hle : (arrL k (fun j => byteV (boxT j))).length = k := arrL_length _ _
      have HLE := Lib.hid hle
      clear hz hcc hsn hle
      go_wp2_with fail
      refine (boxr_at2 (UInt8.ofNat k) _ z wr (by first | exact HCC.out | (rw [← HCC.out])) HZ.out).mono ?_
      rintro e w2 ⟨rfl, hb2⟩
      have hown2 := hown.later hb2
      have hbx := belowNext hb hb2
      clear hown hb hb2
      go_wp2_with (first
        | (at_builtin; refine list_app_cells Try.bytesSl rfl _ _ rfl w.heap.size _ _ rfl (hown2.alloc _) w2.heap.size 1 1 [byteV z] rfl rfl (fun j u hu => by
            have := World.news_of_block (heap_at_alloc w2 (.cells #[.int .u8 (z.toNat : Int)] 5)) j u hu
            rwa [Addr.add_mid, Nat.zero_add] at this) (by intro u hu; simp at hu; subst hu; rfl) (by omega) (by unfold maxLen; omega) (by omega) (by have := hbx.size; simp; omega) ?_))
      intro g3 cap3 w3 hown3 hg3 hor3 hb3
      have hb4 := (hbx.alloc hbx.size _).trans hb3
      have hown4 : Owns w3 w.heap.size 5 (.slice (some ⟨g3, 0, none⟩) ((arrL k (fun j => byteV (boxT j))).length + 1) cap3) (arrL (k + 1) (fun j => byteV (boxT j))) := by rw [HSN.out]; exact hown3
      clear hown2 hown3 hbx hb3 hg3 hor3
      go_wp2_with fail
      go_roundw
      case rel => exact ⟨k + 1, _, rfl, by omega, by go_num, hown4, hb4⟩
      case measure => simp [intOf]; omega
    · have h256 : k = 256 := by omega
      have hge : (256 : Int) ≤ (k : Int) := by omega
      have hl0 : (arrL k (fun j => byteV (boxT j))).length = k := arrL_length _ _
      obtain ⟨g, cap, rfl⟩ := hown.form (by omega)
      rw [hl0] at hown ⊢
      have H256 := Lib.hid h256
      clear hl0 h256 hlt
      go_wp2_with fail
      go_ret
      have hk := H256.out
      clear hge H256
      subst hk
      exact ⟨g, cap, rfl, (Owns.part (n := 256) (f := boxT) hown).reads, hb⟩

set_option maxRecDepth 100000 in
set_option maxHeartbeats 4000000 in
theorem blocks_law (k b : ByteArray) (w : World) (hmk : k.size ≤ maxLen) (hmb : b.size ≤ maxLen) :
    Calls Try.prog 4 #[.string k, .string b] w fun e w' => e = .returned (.bool true) ∧ Below w.heap.size w w' := by
  unfold maxLen at hmk hmb
  have HA := Lib.hid (awake_prog w)
  go_enter Try.func4, Try.ntmps4
  by_cases hbig : 40 < k.size
  · go_wp2_with fail
    refine HA.out.mono ?_
    rintro e w1 ⟨rfl, hb1⟩
    go_wp2
    go_ret
    exact ⟨rfl, hb1⟩
  · by_cases hbig2 : 40 < b.size
    · go_wp2_with fail
      refine HA.out.mono ?_
      rintro e w1 ⟨rfl, hb1⟩
      go_wp2
      go_ret
      exact ⟨rfl, hb1⟩
    · have d1 : decide ((40 : Int) < (k.size : Int)) = false := by simp; omega
      have d2 : decide ((40 : Int) < (b.size : Int)) = false := by simp; omega
      by_cases hgood : k.size = 16 ∧ b.size = 16
      · obtain ⟨hk, hb⟩ := hgood
        have h2 : ((b.size : Int) != 16) = false := by
          have : (b.size : Int) = 16 := by omega
          simpa using this
        have h3 : ((k.size : Int) != 16) = false := by
          have : (k.size : Int) = 16 := by omega
          simpa using this
        obtain ⟨T, hT⟩ : ∃ T, encT k b = T := ⟨_, rfl⟩
        have HT := Lib.hid hT
        have HK := Lib.hid hk
        have HB := Lib.hid hb
        clear hT hk hb
        go_wp2_with fail
        refine HA.out.mono ?_
        rintro e w1 ⟨rfl, hb1⟩
        go_wp2_with fail
        refine (blockAt k b T w1 HK.out HB.out HT.out).mono ?_
        rintro e w2 ⟨rfl, hb2⟩
        go_wp2_with fail
        refine (boxes_ref w2).mono ?_
        rintro e w3 ⟨g, cap, rfl, hbox, hb3⟩
        go_wp2_with fail
        have hbr := block_ref k b g cap w3 HK.out HB.out hbox
        rw [HT.out] at hbr
        refine hbr.mono ?_
        clear hbr
        rintro e w4 ⟨rfl, hb4⟩
        go_wp2_with fail
        go_ret
        exact ⟨rfl, belowNext (belowNext (belowNext hb1 hb2) hb3) hb4⟩
      · have HG := Lib.hid hgood
        by_cases hk : k.size = 16
        · have h3 : ((k.size : Int) != 16) = false := by
            have : (k.size : Int) = 16 := by omega
            simpa using this
          have h2 : ((b.size : Int) != 16) = true := by
            have : (b.size : Int) ≠ 16 := by omega
            simpa using this
          clear hgood hk
          go_wp2_with fail
          refine HA.out.mono ?_
          rintro e w1 ⟨rfl, hb1⟩
          go_wp2_with fail
          refine (block_bad k b w1 HG.out).mono ?_
          rintro e w2 ⟨rfl, rfl⟩
          go_wp2_with fail
          go_ret
          exact ⟨rfl, hb1⟩
        · have h3 : ((k.size : Int) != 16) = true := by
            have : (k.size : Int) ≠ 16 := by omega
            simpa using this
          clear hgood hk
          go_wp2_with fail
          refine HA.out.mono ?_
          rintro e w1 ⟨rfl, hb1⟩
          go_wp2_with fail
          refine (block_bad k b w1 HG.out).mono ?_
          rintro e w2 ⟨rfl, rfl⟩
          go_wp2_with fail
          go_ret
          exact ⟨rfl, hb1⟩
end Go.Proofs.Ytohjnhekkifhbab
