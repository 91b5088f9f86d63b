/- awake of layer 3. -/
import Derived.Test.YtaojcbdljgcfgaaCL
import Derived.Test.YtaojcbdljgcfgaaCRk
import Derived.Test.YtaojcbdljgcfgaaCWr
namespace Go.Proofs.Ytaojcbdljgcfgaa
open Go.RowKit

def awF : F := .cons 0 258 ⟨#[]⟩ .nil (.cons 1 0 ⟨#[97]⟩ .nil .nil)
def awS : ByteArray := ⟨#[108, 2, 110, 2, 1, 2, 115, 1, 97]⟩
theorem awNum : numL 258 = [1, 2] := by
  rw [numL_pos (by omega), numL_pos (by omega), show 258 / 256 / 256 = 0 by decide, numL_zero]; rfl
theorem awBytes : nodeL 2 0 ⟨#[]⟩ awF.len awF.bytes = [108, 2, 110, 2, 1, 2, 115, 1, 97] := by
  have e : (258 : Int).toNat = 258 := rfl
  have s1 : szL 1 = [1] := szL_lt (by omega)
  have s2 : szL 2 = [2] := szL_lt (by omega)
  have e2 : (⟨#[97]⟩ : ByteArray).size = 1 := rfl
  simp [nodeL, awF, F.bytes, F.len, e, awNum, e2, s1, s2]
theorem awRight : Nd.right ⟨2, 0, ⟨#[]⟩, awF⟩ 20 = true := by rfl
theorem awOk : Nd.ok ⟨2, 0, ⟨#[]⟩, awF⟩ := by
  refine ⟨⟨by decide, by decide⟩, by decide, by decide, ⟨by decide, by decide⟩, by decide, by decide, trivial, ⟨by decide, by decide⟩, by decide, by decide, trivial, trivial⟩
theorem awRead : readO awS.data.toList = some ⟨2, 0, ⟨#[]⟩, awF⟩ := by
  have h := parse_app 20 2 0 ⟨#[]⟩ awF [] awRight awOk
  rw [awBytes] at h
  have e : awS.data.toList = [108, 2, 110, 2, 1, 2, 115, 1, 97] ++ [] := rfl
  rw [readO, e, h]
theorem awNone : readO [110, 1, 0] = none := rfl

set_option maxRecDepth 30000 in
set_option maxHeartbeats 1000000 in
theorem awake_prog (w : World) : Calls Try.prog 9 #[] w fun e w' => e = .returned (.bool true) ∧ Below w.heap.size w w' := by
  go_enter Try.func9, Try.ntmps9
  go_wp2_with fail
  refine (n_prog 258 w).mono ?_
  rintro e w1 ⟨rfl, hb1⟩
  unfold nodeV
  go_wp2_with fail
  refine (s_prog _ w1).mono ?_
  rintro e w2 ⟨rfl, hb2⟩
  unfold nodeV
  go_wp2_with fail
  have hb02 := hb1.trans (hb2.mono hb1.size)
  have hl : KidsAt (w2.alloc (.cells #[.int .i64 0, .int .u64 258, .string ⟨#[]⟩, .slice none 0 0, .int .i64 1, .int .u64 0, .string ⟨#[97]⟩, .slice none 0 0] 27)) (fun b => b < w2.heap.size + 1) awF (.slice (some ⟨w2.heap.size, 0, none⟩) 2 2) := by
    refine .inr ⟨w2.heap.size, 0, 2, rfl, by omega, ⟨_, _, heap_alloc_new w2 _⟩, ?_⟩
    refine lies_cons.2 ⟨⟨_, ?_, ?_, ?_, ?_, KidsAt.nil _ _⟩, lies_cons.2 ⟨⟨_, ?_, ?_, ?_, ?_, KidsAt.nil _ _⟩, trivial⟩⟩ <;> simp [World.cell?_alloc_new]
  have hcall := Lib.hid (l_prog awF _ _ _ (by decide) (by unfold Lim; decide) awOk.2.2.2 hl (fun b h => by simpa using h))
  clear hl
  refine hcall.out.mono ?_
  rintro e w3 ⟨a, cap, rfl, hb3, hk3⟩
  have hb03 := hb02.trans (((Below.refl w.heap.size w2).alloc (by have := hb02.size; omega) _).trans (hb3.mono (by have := hb02.size; simp; omega)))
  have hwr := Lib.hid (write_prog 2 0 ⟨#[]⟩ awF (.slice a awF.len cap) w3 awOk (hk3.mono (fun _ h => h.2) (fun _ _ => rfl)) (by rw [awBytes]; unfold Fits; decide) true awS awRight (by rw [awBytes]; rfl))
  unfold nodeV at hwr
  have HB03 := Lib.hid hb03
  clear hcall hb1 hb2 hb02 hb3 hk3 hb03
  go_wp2_with fail
  refine hwr.out.mono ?_
  rintro e w4 ⟨rfl, hb4⟩
  have HB04 := Lib.hid (HB03.out.trans (hb4.mono HB03.out.size))
  clear hwr hb4 HB03
  have hrd := Lib.hid (read_prog awS w4 (by decide))
  go_wp2_with fail
  refine hrd.out.mono ?_
  rintro e w5 ⟨x, ka, kn, kc, b, rfl, hb5, h1, h2, hk5⟩
  cases b with
  | false => have := (h2 rfl).1; rw [awRead] at this; cases this
  | true =>
    have hx := h1 rfl
    rw [awRead] at hx
    obtain rfl := Option.some.inj hx
    obtain ⟨g, o, cap2, hkv, hg, hl⟩ := hk5.lies (by decide)
    injection hkv with e1 e2 e3
    subst e1 e2 e3
    obtain ⟨⟨kv0, l0, l1, l2, l3, _⟩, _⟩ := lies_cons.1 hl
    have HB05 := Lib.hid (HB04.out.trans (hb5.mono HB04.out.size))
    have hrd2 := Lib.hid (read_prog ⟨#[110, 1, 0]⟩ (w5.alloc (.cells #[.int .i64 2, .int .u64 0, .string ⟨#[]⟩, .slice (some ⟨g, o, none⟩) awF.len kc] 27)) (by decide))
    unfold nodeV
    have hs5 := hg.2
    clear h1 h2 hk5 hx hb5 HB04 hl hrd hg l0 l2 l3
    go_wp2_with fail
    refine hrd2.out.mono ?_
    rintro e w6 ⟨y, ya, yn, yc, b, rfl, hb6, y1, y2, hk6⟩
    cases b with
    | true => have := y1 rfl; rw [awNone] at this; cases this
    | false =>
      obtain ⟨_, rfl⟩ := y2 rfl
      obtain ⟨c0, c1, c2, c3, _, _, _, _⟩ := block4 (block_kept (heap_alloc_new w5 _) (by simp) hb6)
      have l1' : w6.cell? ⟨g, o + 1, none⟩ = some (.int .u64 258) := by rw [hb6.cell (p := ⟨g, o + 1, none⟩) (by simp; omega)]; exact cell_alloc l1
      have HB06 := Lib.hid ((HB05.out.alloc HB05.out.size (.cells #[.int .i64 2, .int .u64 0, .string ⟨#[]⟩, .slice (some ⟨g, o, none⟩) awF.len kc] 27)).trans (hb6.mono (by have := HB05.out.size; simp; omega)))
      have hs6 : w5.heap.size < w6.heap.size := by have := hb6.size; simp at this; omega
      unfold nodeV
      clear y1 y2 hk6 hb6 hrd2 HB05
      have hs6g : g < w6.heap.size := by omega
      have hA : awS.toList = [108, 2, 110, 2, 1, 2, 115, 1, 97] := by rw [ByteArray.toList_eq]; rfl
      have hF : (awF.len : Int) = 2 := rfl
      go_wp2
      go_ret
      exact ⟨rfl, HB06.out.alloc HB06.out.size _⟩
end Go.Proofs.Ytaojcbdljgcfgaa
