/- The known block, and the calls as the laws make them. -/
import Derived.Test.YtohjnhekkifhbabAesI
import Derived.Test.YtohjnhekkifhbabAesLit
namespace Go.Proofs.Ytohjnhekkifhbab
open Go.RowKit

theorem belowNext {w0 w w' : World} (h : Below w0.heap.size w0 w) (k : Below w.heap.size w w') : Below w0.heap.size w0 w' := h.trans (k.mono h.size)

/-- A block under a key. -/
def encT (k b : ByteArray) : ByteArray := txt (enc (KWf k.data.toList) (blk b))
def strT (k n s : ByteArray) : ByteArray := outS (KWf k.data.toList) (blk n) s
theorem encT_size (k b : ByteArray) : (encT k b).size = 16 := txt_size _
theorem strT_size (k n s : ByteArray) : (strT k n s).size = s.size := outS_size _ _ _

theorem blockAt (k b T : ByteArray) (w : World) (hk : k.size = 16) (hb : b.size = 16) (hT : encT k b = T) :
    Calls Try.prog 13 #[.string k, .string b] w fun e w' => e = .returned (.tuple #[.string T, .int .i64 0]) ∧ Below w.heap.size w w' := by subst hT; exact block_prog k b w hk hb
theorem streamAt (k n s T : ByteArray) (w : World) (hk : k.size = 16) (hn : n.size = 16) (hs : s.size ≤ 1000000) (hT : strT k n s = T) :
    Calls Try.prog 16 #[.string k, .string n, .string s] w fun e w' => e = .returned (.tuple #[.string T, .int .i64 0]) ∧ Below w.heap.size w w' := by subst hT; exact stream_prog k n s w hk hn hs
theorem boxAt (b : UInt8) (bi z : Int) (w : World) (hb : bi = (b.toNat : Int)) (hz : ((sb b).toNat : Int) = z) :
    Calls Try.prog 11 #[.int .u8 bi] w fun e w' => e = .returned (.int .u8 z) ∧ Below w.heap.size w w' := by subst hb hz; exact box_prog b w

theorem enc_known : (encT kb pb).extract 0 4 = ⟨#[105, 196, 224, 216]⟩ := by
  have h := enc_lit (KWf kb.data.toList) (blk pb) kw_lit (fun i hi => by
    have : ∀ i, i < 16 → blk pb i = nthL [0, 17, 34, 51, 68, 85, 102, 119, 136, 153, 170, 187, 204, 221, 238, 255] i := by decide +kernel
    exact this i hi)
  apply ByteArray.ext; apply Array.toList_inj.1
  have e : ((encT kb pb).extract 0 4).data.toList = (List.range 4).map (enc (KWf kb.data.toList) (blk pb)) := by
    simp [encT, txt, ← List.map_take, List.take_range]
  rw [e]
  show [_, _, _, _] = [(105 : UInt8), 196, 224, 216]
  rw [h 0 (by omega), h 1 (by omega), h 2 (by omega), h 3 (by omega)]
  rfl

set_option maxRecDepth 100000 in
set_option maxHeartbeats 2000000 in
theorem awake_prog (w : World) :
    Calls Try.prog 10 #[] w fun e w' => e = .returned (.bool true) ∧ Below w.heap.size w w' := by
  obtain ⟨T, hT⟩ : ∃ T, encT kb pb = T := ⟨_, rfl⟩
  obtain ⟨U, hU⟩ : ∃ U, strT kb kb ⟨#[104, 101, 108, 108, 111]⟩ = U := ⟨_, rfl⟩
  have t1 : ((T.size : Int) == 16) = true := by rw [← hT, encT_size]; rfl
  have t2 : (4 : Int) ≤ (T.size : Int) := by rw [← hT, encT_size]; decide
  have t3 : T.extract 0 4 = ⟨#[105, 196, 224, 216]⟩ := by rw [← hT]; exact enc_known
  have t4 : ((U.size : Int) == 5) = true := by rw [← hU, strT_size]; rfl
  have HT := Lib.hid hT
  have HU := Lib.hid hU
  clear hT hU
  go_enter Try.func10, Try.ntmps10
  go_wp2_with fail
  refine (blockAt kb pb T w rfl rfl HT.out).mono ?_
  rintro e w1 ⟨rfl, hb1⟩
  go_wp2_with fail
  refine (streamAt kb kb ⟨#[104, 101, 108, 108, 111]⟩ U w1 rfl rfl (by decide) HU.out).mono ?_
  rintro e w2 ⟨rfl, hb2⟩
  go_wp2_with fail
  refine (boxAt 0 0 99 w2 rfl (by decide +kernel)).mono ?_
  rintro e w3 ⟨rfl, hb3⟩
  go_wp2
  go_ret
  exact ⟨rfl, belowNext (belowNext hb1 hb2) hb3⟩
end Go.Proofs.Ytohjnhekkifhbab
