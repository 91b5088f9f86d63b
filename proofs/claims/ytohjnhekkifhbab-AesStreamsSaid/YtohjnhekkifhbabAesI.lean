/- The program's call of aes on a text under a key and a number. -/
import Derived.Test.YtohjnhekkifhbabAesH
import Derived.Laws.IdiomStrings
namespace Go.Proofs.Ytohjnhekkifhbab
open Go.RowKit

/-- The first n cells of block g are the bytes f, and may be written. -/
structure Part (w : World) (g n : Nat) (f : Nat → UInt8) : Prop where
  cell : ∀ j, j < n → w.cell? ⟨g, j, none⟩ = some (.int .u8 ((f j).toNat : Int))
  frozen : ∀ j, j < n → w.frozen? ⟨g, j, none⟩ = false
  lt : g < w.heap.size
theorem Part.of_block {w w' : World} {g n : Nat} {f : Nat → UInt8} (h : Part w g n f) (e : w'.heap[g]? = w.heap[g]?) (hs : w.heap.size ≤ w'.heap.size) : Part w' g n f :=
  ⟨fun j hj => by rw [← h.cell j hj]; exact World.cell?_of_block (w := w) e, fun j hj => by rw [← h.frozen j hj]; exact World.frozen?_of_block (w := w) e, Nat.lt_of_lt_of_le h.lt hs⟩
theorem Part.later {w w' : World} {g n : Nat} {f : Nat → UInt8} (h : Part w g n f) (hb : Below w.heap.size w w') : Part w' g n f := h.of_block (hb.block g h.lt) hb.size
theorem Part.only {w w' : World} {g b n : Nat} {f : Nat → UInt8} (h : Part w g n f) (ho : Only b w w') (hne : g ≠ b) : Part w' g n f := h.of_block (ho.block g h.lt hne) ho.size
theorem Part.drew {w : World} {g n : Nat} {f : Nat → UInt8} (h : Part w g n f) : Part w.drew g n f := ⟨h.cell, h.frozen, h.lt⟩
theorem Part.alloc {w : World} {g n : Nat} {f : Nat → UInt8} (h : Part w g n f) (o : Obj) : Part (w.alloc o) g n f := h.later ((Below.refl _ _).alloc (Nat.le_refl _) o)
theorem Part.congr {w : World} {g n : Nat} {f f' : Nat → UInt8} (h : Part w g n f) (e : ∀ j, j < n → f j = f' j) : Part w g n f' := ⟨fun j hj => by rw [← e j hj]; exact h.cell j hj, h.frozen, h.lt⟩
theorem Part.setOther {w : World} {g n : Nat} {f : Nat → UInt8} (h : Part w g n f) {a : Addr} (hne : g ≠ a.block) (v : Value) : Part (w.setCell a v) g n f := h.of_block (Below.heap_setCell _ _ _ _ hne) (by simp [World.setCell])
theorem Part.set {w : World} {g n : Nat} {f : Nat → UInt8} (h : Part w g n f) (i : Nat) (x : UInt8) (f' : Nat → UInt8) (hf : ∀ j, j < n → f' j = if j = i then x else f j) : Part (w.setCell ⟨g, i, none⟩ (.int .u8 (x.toNat : Int))) g n f' := by
  refine ⟨fun j hj => ?_, fun j hj => ?_, by simpa [World.setCell] using h.lt⟩
  · rw [hf j hj]
    by_cases hji : j = i
    · subst hji
      rw [if_pos rfl, World.cell?_setCell_same' _ _ _ (by rw [h.cell j hj]; rfl)]
    · rw [if_neg hji]
      exact cell_set_ne _ _ _ _ _ _ (h.cell j hj) hji
  · have hfr := h.frozen j hj
    simp only [World.frozen?, World.setCell, Array.getElem?_modify] at hfr ⊢
    cases hb : w.heap[g]? with
    | none => simp [hb] at hfr ⊢
    | some o => cases o <;> simp_all

/-- []byte(s): a new block, its first cells the bytes. -/
theorem list_bytes {P : Program} {w : World} {ops : Array Oper} {rest : List Oper} {o : Oper} {a : Act} {Q : Exit → Act → World → Prop} {src dst e : TypeId} (hs : P.underlying src = some .string) (hd : P.underlying dst = some (.slice e)) (he : P.underlying e = some (.int .u8))
    (hgd : o.guard = none) (x : Operand) (ho : o.op = .convert src dst x) (s : ByteArray) (hx : a.eval x = .string s)
    (h : ∀ cap w', Part w' w.heap.size s.size (blk s) → Below w.heap.size w w' →
      wpList P ops Q rest (a.put o.dst (.slice (some ⟨w.heap.size, 0, none⟩) s.size cap)) w') : wpList P ops Q (o :: rest) a w := by
  have hrun := run_bytes_of_string (P := P) w src dst e s hs hd he
  obtain ⟨C, hC⟩ : ∃ C, C = bytesRow s (grownCap w s.size 0 e) := ⟨_, rfl⟩
  have hsz : s.size ≤ C.size := by rw [hC]; unfold bytesRow; simp
  have hcell : ∀ j, j < s.size → C[j]? = some (byteV (blk s j)) := fun j hj => by
    have hj2 : j < s.data.size := hj
    rw [hC, bytesRow_at s _ j hj2]
    simp [byteV, blk, Array.getElem?_eq_getElem hj2]
  rw [← hC] at hrun
  refine wpList_plain hgd fun K hK => ?_
  unfold Oper.wp
  simp only [execOp, ho, hx, Sem.run_bind, hrun, Result.andThen_ok, Sem.run_pure]
  refine hK _ _ (h _ _ ⟨fun j hj => ?_, fun j hj => ?_, ?_⟩ ?_)
  · have hb := heap_at_alloc w.drew (.cells C e (C.size, C.size + 1))
    refine Eq.trans ?_ (hcell j hj)
    show (match (w.drew.alloc (.cells C e (C.size, C.size + 1))).heap[w.drew.heap.size]? with | some (.cells cs _ _) => cs[j]? | _ => none) = _
    rw [hb]
  · have := World.frozen?_alloc_mark w.drew C e C.size (C.size + 1) j
    refine Eq.trans this ?_
    simp; omega
  · simp
  · exact ((Below.refl _ _).drew).alloc (Nat.le_refl _) _

def nxtN (B : Nat → UInt8) : Nat → Nat → UInt8
  | 0 => B
  | q + 1 => nxt (nxtN B q)
/-- The stream's byte i. -/
def strB (KW N : Nat → UInt8) (i : Nat) : UInt8 := enc KW (nxtN N (i / 16)) (i % 16)
/-- A text's byte i under a key and a number. -/
def outB (KW N : Nat → UInt8) (s : ByteArray) (i : Nat) : UInt8 := blk s i ^^^ strB KW N i
def outS (KW N : Nat → UInt8) (s : ByteArray) : ByteArray := ⟨((List.range s.size).map (outB KW N s)).toArray⟩
theorem outS_size (KW N : Nat → UInt8) (s : ByteArray) : (outS KW N s).size = s.size := by
  show ((List.range s.size).map (outB KW N s)).toArray.size = s.size
  simp
theorem blk_outS (KW N : Nat → UInt8) (s : ByteArray) (j : Nat) (h : j < s.size) : blk (outS KW N s) j = outB KW N s j := by simp [blk, outS, h]

theorem stream_bad (k n s : ByteArray) (w : World) (h : ¬ (k.size = 16 ∧ n.size = 16)) :
    Calls Try.prog 16 #[.string k, .string n, .string s] w fun e w' => e = .returned (.tuple #[.string ⟨#[]⟩, .int .i64 1]) ∧ w = w' := by
  by_cases h1 : k.size = 16
  · have h2 : ((n.size : Int) != 16) = true := by
      have : (n.size : Int) ≠ 16 := by omega
      simpa using this
    have h3 : ((k.size : Int) != 16) = false := by
      have : (k.size : Int) = 16 := by omega
      simpa using this
    clear h h1
    go_enter Try.func16, Try.ntmps16
    go_wp2
    go_ret2
    exact ⟨rfl, rfl⟩
  · have h3 : ((k.size : Int) != 16) = true := by
      have : (k.size : Int) ≠ 16 := by omega
      simpa using this
    clear h h1
    go_enter Try.func16, Try.ntmps16
    go_wp2
    go_ret2
    exact ⟨rfl, rfl⟩

set_option maxRecDepth 100000 in
set_option maxHeartbeats 4000000 in
theorem stream_prog (k n s : ByteArray) (w : World) (hk : k.size = 16) (hn : n.size = 16) (hs : s.size ≤ 1000000) :
    Calls Try.prog 16 #[.string k, .string n, .string s] w fun e w' => e = .returned (.tuple #[.string (outS (KWf k.data.toList) (blk n) s), .int .i64 0]) ∧ Below w.heap.size w w' := by
  have h2 : ((n.size : Int) != 16) = false := by
    have : (n.size : Int) = 16 := by omega
    simpa using this
  have h3 : ((k.size : Int) != 16) = false := by
    have : (k.size : Int) = 16 := by omega
    simpa using this
  have hz := zero_sched
  have hz2 := zero_blk
  have HK := Lib.hid hk
  have HB := Lib.hid hn
  clear hk hn
  obtain ⟨KW, hKW⟩ : ∃ KW, KWf k.data.toList = KW := ⟨_, rfl⟩
  obtain ⟨N, hN⟩ : ∃ N, blk n = N := ⟨_, rfl⟩
  have hsch : ∀ W, Calls Try.prog 20 #[.string k] W fun e w' => e = .returned (.agg (arrL 432 (schV KW 176)).toArray) ∧ Below W.heap.size W w' := fun W => by rw [← hKW]; exact scheduled_prog k W HK.out
  have hbo : ∀ W, Calls Try.prog 22 #[.string n] W fun e w' => e = .returned (.agg (arrL 16 (fun j => byteV (N j))).toArray) ∧ Below W.heap.size W w' := fun W => by rw [← hN]; exact blockOf_prog n W HB.out
  have HS := Lib.hid hsch
  have HO := Lib.hid hbo
  rw [hKW, hN]
  clear hKW hN hsch hbo
  go_enter Try.func16, Try.ntmps16
  go_wp2_with fail
  refine (HS.out _).mono ?_
  rintro e w1 ⟨rfl, hb1⟩
  go_wp2_with fail
  refine (HO.out _).mono ?_
  rintro e w2 ⟨rfl, hb2⟩
  have hq2 := hb1.trans (hb2.mono hb1.size)
  clear hb1 hb2
  have hs2 := hq2.size
  go_wp2_with (first
    | (refine list_store_arr (ty := 47) (n := 432) (by kernel_rfl) rfl _ _ rfl w2.heap.size 47 (fun _ => byteV 0) (schV KW 176) rfl rfl (World.rowIs.alloc (rowIs_of_block (heap_at_alloc w2 _)) _) (sch_one KW 176) ?_))
  intro w3 hr3 ho3
  have hc3 : w3.rowIs (w2.heap.size + 1) 35 16 (fun _ => byteV 0) := ho3.row (rowIs_of_block (by rw [heap_alloc2_new])) (by omega)
  have hq3 := ((hq2.alloc hs2 (.cells (arrL 432 (fun _ => byteV 0)).toArray 47)).alloc (by simp; omega) (.cells (arrL 16 (fun _ => byteV 0)).toArray 35)).trans (ho3.below hs2 (by simp; omega))
  obtain ⟨g, hg⟩ : ∃ g, w2.heap.size = g := ⟨_, rfl⟩
  rw [hg] at hr3 hc3 hs2 ⊢
  clear ho3 hq2 hg
  go_wp2_with (first
    | (refine list_store_arr (ty := 35) (n := 16) (by kernel_rfl) rfl _ _ rfl (g + 1) 35 (fun _ => byteV 0) (fun j => byteV (N j)) rfl rfl hc3 (fun _ => rfl) ?_))
  intro w4 hc4 ho4
  have hr4 := ho4.row hr3 (by omega)
  have hq4 := hq3.trans (ho4.below (by omega) hq3.size)
  clear hr3 hc3 hq3 ho4 hz
  have hs4 := hq4.size
  go_wp2_with (first
    | (refine list_bytes (e := 5) Try.underlying9 Try.underlying29 Try.underlying5 rfl _ rfl s rfl ?_))
  intro cap w5 hp5 hb5
  have hr5 := rowIs_later hr4 hb5
  have hc5 := rowIs_later hc4 hb5
  have hq5 := hq4.trans (hb5.mono hs4)
  have hg1 := hc4.lt
  obtain ⟨o, ho⟩ : ∃ o, w4.heap.size = o := ⟨_, rfl⟩
  rw [ho] at hp5 hg1 hs4 ⊢
  clear hr4 hc4 hq4 hb5 ho
  go_wp2_with fail
  go_loopw [11] (fun iv wr => ∃ v : Nat, v % 16 = 0 ∧ v ≤ s.size + 15 ∧ iv = .int .i64 v ∧ Part wr o s.size (fun m => if m < v then outB KW N s m else blk s m) ∧ wr.rowIs g 47 432 (schV KW 176) ∧ wr.rowIs (g + 1) 35 16 (fun j => byteV (nxtN N (v / 16) j)) ∧ Below w.heap.size w wr) (fun iv _ => s.size + 16 - (intOf iv).toNat)
  case atStart => exact ⟨0, rfl, by omega, rfl, hp5.congr (fun j _ => by simp), hr5, hc5, hq5⟩
  case round =>
    clear hp5 hr5 hc5 hq5
    obtain ⟨v, hv16, hvs, rfl, hp, hr, hc, hb⟩ := hrel
    by_cases hlt : v < s.size
    · obtain ⟨E, hE⟩ : ∃ E, enc KW (nxtN N (v / 16)) = E := ⟨_, rfl⟩
      go_wp2_with (first
        | (refine list_load_arr Try.underlying35 (by kernel_rfl) rfl _ rfl (g + 1) 35 _ rfl hc ?_))
      refine (under_prog g _ KW (nxtN N (v / 16)) wr hr).mono ?_
      rw [hE]
      have HE := Lib.hid hE
      clear hE
      rintro e w6 ⟨rfl, hb6⟩
      have hp6 := hp.later hb6
      have hr6 := rowIs_later hr hb6
      have hc6 := rowIs_later hc hb6
      have hq6 := hb.trans (hb6.mono hb.size)
      clear hp hr hc hb hb6
      go_wp2_with (first
        | (refine list_store_arr (ty := 35) (n := 16) (by kernel_rfl) rfl _ _ rfl w6.heap.size 35 (fun _ => byteV 0) (fun j => byteV (E j)) rfl rfl (rowIs_of_block (heap_at_alloc w6 _)) (fun _ => rfl) ?_))
      intro w7 ht7 ho7
      have lo := hp6.lt
      have lg := hr6.lt
      have lc := hc6.lt
      have hp7 := (hp6.alloc (.cells (arrL 16 (fun _ => byteV 0)).toArray 35)).only ho7 (by omega)
      have hr7 := ho7.row (hr6.alloc (.cells (arrL 16 (fun _ => byteV 0)).toArray 35)) (by omega)
      have hc7 := ho7.row (hc6.alloc (.cells (arrL 16 (fun _ => byteV 0)).toArray 35)) (by omega)
      have hq7 := (hq6.alloc hq6.size (.cells (arrL 16 (fun _ => byteV 0)).toArray 35)).trans (ho7.below hq6.size (by have := hq6.size; simp; omega))
      obtain ⟨t, ht⟩ : ∃ t, w6.heap.size = t := ⟨_, rfl⟩
      have hwt : w.heap.size ≤ t := by rw [← ht]; exact hq6.size
      rw [ht] at ht7 lo lg lc ⊢
      clear hp6 hr6 hc6 hq6 ho7 ht
      by_cases h16 : v + 16 ≤ s.size
      · obtain ⟨m, hm⟩ : ∃ m : Nat, m = 16 := ⟨_, rfl⟩
        have m1 : m ≤ 16 := by omega
        have m2 : v + m ≤ s.size := by omega
        have m4 : 16 ≤ m := by omega
        have m5 : (16 : Int) ≤ (s.size : Int) - (v : Int) := by omega
        have HM3 : Hid (m = 16 ∨ v + m = s.size) := Lib.hid (.inl hm)
        clear hm
        go_wp2_with fail
        go_loopw [41] (fun jv wr => ∃ j : Nat, j ≤ m ∧ jv = .int .i64 j ∧ Part wr o s.size (fun a => if a < v + j then outB KW N s a else blk s a) ∧ wr.rowIs g 47 432 (schV KW 176) ∧ wr.rowIs (g + 1) 35 16 (fun j => byteV (nxtN N (v / 16) j)) ∧ wr.rowIs t 35 16 (fun j => byteV (E j)) ∧ Below w.heap.size w wr) (fun jv _ => 16 - (intOf jv).toNat)
        case atStart => exact ⟨0, by omega, rfl, hp7, hr7, hc7, ht7, hq7⟩
        case round =>
          clear hp7 hr7 hc7 ht7 hq7
          obtain ⟨j, hj, rfl, hp, hr, hc, htt, hb⟩ := hrel
          by_cases hlj : j < m
          · have c1 := hp.cell (v + j) (by omega)
            have f1 := hp.frozen (v + j) (by omega)
            rw [if_neg (by omega)] at c1
            have c2 := htt.cell (i := j) (by omega)
            simp only [byteV] at c2
            obtain ⟨x, hx, ex⟩ := xname (blk s (v + j)) (E j)
            have HX : Hid (outB KW N s (v + j) = x) := Lib.hid (by unfold outB strB; rw [show (v + j) / 16 = v / 16 by omega, show (v + j) % 16 = j by omega, HE.out, hx])
            clear hx
            have j0 : (0 : Int) ≤ (j : Int) := by omega
            have j1 : (j : Int) < 16 := by omega
            have jm : (j : Int) < (m : Int) := by omega
            have q0 : IntKind.i64.wrap ((v : Int) + (j : Int)) = (v : Int) + (j : Int) := IntWalk.i64_in _ (by omega)
            have a0 : (0 : Int) ≤ (v : Int) + (j : Int) := by omega
            have a1 : (v : Int) + (j : Int) < (s.size : Int) := by omega
            have n1 : ((v : Int) + (j : Int)).toNat = v + j := by omega
            go_wp2_with fail
            go_still_tail 11, (by kernel_rfl)
            go_wp2
            go_roundw
            case rel =>
              refine ⟨j + 1, by omega, by go_num, Part.drew (hp.set (v + j) x _ (fun a _ => ?_)), World.rowIs.drew (hr.setOther (by simp; omega) _), World.rowIs.drew (hc.setOther (by simp; omega) _), World.rowIs.drew (htt.setOther (by simp; omega) _), (hb.setCell (by simp; omega) _).drew⟩
              by_cases hav : a = v + j
              · subst hav; rw [if_pos (by omega), if_pos rfl, HX.out]
              · rw [if_neg hav]
                by_cases hl : a < v + j
                · rw [if_pos hl, if_pos (by omega)]
                · rw [if_neg hl, if_neg (by omega)]
            case measure => simp [intOf]; omega
          · have hjm : (m : Int) ≤ (j : Int) := by omega
            have hp2 : Part wr o s.size (fun a => if a < v + 16 then outB KW N s a else blk s a) := hp.congr (fun a ha => by
              by_cases h1 : a < v + j
              · rw [if_pos h1, if_pos (by omega)]
              · rw [if_neg h1, if_neg (by have := HM3.out; omega)])
            clear hp
            go_wp2_with fail
            refine (raise_prog (g + 1) _ (nxtN N (v / 16)) wr hc).mono ?_
            rintro e w8 ⟨rfl, hc8, ho8⟩
            have hp8 := hp2.only ho8 (by omega)
            have hr8 := ho8.row hr (by omega)
            have hb8 := hb.trans (ho8.below (by omega) hb.size)
            have hc9 : w8.rowIs (g + 1) 35 16 (fun j => byteV (nxtN N ((v + 16) / 16) j)) := by rw [show (v + 16) / 16 = v / 16 + 1 by omega]; exact hc8
            clear hp2 hr hc htt hb ho8 hc8
            go_wp2_with fail
            go_roundw
            case rel => exact ⟨v + 16, by omega, by omega, by go_num, hp8, hr8, hc9, hb8⟩
            case measure => simp [intOf]; omega
      · obtain ⟨m, hm⟩ : ∃ m : Nat, m = s.size - v := ⟨_, rfl⟩
        have m1 : m ≤ 16 := by omega
        have m2 : v + m ≤ s.size := by omega
        have m4 : s.size ≤ v + m := by omega
        have m5 : (s.size : Int) - (v : Int) < 16 := by omega
        have HM3 : Hid (m = 16 ∨ v + m = s.size) := Lib.hid (.inr (by omega))
        clear hm
        go_wp2_with fail
        go_loopw [41] (fun jv wr => ∃ j : Nat, j ≤ m ∧ jv = .int .i64 j ∧ Part wr o s.size (fun a => if a < v + j then outB KW N s a else blk s a) ∧ wr.rowIs g 47 432 (schV KW 176) ∧ wr.rowIs (g + 1) 35 16 (fun j => byteV (nxtN N (v / 16) j)) ∧ wr.rowIs t 35 16 (fun j => byteV (E j)) ∧ Below w.heap.size w wr) (fun jv _ => 16 - (intOf jv).toNat)
        case atStart => exact ⟨0, by omega, rfl, hp7, hr7, hc7, ht7, hq7⟩
        case round =>
          clear hp7 hr7 hc7 ht7 hq7
          obtain ⟨j, hj, rfl, hp, hr, hc, htt, hb⟩ := hrel
          by_cases hlj : j < m
          · have c1 := hp.cell (v + j) (by omega)
            have f1 := hp.frozen (v + j) (by omega)
            rw [if_neg (by omega)] at c1
            have c2 := htt.cell (i := j) (by omega)
            simp only [byteV] at c2
            obtain ⟨x, hx, ex⟩ := xname (blk s (v + j)) (E j)
            have HX : Hid (outB KW N s (v + j) = x) := Lib.hid (by unfold outB strB; rw [show (v + j) / 16 = v / 16 by omega, show (v + j) % 16 = j by omega, HE.out, hx])
            clear hx
            have j0 : (0 : Int) ≤ (j : Int) := by omega
            have j1 : (j : Int) < 16 := by omega
            have jm : (j : Int) < (m : Int) := by omega
            have q0 : IntKind.i64.wrap ((v : Int) + (j : Int)) = (v : Int) + (j : Int) := IntWalk.i64_in _ (by omega)
            have a0 : (0 : Int) ≤ (v : Int) + (j : Int) := by omega
            have a1 : (v : Int) + (j : Int) < (s.size : Int) := by omega
            have n1 : ((v : Int) + (j : Int)).toNat = v + j := by omega
            go_wp2_with fail
            go_still_tail 11, (by kernel_rfl)
            go_wp2
            go_roundw
            case rel =>
              refine ⟨j + 1, by omega, by go_num, Part.drew (hp.set (v + j) x _ (fun a _ => ?_)), World.rowIs.drew (hr.setOther (by simp; omega) _), World.rowIs.drew (hc.setOther (by simp; omega) _), World.rowIs.drew (htt.setOther (by simp; omega) _), (hb.setCell (by simp; omega) _).drew⟩
              by_cases hav : a = v + j
              · subst hav; rw [if_pos (by omega), if_pos rfl, HX.out]
              · rw [if_neg hav]
                by_cases hl : a < v + j
                · rw [if_pos hl, if_pos (by omega)]
                · rw [if_neg hl, if_neg (by omega)]
            case measure => simp [intOf]; omega
          · have hjm : (m : Int) ≤ (j : Int) := by omega
            have hp2 : Part wr o s.size (fun a => if a < v + 16 then outB KW N s a else blk s a) := hp.congr (fun a ha => by
              by_cases h1 : a < v + j
              · rw [if_pos h1, if_pos (by omega)]
              · rw [if_neg h1, if_neg (by have := HM3.out; omega)])
            clear hp
            go_wp2_with fail
            refine (raise_prog (g + 1) _ (nxtN N (v / 16)) wr hc).mono ?_
            rintro e w8 ⟨rfl, hc8, ho8⟩
            have hp8 := hp2.only ho8 (by omega)
            have hr8 := ho8.row hr (by omega)
            have hb8 := hb.trans (ho8.below (by omega) hb.size)
            have hc9 : w8.rowIs (g + 1) 35 16 (fun j => byteV (nxtN N ((v + 16) / 16) j)) := by rw [show (v + 16) / 16 = v / 16 + 1 by omega]; exact hc8
            clear hp2 hr hc htt hb ho8 hc8
            go_wp2_with fail
            go_roundw
            case rel => exact ⟨v + 16, by omega, by omega, by go_num, hp8, hr8, hc9, hb8⟩
            case measure => simp [intOf]; omega
    · have hge : (s.size : Int) ≤ (v : Int) := by omega
      have hcv := run_convert_bytes_back (P := Try.prog) wr 29 9 5 ⟨o, 0, none⟩ cap ((List.range s.size).map (outB KW N s)) Try.underlying29 Try.underlying5 Try.underlying9 (fun j hj => by
        have hj2 : j < s.size := by simpa using hj
        rw [Addr.add_mid, Nat.zero_add, hp.cell j hj2, if_pos (by omega)]
        simp)
      rw [List.length_map, List.length_range] at hcv
      replace hcv : (convert 29 9 (.slice (some ⟨o, 0, none⟩) s.size cap)).run Try.prog wr = .ok (.string (outS KW N s)) wr := hcv
      clear hp hr hc hlt hz2
      go_wp2
      go_ret2
      exact ⟨rfl, hb⟩
end Go.Proofs.Ytohjnhekkifhbab
