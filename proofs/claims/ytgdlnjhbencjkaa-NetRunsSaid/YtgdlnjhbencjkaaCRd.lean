/- codec.first, firstKids, Read. -/
import Derived.Test.YtgdlnjhbencjkaaCOwn
import Derived.Test.YtgdlnjhbencjkaaCFn
namespace Go.Proofs.Ytgdlnjhbencjkaa
open Go.RowKit

def FirstOk (d : Nat) : Prop := ∀ (s : ByteArray) (lv : Int) (w : World), s.size ≤ 100000000 → lv = 21 - (d : Int) → d ≤ 20 →
  Calls Try.prog 47 #[.string s, .int .i64 lv] w (RdRes (parse d s.data.toList) w.heap.size w)
def kidsO (o : Option (F × List UInt8)) : Option (Nd × List UInt8) := match o with | none => none | some (f, t) => some (⟨2, 0, ⟨#[]⟩, f⟩, t)
def sizeO (p : List UInt8 → Option (Nd × List UInt8)) (c : UInt8) (o : Option (Nat × List UInt8)) : Option (Nd × List UInt8) := match o with | none => none | some (m, q) => bodyP p c m q
def KidsOk (d : Nat) : Prop := ∀ (s : ByteArray) (m : Nat) (lv : Int) (w : World), s.size ≤ 100000000 → Lim m → lv = 20 - (d : Int) → d ≤ 20 →
  Calls Try.prog 59 #[.string s, .int .i64 m, .int .i64 lv] w (RdRes (kidsO (kidsP (parse d) m s.data.toList)) w.heap.size w)

theorem rd_keep {X : World} {P : Program} {f : FuncId} {args : Array Value} {o : Option (Nd × List UInt8)} (g : Nat) {ob : Obj} (h : X.heap[g]? = some ob) (hc : Calls P f args X (RdRes o X.heap.size X)) :
    Calls P f args X fun e w' => ∃ (x : Nd) (ka : Option Addr) (kn kc : Nat) (r : ByteArray) (b : Bool), e = .returned (.tuple #[.agg #[.int .i64 x.k, .int .u64 x.n, .string x.s, .slice ka kn kc], .string r, .bool b]) ∧ Below X.heap.size X w' ∧
      (b = true → o = some (x, r.data.toList) ∧ KidsAt w' (fun g => X.heap.size ≤ g ∧ g < w'.heap.size) x.kids (.slice ka kn kc)) ∧ (b = false → o = none) ∧ w'.heap[g]? = some ob :=
  hc.mono fun _ _ ⟨x, ka, kn, kc, r, b, he, hb, h1, h2⟩ => ⟨x, ka, kn, kc, r, b, he, hb, h1, h2, block_kept h ((Array.getElem?_eq_some_iff.1 h).1) hb⟩

set_option maxRecDepth 30000 in
set_option maxHeartbeats 2000000 in
theorem first_step (d : Nat) (HK : KidsOk d) : FirstOk (d + 1) := by
  intro s lv w hs hlv hd
  have hsI : (s.size : Int) ≤ 100000000 := by omega
  have HKO := Lib.hid HK
  have HLV := Lib.hid hlv
  have hlv20 : ¬ (20 : Int) < lv := by omega
  have hblk := heap_alloc_new w (.cells #[.int .i64 0, .int .u64 0, .string ⟨#[]⟩, .slice none 0 0] 76)
  clear HK hlv
  by_cases h0 : s.size = 0
  · obtain rfl : s = ⟨#[]⟩ := ByteArray.ext (Array.eq_empty_of_size_eq_zero h0)
    go_enter Try.func47, Try.ntmps47
    go_wp2
    exact bodyPost_ret (v := .tuple #[nodeV 0 0 ⟨#[]⟩ (.slice none 0 0), .string ⟨#[]⟩, .bool false]) (by simp [results, Try.results47, go_sem, nodeV]) rfl ⟨⟨0, 0, ⟨#[]⟩, .nil⟩, none, 0, 0, _, _, rfl, (Below.refl _ _).alloc (Nat.le_refl _) _, (fun h => by cases h), fun _ => by simp [parse]⟩
  · have hpos : 0 < s.size := by omega
    have hposI : (1 : Int) ≤ (s.size : Int) := by omega
    have hne : ¬ s.toList = [] := by rw [toList_nil]; omega
    have hne2 : s.toList.isEmpty = false := by rw [isEmpty_size]; simpa using h0
    obtain ⟨c, hc⟩ : ∃ c, c = s[0] := ⟨_, rfl⟩
    have hdat : s.data.toList = c :: (s.extract 1 s.size).data.toList := by
      rw [hc]
      have : s.data.toList = s.data.toList.drop 0 := rfl
      rw [this, List.drop_eq_getElem_cons (by simpa using hpos)]
      congr 1
      simp only [ByteArray.data_extract, Array.toList_extract, List.extract_eq_take_drop]
      exact (List.take_of_length_le (by simp)).symm
    obtain ⟨T, hT⟩ : ∃ T, T = s.extract 1 s.size := ⟨_, rfl⟩
    rw [← hT] at hdat
    have hTs : T.size ≤ 100000000 := by rw [hT]; simp; omega
    have HFS := Lib.hid (firstSize_prog T (w.alloc (.cells #[.int .i64 0, .int .u64 0, .string ⟨#[]⟩, .slice none 0 0] 76)) hTs)
    have HT := Lib.hid hT
    have HC := Lib.hid hc
    have hpar : parse (d + 1) s.data.toList = sizeO (parse d) c (szP 4 T.data.toList) := by rw [hdat, parse]; rfl
    obtain ⟨O, hO⟩ : ∃ O, parse (d + 1) s.data.toList = O := ⟨_, rfl⟩
    rw [hO] at hpar ⊢
    have HO := Lib.hid hpar
    clear hT hc hdat h0 hpar hO
    go_enter Try.func47, Try.ntmps47
    go_wp2_with fail
    rw [← HT.out]
    refine HFS.out.mono ?_
    rintro e w1 ⟨m, r, b, rfl, hsm, h1, h2⟩
    have hk1 : w1.heap[w.heap.size]? = some (.cells #[.int .i64 0, .int .u64 0, .string ⟨#[]⟩, .slice none 0 0] 76 (0, 0)) := block_kept hblk (B := w.heap.size + 1) (by omega) (hsm.below _)
    have hb1 : Below w.heap.size w w1 := ((Below.refl _ _).alloc (Nat.le_refl _) _).trans (hsm.below _)
    clear HFS
    cases b with
    | false =>
      have hn := h2 rfl
      have hO : Hid (O = none) := Lib.hid (by rw [HO.out, hn]; rfl)
      obtain ⟨c0, c1, c2, c3, f0, f1, f2, f3⟩ := block4 hk1
      clear h1 h2 hn hblk hk1
      go_wp2_with fail
      refine bodyPost_ret (v := .tuple #[nodeV 0 0 ⟨#[]⟩ (.slice none 0 0), .string ⟨#[]⟩, .bool false]) (by simp [results, Try.results47, go_sem, nodeV, c0, c1, c2, c3]) rfl ⟨⟨0, 0, ⟨#[]⟩, .nil⟩, none, 0, 0, _, _, rfl, ?_, (fun h => by cases h), fun _ => hO.out⟩
      exact (((hb1.setCell (Nat.le_refl _) _).setCell (Nat.le_refl _) _).setCell (Nat.le_refl _) _).setCell (Nat.le_refl _) _
    | true =>
      have hz := h1 rfl
      obtain ⟨hTl, hm4⟩ := szP_inv 4 _ _ _ hz
      have hm : Lim m := by unfold Lim; exact hm4
      have hr : r.size ≤ 100000000 := by
        have := congrArg List.length hTl
        simp at this; omega
      have hO : Hid (O = bodyP (parse d) c m r.data.toList) := Lib.hid (by rw [HO.out, hz]; rfl)
      have hlt1 : w.heap.size < w1.heap.size := by have := (Array.getElem?_eq_some_iff.1 hk1).1; exact this
      have hlvd : lv = 20 - (d : Int) := by have := HLV.out; omega
      have HLVD := Lib.hid hlvd
      have HHM := Lib.hid hm
      have c256 := s[0].toNat_lt
      obtain ⟨c0, c1, c2, c3, f0, f1, f2, f3⟩ := block4 hk1
      clear h1 h2 hz hTl hm4 hblk hlvd hm
      by_cases k0 : c.toNat = 110
      · have hO2 : Hid (O = (match numP m r.data.toList with | none => none | some (n, t) => some (⟨0, n, ⟨#[]⟩, .nil⟩, t))) := Lib.hid (by rw [hO.out, bodyP, if_pos k0]; rfl)
        have e0 : ((s[0].toNat : Int) == 110) = true := by rw [← HC.out, k0]; rfl
        clear k0
        go_wp2_with fail
        refine (rd_keep w.heap.size hk1 (firstNumber_prog r m w1 hr HHM.out)).mono ?_
        rintro e w2 ⟨x, ka, kn, kc, r2, b2, rfl, hb2, g1, g2, hk2⟩
        obtain ⟨c0, c1, c2, c3, f0, f1, f2, f3⟩ := block4 hk2
        have G1 := Lib.hid g1
        have G2 := Lib.hid g2
        have HK2 := Lib.hid hk2
        clear g1 g2 hk2 hk1
        go_wp2_with fail
        refine bodyPost_ret (v := .tuple #[nodeV x.k x.n x.s (.slice ka kn kc), .string r2, .bool b2]) (by simp [results, Try.results47, go_sem, nodeV, c0, c1, c2, c3]) rfl ⟨x, ka, kn, kc, r2, b2, rfl, ?_, fun h => ?_, fun h => ?_⟩
        · have hbb := hb1.trans (hb2.mono hb1.size)
          exact (((hbb.setCell (Nat.le_refl _) _).setCell (Nat.le_refl _) _).setCell (Nat.le_refl _) _).setCell (Nat.le_refl _) _
        · obtain ⟨e1, e2⟩ := G1.out h
          exact ⟨by rw [hO2.out]; exact e1, kids_set4 e2 hlt1 hb1.size⟩
        · rw [hO2.out]; exact G2.out h
      have e0 : ((s[0].toNat : Int) == 110) = false := by rw [← HC.out]; simp; omega
      by_cases k1 : c.toNat = 115
      · have hO2 : Hid (O = (match txtP m r.data.toList with | none => none | some (q, t) => some (⟨1, 0, q, .nil⟩, t))) := Lib.hid (by rw [hO.out, bodyP, if_neg k0, if_pos k1]; rfl)
        have e1 : ((s[0].toNat : Int) == 115) = true := by rw [← HC.out, k1]; rfl
        clear k0 k1
        go_wp2_with fail
        refine (rd_keep w.heap.size hk1 (firstText_prog r m w1 hr)).mono ?_
        rintro e w2 ⟨x, ka, kn, kc, r2, b2, rfl, hb2, g1, g2, hk2⟩
        obtain ⟨c0, c1, c2, c3, f0, f1, f2, f3⟩ := block4 hk2
        have G1 := Lib.hid g1
        have G2 := Lib.hid g2
        have HK2 := Lib.hid hk2
        clear g1 g2 hk2 hk1
        go_wp2_with fail
        refine bodyPost_ret (v := .tuple #[nodeV x.k x.n x.s (.slice ka kn kc), .string r2, .bool b2]) (by simp [results, Try.results47, go_sem, nodeV, c0, c1, c2, c3]) rfl ⟨x, ka, kn, kc, r2, b2, rfl, ?_, fun h => ?_, fun h => ?_⟩
        · have hbb := hb1.trans (hb2.mono hb1.size)
          exact (((hbb.setCell (Nat.le_refl _) _).setCell (Nat.le_refl _) _).setCell (Nat.le_refl _) _).setCell (Nat.le_refl _) _
        · obtain ⟨e1, e2⟩ := G1.out h
          exact ⟨by rw [hO2.out]; exact e1, kids_set4 e2 hlt1 hb1.size⟩
        · rw [hO2.out]; exact G2.out h
      have e1 : ((s[0].toNat : Int) == 115) = false := by rw [← HC.out]; simp; omega
      by_cases k2 : c.toNat = 108
      · have hO2 : Hid (O = kidsO (kidsP (parse d) m r.data.toList)) := Lib.hid (by rw [hO.out, bodyP, if_neg k0, if_neg k1, if_pos k2]; rfl)
        have e2 : ((s[0].toNat : Int) == 108) = true := by rw [← HC.out, k2]; rfl
        clear k0 k1 k2
        go_wp2_with fail
        refine (rd_keep w.heap.size hk1 (HKO.out r m lv w1 hr HHM.out HLVD.out (by omega))).mono ?_
        rintro e w2 ⟨x, ka, kn, kc, r2, b2, rfl, hb2, g1, g2, hk2⟩
        obtain ⟨c0, c1, c2, c3, f0, f1, f2, f3⟩ := block4 hk2
        have G1 := Lib.hid g1
        have G2 := Lib.hid g2
        have HK2 := Lib.hid hk2
        clear g1 g2 hk2 hk1
        go_wp2_with fail
        refine bodyPost_ret (v := .tuple #[nodeV x.k x.n x.s (.slice ka kn kc), .string r2, .bool b2]) (by simp [results, Try.results47, go_sem, nodeV, c0, c1, c2, c3]) rfl ⟨x, ka, kn, kc, r2, b2, rfl, ?_, fun h => ?_, fun h => ?_⟩
        · have hbb := hb1.trans (hb2.mono hb1.size)
          exact (((hbb.setCell (Nat.le_refl _) _).setCell (Nat.le_refl _) _).setCell (Nat.le_refl _) _).setCell (Nat.le_refl _) _
        · obtain ⟨e1, e2⟩ := G1.out h
          exact ⟨by rw [hO2.out]; exact e1, kids_set4 e2 hlt1 hb1.size⟩
        · rw [hO2.out]; exact G2.out h
      have e2 : ((s[0].toNat : Int) == 108) = false := by rw [← HC.out]; simp; omega
      have hO2 : Hid (O = none) := Lib.hid (by rw [hO.out, bodyP, if_neg k0, if_neg k1, if_neg k2])
      clear k0 k1 k2
      go_wp2_with fail
      refine bodyPost_ret (v := .tuple #[nodeV 0 0 ⟨#[]⟩ (.slice none 0 0), .string ⟨#[]⟩, .bool false]) (by simp [results, Try.results47, go_sem, nodeV, c0, c1, c2, c3]) rfl ⟨⟨0, 0, ⟨#[]⟩, .nil⟩, none, 0, 0, _, _, rfl, ?_, (fun h => by cases h), fun _ => hO2.out⟩
      exact (((hb1.setCell (Nat.le_refl _) _).setCell (Nat.le_refl _) _).setCell (Nat.le_refl _) _).setCell (Nat.le_refl _) _
end Go.Proofs.Ytgdlnjhbencjkaa
