/- codec.firstNumber, firstText. -/
import Derived.Test.YtgdlnjhbencjkaaCFs
import Derived.Laws.Bits64b
namespace Go.Proofs.Ytgdlnjhbencjkaa
open Go.RowKit

/-- What a call that reads a node hands back. -/
def RdRes (o : Option (Nd × List UInt8)) (B : Nat) (w : World) (e : Ending) (w' : World) : Prop :=
  ∃ (x : Nd) (ka : Option Addr) (kn kc : Nat) (r : ByteArray) (b : Bool), e = .returned (.tuple #[nodeV x.k x.n x.s (.slice ka kn kc), .string r, .bool b]) ∧ Below B w w' ∧
    (b = true → o = some (x, r.data.toList) ∧ KidsAt w' (fun g => B ≤ g ∧ g < w'.heap.size) x.kids (.slice ka kn kc)) ∧ (b = false → o = none)

theorem or256 (x b : Nat) (hx : x < 72057594037927936) (hb : b < 256) : bits BinOp.or IntKind.u64 ((x : Int) * 256) (b : Int) = (x : Int) * 256 + b := by
  have h := bits_or_u64_nat (x * 256) b (by omega) (by omega)
  have e : x * 256 ||| b = x * 256 + b := by
    have := Nat.two_pow_add_eq_or_of_lt (i := 8) (b := b) (by omega) x
    rw [Nat.mul_comm x 256]; exact this.symm
  rw [e] at h
  simpa using h

theorem block4 {w : World} {g : Nat} {a b c d : Value} {t : TypeId} (h : w.heap[g]? = some (.cells #[a, b, c, d] t (0, 0))) :
    w.cell? ⟨g, 0, none⟩ = some a ∧ w.cell? ⟨g, 1, none⟩ = some b ∧ w.cell? ⟨g, 2, none⟩ = some c ∧ w.cell? ⟨g, 3, none⟩ = some d ∧
    w.frozen? ⟨g, 0, none⟩ = false ∧ w.frozen? ⟨g, 1, none⟩ = false ∧ w.frozen? ⟨g, 2, none⟩ = false ∧ w.frozen? ⟨g, 3, none⟩ = false := by
  simp [World.cell?, World.frozen?, h]
/-- The block g is as it was. -/
theorem block_kept {X w2 : World} {g B : Nat} {o : Obj} (hX : X.heap[g]? = some o) (hlt : g < B) (hb : Below B X w2) : w2.heap[g]? = some o := by rw [hb.block g hlt]; exact hX

theorem n_keep (n : Int) (X : World) (g : Nat) {o : Obj} (h : X.heap[g]? = some o) : Calls Try.prog 31 #[.int .u64 n] X fun e w' => e = .returned (.agg #[.int .i64 0, .int .u64 n, .string ⟨#[]⟩, .slice none 0 0]) ∧ Below X.heap.size X w' ∧ w'.heap[g]? = some o :=
  (n_prog n X).mono fun _ _ ⟨he, hb⟩ => ⟨he, hb, block_kept h ((Array.getElem?_eq_some_iff.1 h).1) hb⟩

def FnRel (l : List UInt8) (m : Nat) (w1 : World) (a i : Value) (wr : World) : Prop :=
  ∃ (k : Nat) (x : Int), k ≤ m ∧ i = .int .i64 k ∧ a = .int .u64 x ∧ Hid (x = (valB (l.take k) : Int)) ∧ w1 = wr

set_option maxRecDepth 30000 in
set_option maxHeartbeats 1000000 in
theorem firstNumber_prog (s : ByteArray) (m : Nat) (w : World) (hs : s.size ≤ 100000000) (hm : Lim m) :
    Calls Try.prog 57 #[.string s, .int .i64 m] w
      (RdRes (match numP m s.data.toList with | none => none | some (n, t) => some (⟨0, n, ⟨#[]⟩, .nil⟩, t)) w.heap.size w) := by
  have hsI : (s.size : Int) ≤ 100000000 := by omega
  have HLIM := Lib.hid hm
  clear hm
  by_cases h8 : 8 < m
  · have hn : numP m s.data.toList = none := by rw [numP, if_pos (.inl h8)]
    rw [hn]
    have h8' : (8 : Int) < (m : Int) := by omega
    clear hn
    go_enter Try.func57, Try.ntmps57
    go_wp2
    exact bodyPost_ret (v := .tuple #[nodeV 0 0 ⟨#[]⟩ (.slice none 0 0), .string ⟨#[]⟩, .bool false]) (by simp [results, Try.results57, go_sem, nodeV]) rfl ⟨⟨0, 0, ⟨#[]⟩, .nil⟩, none, 0, 0, _, _, rfl, (Below.refl _ _).alloc (Nat.le_refl _) _, (fun h => by cases h), fun _ => rfl⟩
  by_cases hl : s.size < m
  · have hn : numP m s.data.toList = none := by rw [numP, if_pos (.inr (.inl (by simpa using hl)))]
    rw [hn]
    have h8' : ¬ (8 : Int) < (m : Int) := by omega
    have hl' : (s.size : Int) < (m : Int) := by omega
    clear hn
    go_enter Try.func57, Try.ntmps57
    go_wp2
    exact bodyPost_ret (v := .tuple #[nodeV 0 0 ⟨#[]⟩ (.slice none 0 0), .string ⟨#[]⟩, .bool false]) (by simp [results, Try.results57, go_sem, nodeV]) rfl ⟨⟨0, 0, ⟨#[]⟩, .nil⟩, none, 0, 0, _, _, rfl, (Below.refl _ _).alloc (Nat.le_refl _) _, (fun h => by cases h), fun _ => rfl⟩
  have h8' : ¬ (8 : Int) < (m : Int) := by omega
  have hl' : ¬ (s.size : Int) < (m : Int) := by omega
  by_cases hz : 0 < m ∧ s.data.toList.head? = some 0
  · have hn : numP m s.data.toList = none := by rw [numP, if_pos (.inr (.inr hz))]
    rw [hn]
    obtain ⟨h0, hh⟩ := hz
    have h00 : 0 < s.size := by omega
    have hs0 : s[0].toNat = 0 := by
      have : s.data.toList.head? = some s[0] := by rw [List.head?_eq_getElem?, List.getElem?_eq_getElem (by simpa using h00)]; rfl
      rw [hh] at this
      have := Option.some.inj this
      rw [← this]; rfl
    have hs0' : ((s[0].toNat : Int) == 0) = true := by rw [hs0]; rfl
    have hs0n : (s[0].toNat == 0) = true := by rw [hs0]; rfl
    have h0' : (0 : Int) < (m : Int) := by omega
    clear hn hs0 hh
    go_enter Try.func57, Try.ntmps57
    go_wp2
    exact bodyPost_ret (v := .tuple #[nodeV 0 0 ⟨#[]⟩ (.slice none 0 0), .string ⟨#[]⟩, .bool false]) (by simp [results, Try.results57, go_sem, nodeV]) rfl ⟨⟨0, 0, ⟨#[]⟩, .nil⟩, none, 0, 0, _, _, rfl, (Below.refl _ _).alloc (Nat.le_refl _) _, (fun h => by cases h), fun _ => rfl⟩
  have hn : numP m s.data.toList = some ((valB (s.data.toList.take m) : Int), s.data.toList.drop m) := by rw [numP, if_neg (by simp; exact ⟨by omega, by omega, by simpa using hz⟩)]
  rw [hn]
  clear hn
  have hex : Hid ((s.extract m s.size).data.toList = s.data.toList.drop m) := Lib.hid (by simp only [ByteArray.data_extract, Array.toList_extract, List.extract_eq_take_drop]; exact List.take_of_length_le (by simp))
  have hm0 : (0 : Int) ≤ (m : Int) := by omega
  have hm8 : (m : Int) ≤ 8 := by omega
  have hml : (m : Int) ≤ (s.size : Int) := by omega
  by_cases h0 : 0 < m
  · have hs0 : s[0].toNat ≠ 0 := by
      intro h
      apply hz
      refine ⟨h0, ?_⟩
      rw [List.head?_eq_getElem?, List.getElem?_eq_getElem (by simp; omega)]
      congr 1
      exact UInt8.toNat_inj.1 (by show s[0].toNat = 0; exact h)
    have hs0' : ((s[0].toNat : Int) == 0) = false := by simpa using hs0
    have hs0n : (s[0].toNat == 0) = false := by simpa using hs0
    have h0' : (0 : Int) < (m : Int) := by omega
    have h00 : 0 < s.size := by omega
    clear hz hs0
    go_enter Try.func57, Try.ntmps57
    go_wp2_with fail
    go_loopw [7, 28] (FnRel s.data.toList m (w.alloc (.cells #[.int .i64 0, .int .u64 0, .string ⟨#[]⟩, .slice none 0 0] 76))) (fun _ i _ => m - (intOf i).toNat)
    case atStart => exact ⟨0, 0, by omega, rfl, rfl, Lib.hid (by simp [valB]), rfl⟩
    case round =>
      obtain ⟨k, x, hk, rfl, rfl, hx, rfl⟩ := hrel
      by_cases hlt : k < m
      · have hk0 : (0 : Int) ≤ (k : Int) := by omega
        have hb0 : (0 : Int) ≤ ((s[k]'(by omega)).toNat : Int) := by omega
        have hb1 : ((s[k]'(by omega)).toNat : Int) ≤ 255 := by have := (s[k]'(by omega)).toNat_lt; omega
        have hks : k < s.size := by omega
        have hv := valB_lt (s.data.toList.take k)
        have hvs : Hid (valB (s.data.toList.take (k + 1)) = valB (s.data.toList.take k) * 256 + s[k].toNat) := Lib.hid (by
          rw [List.take_succ_eq_append_getElem (by simpa using hks), valB_snoc]; rfl)
        have hpw : 256 ^ (s.data.toList.take k).length ≤ 256 ^ 7 := Nat.pow_le_pow_right (by decide) (by simp; omega)
        have h7 : (256 : Nat) ^ 7 = 72057594037927936 := by decide
        obtain ⟨V, hV⟩ : ∃ V, V = valB (s.data.toList.take k) := ⟨_, rfl⟩
        have hor := or256 V s[k].toNat (by omega) (s[k].toNat_lt)
        have hxV : x = (V : Int) := by rw [hx.out, hV]
        rw [← hxV] at hor
        have x0 : 0 ≤ x := by omega
        have x1 : x < 72057594037927936 := by omega
        have HV := Lib.hid hV
        have HXV := Lib.hid hxV
        clear hV hxV hv hpw h7
        go_wp2_with fail
        go_roundw
        case rel => exact ⟨k + 1, _, by omega, by go_num, rfl, Lib.hid (by rw [hvs.out, HXV.out, HV.out]; simp), rfl⟩
        case measure => rw [intOf_int, intOf_int]; omega
      · obtain rfl : m = k := by omega
        go_wp2_with fail
        have hblk := heap_alloc_new w (.cells #[.int .i64 0, .int .u64 0, .string ⟨#[]⟩, .slice none 0 0] 76)
        go_region_held3 (fun _ => True) (trivial)
          ((go_at_call 31; refine (n_keep _ _ w.heap.size (by exact hblk)).mono ?_; rintro e w2 ⟨rfl, hb2, hk2⟩; obtain ⟨c0, c1, c2, c3, f0, f1, f2, f3⟩ := block4 hk2))
        go_wp2_with fail
        refine bodyPost_ret (v := .tuple #[nodeV 0 x ⟨#[]⟩ (.slice none 0 0), .string (s.extract m s.size), .bool true]) (by simp [results, Try.results57, go_sem, nodeV, c0, c1, c2, c3]) rfl ?_
        refine ⟨⟨0, x, ⟨#[]⟩, .nil⟩, none, 0, 0, _, _, rfl, ?_, fun _ => ⟨?_, .inl ⟨rfl, rfl⟩⟩, (fun h => by cases h)⟩
        · have hb02 : Below w.heap.size w w2 := (((Below.refl w.heap.size w).alloc (Nat.le_refl _) _).drew).trans (hb2.mono (by simp [World.drew]))
          exact (((hb02.setCell (Nat.le_refl _) _).setCell (Nat.le_refl _) _).setCell (Nat.le_refl _) _).setCell (Nat.le_refl _) _
        · rw [hex.out]
          simp [hx.out]
  · have h0' : ¬ (0 : Int) < (m : Int) := by omega
    have h0d : decide ((0 : Int) < (m : Int)) = false := by simpa using h0'
    clear hz h0
    go_enter Try.func57, Try.ntmps57
    go_wp2_with fail
    go_loopw [7, 28] (FnRel s.data.toList m (w.alloc (.cells #[.int .i64 0, .int .u64 0, .string ⟨#[]⟩, .slice none 0 0] 76))) (fun _ i _ => m - (intOf i).toNat)
    case atStart => exact ⟨0, 0, by omega, rfl, rfl, Lib.hid (by simp [valB]), rfl⟩
    case round =>
      obtain ⟨k, x, hk, rfl, rfl, hx, rfl⟩ := hrel
      by_cases hlt : k < m
      · have hk0 : (0 : Int) ≤ (k : Int) := by omega
        have hb0 : (0 : Int) ≤ ((s[k]'(by omega)).toNat : Int) := by omega
        have hb1 : ((s[k]'(by omega)).toNat : Int) ≤ 255 := by have := (s[k]'(by omega)).toNat_lt; omega
        have hks : k < s.size := by omega
        have hv := valB_lt (s.data.toList.take k)
        have hvs : Hid (valB (s.data.toList.take (k + 1)) = valB (s.data.toList.take k) * 256 + s[k].toNat) := Lib.hid (by
          rw [List.take_succ_eq_append_getElem (by simpa using hks), valB_snoc]; rfl)
        have hpw : 256 ^ (s.data.toList.take k).length ≤ 256 ^ 7 := Nat.pow_le_pow_right (by decide) (by simp; omega)
        have h7 : (256 : Nat) ^ 7 = 72057594037927936 := by decide
        obtain ⟨V, hV⟩ : ∃ V, V = valB (s.data.toList.take k) := ⟨_, rfl⟩
        have hor := or256 V s[k].toNat (by omega) (s[k].toNat_lt)
        have hxV : x = (V : Int) := by rw [hx.out, hV]
        rw [← hxV] at hor
        have x0 : 0 ≤ x := by omega
        have x1 : x < 72057594037927936 := by omega
        have HV := Lib.hid hV
        have HXV := Lib.hid hxV
        clear hV hxV hv hpw h7
        go_wp2_with fail
        go_roundw
        case rel => exact ⟨k + 1, _, by omega, by go_num, rfl, Lib.hid (by rw [hvs.out, HXV.out, HV.out]; simp), rfl⟩
        case measure => rw [intOf_int, intOf_int]; omega
      · obtain rfl : m = k := by omega
        go_wp2_with fail
        have hblk := heap_alloc_new w (.cells #[.int .i64 0, .int .u64 0, .string ⟨#[]⟩, .slice none 0 0] 76)
        go_region_held3 (fun _ => True) (trivial)
          ((go_at_call 31; refine (n_keep _ _ w.heap.size (by exact hblk)).mono ?_; rintro e w2 ⟨rfl, hb2, hk2⟩; obtain ⟨c0, c1, c2, c3, f0, f1, f2, f3⟩ := block4 hk2))
        go_wp2_with fail
        refine bodyPost_ret (v := .tuple #[nodeV 0 x ⟨#[]⟩ (.slice none 0 0), .string (s.extract m s.size), .bool true]) (by simp [results, Try.results57, go_sem, nodeV, c0, c1, c2, c3]) rfl ?_
        refine ⟨⟨0, x, ⟨#[]⟩, .nil⟩, none, 0, 0, _, _, rfl, ?_, fun _ => ⟨?_, .inl ⟨rfl, rfl⟩⟩, (fun h => by cases h)⟩
        · have hb02 : Below w.heap.size w w2 := (((Below.refl w.heap.size w).alloc (Nat.le_refl _) _).drew).trans (hb2.mono (by simp [World.drew]))
          exact (((hb02.setCell (Nat.le_refl _) _).setCell (Nat.le_refl _) _).setCell (Nat.le_refl _) _).setCell (Nat.le_refl _) _
        · rw [hex.out]
          simp [hx.out]

theorem s_keep (s : ByteArray) (X : World) (g : Nat) {o : Obj} (h : X.heap[g]? = some o) : Calls Try.prog 34 #[.string s] X fun e w' => e = .returned (.agg #[.int .i64 1, .int .u64 0, .string s, .slice none 0 0]) ∧ Below X.heap.size X w' ∧ w'.heap[g]? = some o :=
  (s_prog s X).mono fun _ _ ⟨he, hb⟩ => ⟨he, hb, block_kept h ((Array.getElem?_eq_some_iff.1 h).1) hb⟩
theorem clone_keep (s : ByteArray) (X : World) (hs : s.size ≤ 281474976710656) (g : Nat) {o : Obj} (h : X.heap[g]? = some o) : Calls Try.prog 61 #[.string s] X fun e w' => e = .returned (.string s) ∧ Below X.heap.size X w' ∧ w'.heap[g]? = some o :=
  (clone_prog s X hs).mono fun _ _ ⟨he, hb⟩ => ⟨he, hb, block_kept h ((Array.getElem?_eq_some_iff.1 h).1) hb⟩

set_option maxRecDepth 30000 in
set_option maxHeartbeats 1000000 in
theorem firstText_prog (s : ByteArray) (m : Nat) (w : World) (hs : s.size ≤ 100000000) :
    Calls Try.prog 58 #[.string s, .int .i64 m] w
      (RdRes (match txtP m s.data.toList with | none => none | some (q, t) => some (⟨1, 0, q, .nil⟩, t)) w.heap.size w) := by
  have hsI : (s.size : Int) ≤ 100000000 := by omega
  by_cases hl : s.size < m
  · have hn : txtP m s.data.toList = none := by rw [txtP, if_pos (by simpa using hl)]
    rw [hn]
    have hl' : (s.size : Int) < (m : Int) := by omega
    clear hn
    go_enter Try.func58, Try.ntmps58
    go_wp2
    exact bodyPost_ret (v := .tuple #[nodeV 0 0 ⟨#[]⟩ (.slice none 0 0), .string ⟨#[]⟩, .bool false]) (by simp [results, Try.results58, go_sem, nodeV]) rfl ⟨⟨0, 0, ⟨#[]⟩, .nil⟩, none, 0, 0, _, _, rfl, (Below.refl _ _).alloc (Nat.le_refl _) _, (fun h => by cases h), fun _ => rfl⟩
  · have hl' : ¬ (s.size : Int) < (m : Int) := by omega
    have hn : txtP m s.data.toList = some (s.extract 0 m, s.data.toList.drop m) := by
      rw [txtP, if_neg (by simpa using hl)]
      congr 2
      apply ByteArray.ext
      apply Array.ext'
      simp
    rw [hn]
    have hm0 : (0 : Int) ≤ (m : Int) := by omega
    have hml : (m : Int) ≤ (s.size : Int) := by omega
    have hex : Hid ((s.extract m s.size).data.toList = s.data.toList.drop m) := Lib.hid (by simp only [ByteArray.data_extract, Array.toList_extract, List.extract_eq_take_drop]; exact List.take_of_length_le (by simp))
    have hxs : (s.extract 0 m).size ≤ 281474976710656 := by simp; omega
    obtain ⟨T, hT⟩ : ∃ T, T = s.extract 0 m := ⟨_, rfl⟩
    rw [← hT] at hxs ⊢
    have HT := Lib.hid hT
    clear hn hT
    have hblk := heap_alloc_new w (.cells #[.int .i64 0, .int .u64 0, .string ⟨#[]⟩, .slice none 0 0] 76)
    go_enter Try.func58, Try.ntmps58
    go_wp2_with fail
    go_region_held3 (fun _ => True) (trivial)
      (first
        | (go_at_call 61; rw [← HT.out]; refine (clone_keep T _ hxs w.heap.size (by exact hblk)).mono ?_; rintro e w2 ⟨rfl, hb2, hk2⟩)
        | (go_at_call 34; refine (s_keep T _ w.heap.size hk2).mono ?_; rintro e w3 ⟨rfl, hb3, hk3⟩; obtain ⟨c0, c1, c2, c3, f0, f1, f2, f3⟩ := block4 hk3))
    go_wp2_with fail
    refine bodyPost_ret (v := .tuple #[nodeV 1 0 T (.slice none 0 0), .string (s.extract m s.size), .bool true]) (by simp [results, Try.results58, go_sem, nodeV, c0, c1, c2, c3]) rfl ?_
    refine ⟨⟨1, 0, T, .nil⟩, none, 0, 0, _, _, rfl, ?_, fun _ => ⟨?_, .inl ⟨rfl, rfl⟩⟩, (fun h => by cases h)⟩
    · have hb02 : Below w.heap.size w w2 := (((Below.refl w.heap.size w).alloc (Nat.le_refl _) _).drew).trans (hb2.mono (by simp [World.drew]))
      have hb03 := hb02.trans (hb3.mono hb02.size)
      exact (((hb03.setCell (Nat.le_refl _) _).setCell (Nat.le_refl _) _).setCell (Nat.le_refl _) _).setCell (Nat.le_refl _) _
    · rw [hex.out]
end Go.Proofs.Ytgdlnjhbencjkaa
