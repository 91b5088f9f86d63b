/- codec.firstKids, Read. -/
import Derived.Test.YtgdlnjhbencjkaaCRd
namespace Go.Proofs.Ytgdlnjhbencjkaa
open Go.RowKit

/-- What is read of the kids from here on, behind those that were read. -/
def restO (f : F) (o : Option (F × List UInt8)) : Option (F × List UInt8) := match o with | none => none | some (h, t) => some (f.app h, t)
theorem restO_nil (o : Option (F × List UInt8)) : restO .nil o = o := by
  cases o with
  | none => rfl
  | some p => rfl
theorem restO_step (p : List UInt8 → Option (Nd × List UInt8)) (f : F) (m : Nat) (l : List UInt8) (x : Nd) (q : List UInt8) (h : p l = some (x, q)) :
    restO f (kidsP p (m + 1) l) = restO (f.app (.cons x.k x.n x.s x.kids .nil)) (kidsP p m q) := by
  rw [kidsP, h]
  simp only []
  cases kidsP p m q with
  | none => rfl
  | some p2 => simp only [restO, F.app_assoc]; rfl
theorem restO_none (p : List UInt8 → Option (Nd × List UInt8)) (f : F) (m : Nat) (l : List UInt8) (h : p l = none) : restO f (kidsP p (m + 1) l) = none := by
  rw [kidsP, h]; rfl

theorem heap_alloc2 (w : World) (o1 o2 : Obj) : ((w.alloc o1).alloc o2).heap[w.heap.size + 1]? = some o2 := by
  have := heap_alloc_new (w.alloc o1) o2
  simpa using this
theorem heap_old2 (w : World) (o1 o2 : Obj) (b : Nat) (h : b < w.heap.size) : ((w.alloc o1).alloc o2).heap[b]? = w.heap[b]? := by
  rw [Below.heap_alloc _ _ _ (by simp; omega), Below.heap_alloc _ _ _ h]

def FkRel (d m : Nat) (O : Option (F × List UInt8)) (w : World) (s0 s15 : Value) (wr : World) : Prop :=
  ∃ (i : Nat) (sr : ByteArray) (f : F) (v : Value) (cs : List Value), s0 = .string sr ∧ s15 = .int .i64 i ∧ i ≤ m ∧ sr.size ≤ 100000000 ∧ Hid (O = restO f (kidsP (parse d) (m - i) sr.data.toList)) ∧ f.len + sr.size ≤ 100000000 ∧
    Hid (wr.heap[w.heap.size]? = some (.cells #[.int .i64 0, .int .u64 0, .string ⟨#[]⟩, .slice none 0 0] 76 (0, 0))) ∧
    Hid (wr.heap[w.heap.size + 1]? = some (.cells #[.int .i64 2, .int .u64 0, .string ⟨#[]⟩, v] 76 (0, 0))) ∧
    Hid (wr.ownsRow (w.heap.size + 2) 76 4 v f.len cs) ∧ Hid (CellsOf wr (fun b => w.heap.size + 2 ≤ b ∧ b < wr.heap.size ∧ v.ownBlock ≠ some b) f cs) ∧ Below w.heap.size w wr ∧ w.heap.size + 2 ≤ wr.heap.size

set_option maxRecDepth 30000 in
set_option maxHeartbeats 2000000 in
theorem kids_step (d : Nat) (HF : FirstOk d) : KidsOk d := by
  intro s m lv w hs hm hlv hd
  obtain ⟨O, hO⟩ : ∃ O, kidsP (parse d) m s.data.toList = O := ⟨_, rfl⟩
  rw [hO]
  have HFO := Lib.hid HF
  have HO := Lib.hid hO
  have HLV := Lib.hid hlv
  have HM := Lib.hid hm
  have hlv1 : wrap64 (lv + 1) = lv + 1 := IntWalk.wrap64_in _ (by omega)
  have hmI : (m : Int) ≤ 268435456 := by unfold Lim at hm; omega
  have hm0 : (0 : Int) ≤ (m : Int) := by omega
  clear hO hlv hm HF
  go_enter Try.func59, Try.ntmps59
  go_wp2_with fail
  go_loopw [0, 15] (FkRel d m O w) (fun _ i _ => m - (intOf i).toNat)
  case atStart =>
    refine ⟨0, s, .nil, .slice none 0 0, [], rfl, rfl, by omega, hs, Lib.hid ?_, ?_, Lib.hid ?_, Lib.hid ?_, Lib.hid ?_, Lib.hid ?_, ?_, ?_⟩
    · rw [restO_nil]; exact HO.out.symm
    · simp [F.len]; exact hs
    · rw [Below.heap_alloc _ _ _ (by simp)]; exact heap_alloc_new w _
    · exact heap_alloc2 w _ _
    · exact World.ownsRow_nil _ _ _ _
    · exact rfl
    · exact ((Below.refl _ w).alloc (Nat.le_refl _) _).alloc (by simp) _
    · simp
  case round =>
    obtain ⟨i, sr, f, v, cs, rfl, rfl, hi, hsr, hZ, hfl, hz6, hz9, hown, hcs, hb, hsz⟩ := hrel
    by_cases hlt : i < m
    · have hi0 : (0 : Int) ≤ (i : Int) := by omega
      have hi1 : (i : Int) ≤ 268435456 := by omega
      have hcall := Lib.hid (rd_keep w.heap.size hz6.out (HFO.out sr (lv + 1) wr hsr (by have := HLV.out; omega) hd))
      go_wp2_with fail
      refine hcall.out.mono ?_
      rintro e w4 ⟨x, ka, kn, kc, r, b, rfl, hb4, g1, g2, hk6⟩
      obtain ⟨c0, c1, c2, c3, f0, f1, f2, f3⟩ := block4 hk6
      have hlt6 : w.heap.size < w4.heap.size := by have := hb4.size; omega
      clear hcall
      cases b with
      | false =>
        have hn := g2 rfl
        have hO2 : Hid (kidsO O = none) := Lib.hid (by rw [hZ.out, show m - i = (m - i - 1) + 1 by omega, restO_none _ _ _ _ hn]; rfl)
        clear g1 g2 hn hk6
        go_wp2_with fail
        refine bodyPost_ret (v := .tuple #[nodeV 0 0 ⟨#[]⟩ (.slice none 0 0), .string ⟨#[]⟩, .bool false]) (by simp [results, Try.results59, go_sem, nodeV, c0, c1, c2, c3, hlt6]) rfl ⟨⟨0, 0, ⟨#[]⟩, .nil⟩, none, 0, 0, _, _, rfl, ?_, (fun h => by cases h), fun _ => hO2.out⟩
        have hbb := hb.trans (hb4.mono hb.size)
        exact ((((hbb.setCell (Nat.le_refl _) _).setCell (Nat.le_refl _) _).setCell (Nat.le_refl _) _).setCell (Nat.le_refl _) _).alloc (by simp only [size_setCell]; omega) _
      | true =>
        obtain ⟨hp, hkid⟩ := g1 rfl
        have hO2 : Hid (O = restO (f.app (.cons x.k x.n x.s x.kids .nil)) (kidsP (parse d) (m - (i + 1)) r.data.toList)) := Lib.hid (by rw [hZ.out, show m - i = (m - (i + 1)) + 1 by omega, restO_step _ _ _ _ _ _ hp])
        have hinv := parse_inv d _ _ _ hp
        have hrl : r.size + 1 ≤ sr.size := by
          have h1 := congrArg List.length hinv.1
          have h2 : 1 ≤ x.bytes.length := by
            unfold Nd.bytes nodeL; split
            · simp
            · split <;> simp
          simp at h1; omega
        have hz9' : Hid (w4.heap[w.heap.size + 1]? = some (.cells #[.int .i64 2, .int .u64 0, .string ⟨#[]⟩, v] 76 (0, 0))) := Lib.hid (block_kept hz9.out (by omega) hb4)
        obtain ⟨_, _, _, d3, _, _, _, _⟩ := block4 hz9'.out
        have hlt9 : w.heap.size + 1 < w4.heap.size := by have := hb4.size; omega
        have hvlt : Hid (∀ k, v.ownBlock = some k → w.heap.size + 2 ≤ k ∧ k < wr.heap.size) := Lib.hid (World.ownsRow.lt hown.out)
        have hown4 : Hid (w4.ownsRow (w.heap.size + 2) 76 4 v f.len cs) := Lib.hid (ownN_mv hown.out (fun k hk => hb4.block k (hvlt.out k hk).2))
        have HKID := Lib.hid hkid
        have HG := Lib.hid hk6
        have hfl40 : f.len + 1 ≤ 100000000 := by omega
        clear g1 g2 hp hinv hkid hk6 c0 c1 c2 c3 f0 f1 f2 f3
        go_wp2_with (at_builtin; refine list_appN Try.nodeSl rfl _ _ rfl (w.heap.size + 2) v f.len cs rfl ((hown4.out.alloc _).alloc _) _ 1 1 [.int .i64 x.k, .int .u64 x.n, .string x.s, .slice ka kn kc] rfl (heap_alloc2 w4 _ _) rfl (by simp [Value.oneCell']) (by omega) (by unfold maxLen; omega) (by omega) (by simp; omega) ?_; intro g cap w6 hown6 hgr6; have hne9 : Hid (v.ownBlock ≠ some (w.heap.size + 1)) := Lib.hid (fun h => by have := hvlt.out _ h; omega); have hz96 : Hid (w6.heap[w.heap.size + 1]? = some (.cells #[.int .i64 2, .int .u64 0, .string ⟨#[]⟩, v] 76 (0, 0))) := Lib.hid (by rw [hgr6.block (by simp; omega) hne9.out, heap_old2 _ _ _ _ hlt9]; exact hz9'.out); obtain ⟨_, _, _, e3, _, _, _, q3⟩ := block4 hz96.out)
        have hb6 : Below (w.heap.size + 2) w4 w6 := ((((Below.refl _ w4).alloc (by omega) _).alloc (by simp; omega) _)).trans (hgr6.below (by simp; omega) (fun k hk => (hvlt.out k hk).1))
        have hs6 : w4.heap.size + 2 ≤ w6.heap.size := by have := hgr6.size; simpa using this
        have hgb : w.heap.size + 2 ≤ g := (World.ownsRow.lt hown6 g rfl).1
        have hgl : v.ownBlock = some g ∨ w4.heap.size + 2 ≤ g := by have := hgr6.loc g rfl; simpa using this
        have hs4 := hb4.size
        have hold : ∀ b, w.heap.size + 2 ≤ b → b < w4.heap.size → v.ownBlock ≠ some b → w6.heap[b]? = w4.heap[b]? := fun b h1 h2 h3 => by
          rw [hgr6.block (by simp; omega) h3, heap_old2 _ _ _ _ h2]
        go_roundw
        case rel =>
          refine ⟨i + 1, r, f.app (.cons x.k x.n x.s x.kids .nil), .slice (some ⟨g, 0, none⟩) (f.len + 1) cap, cs ++ [.int .i64 x.k, .int .u64 x.n, .string x.s, .slice ka kn kc], rfl, by go_num, by omega, by omega, hO2, by rw [F.app_len]; simp [F.len]; omega, Lib.hid ?_, Lib.hid ?_, Lib.hid ?_, Lib.hid (CellsOf.snoc (s := x.s) (c := x.kids) ?_ _ cs ?_), ?_, ?_⟩
          · rw [setCell_ne _ _ _ _ _ (by omega), hb6.block _ (by omega)]; exact HG.out
          · exact heap_setCell_same w6 _ 3 _ _ _ hz96.out
          · have e1 : (f.app (.cons x.k x.n x.s x.kids .nil)).len = f.len + 1 := by rw [F.app_len]; rfl
            rw [e1]
            exact ownN_mv hown6 (fun k hk => setCell_ne _ _ _ _ _ (by have := (World.ownsRow.lt hown6 k hk).1; omega))
          · refine HKID.out.mono (fun b hb => ⟨by omega, ?_, ?_⟩) (fun b hb => ?_)
            · rw [size_setCell]; omega
            · intro h
              have hgb2 : g = b := by simpa [Value.ownBlock] using h
              rcases hgl with h1 | h1
              · have := (hvlt.out g h1).2; omega
              · omega
            · rw [setCell_ne _ _ _ _ _ (by omega)]
              exact hold b (by omega) hb.2 (fun h => by have := (hvlt.out b h).2; omega)
          · have hx : ∀ b, (w.heap.size + 2 ≤ b ∧ b < wr.heap.size ∧ v.ownBlock ≠ some b) → b < (w6.setCell ⟨w.heap.size + 1, 3, none⟩ (.slice (some ⟨g, 0, none⟩) (f.len + 1) cap)).heap.size ∧ (Value.slice (some ⟨g, 0, none⟩) (f.len + 1) cap).ownBlock ≠ some b ∧
                (w6.setCell ⟨w.heap.size + 1, 3, none⟩ (.slice (some ⟨g, 0, none⟩) (f.len + 1) cap)).heap[b]? = wr.heap[b]? := fun b hb => by
              refine ⟨by rw [size_setCell]; omega, fun h => ?_, ?_⟩
              · have hgb2 : g = b := by simpa [Value.ownBlock] using h
                rcases hgl with h1 | h1
                · exact hb.2.2 (by rw [h1, hgb2])
                · omega
              · rw [setCell_ne _ _ _ _ _ (by omega), hold b hb.1 (by omega) hb.2.2]
                exact hb4.block b hb.2.1
            exact CellsOf.mono (fun b hb => ⟨⟨hb.1, (hx b hb).1, (hx b hb).2.1⟩, (hx b hb).2.2⟩) f cs hcs.out
          · exact ((hb.trans (hb4.mono hb.size)).trans (hb6.mono (by omega))).setCell (by simp) _
          · rw [size_setCell]; omega
        case measure => rw [intOf_int, intOf_int]; omega
    · obtain rfl : i = m := by omega
      obtain ⟨c0, c1, c2, c3, f0, f1, f2, f3⟩ := block4 hz6.out
      obtain ⟨d0, d1, d2, d3, _, _, _, _⟩ := block4 hz9.out
      have hO2 : Hid (O = some (f, sr.data.toList)) := Lib.hid (by
        rw [hZ.out, show i - i = 0 by omega]; simp only [kidsP, restO, F.app_nil])
      obtain ⟨va, vc, hv⟩ : ∃ a c, v = .slice a f.len c := by
        rcases hown.out.2 with ⟨h1, h2⟩ | ⟨g, cap, cur, h1, _⟩
        · exact ⟨none, 0, by rw [h1, h2]⟩
        · exact ⟨_, cap, h1⟩
      subst hv
      clear hlt
      go_wp2_with fail
      refine bodyPost_ret (v := .tuple #[nodeV 2 0 ⟨#[]⟩ (.slice va f.len vc), .string sr, .bool true]) (by simp [results, Try.results59, go_sem, nodeV, c0, c1, c2, c3]) rfl ⟨⟨2, 0, ⟨#[]⟩, f⟩, va, f.len, vc, _, _, rfl, ?_, fun _ => ⟨by rw [hO2.out]; rfl, ?_⟩, (fun h => by cases h)⟩
      · exact (((hb.setCell (Nat.le_refl _) _).setCell (Nat.le_refl _) _).setCell (Nat.le_refl _) _).setCell (Nat.le_refl _) _
      · have hk : KidsAt wr (fun b => w.heap.size + 2 ≤ b ∧ b < wr.heap.size) f (.slice va f.len vc) := kids_of_own hown.out hcs.out (fun b hb => ⟨hb.1, hb.2.1⟩) (fun k hk => World.ownsRow.lt hown.out k hk)
        exact kids_set4 hk (by omega) (by omega)

set_option maxRecDepth 30000 in
set_option maxHeartbeats 1000000 in
theorem first_zero : FirstOk 0 := by
  intro s lv w hs hlv hd
  obtain rfl : lv = 21 := by omega
  have hsI : (s.size : Int) ≤ 100000000 := by omega
  clear hlv
  have hp : parse 0 s.data.toList = none := by rw [parse]
  rw [hp]
  by_cases h0 : s.size = 0
  · obtain rfl : s = ⟨#[]⟩ := ByteArray.ext (Array.eq_empty_of_size_eq_zero h0)
    go_enter Try.func47, Try.ntmps47
    go_wp2
    exact bodyPost_ret (v := .tuple #[nodeV 0 0 ⟨#[]⟩ (.slice none 0 0), .string ⟨#[]⟩, .bool false]) (by simp [results, Try.results47, go_sem, nodeV]) rfl ⟨⟨0, 0, ⟨#[]⟩, .nil⟩, none, 0, 0, _, _, rfl, (Below.refl _ _).alloc (Nat.le_refl _) _, (fun h => by cases h), fun _ => rfl⟩
  · have hne : ¬ s.toList = [] := by rw [toList_nil]; omega
    have hne2 : s.toList.isEmpty = false := by rw [isEmpty_size]; simpa using h0
    go_enter Try.func47, Try.ntmps47
    go_wp2
    exact bodyPost_ret (v := .tuple #[nodeV 0 0 ⟨#[]⟩ (.slice none 0 0), .string ⟨#[]⟩, .bool false]) (by simp [results, Try.results47, go_sem, nodeV]) rfl ⟨⟨0, 0, ⟨#[]⟩, .nil⟩, none, 0, 0, _, _, rfl, (Below.refl _ _).alloc (Nat.le_refl _) _, (fun h => by cases h), fun _ => rfl⟩

theorem first_ok : ∀ d, FirstOk d
  | 0 => first_zero
  | d + 1 => first_step d (kids_step d (first_ok d))

def readO (l : List UInt8) : Option Nd := match parse 20 l with | some (x, []) => some x | _ => none
def ReadRes (o : Option Nd) (B : Nat) (w : World) (e : Ending) (w' : World) : Prop :=
  ∃ (x : Nd) (ka : Option Addr) (kn kc : Nat) (b : Bool), e = .returned (.tuple #[nodeV x.k x.n x.s (.slice ka kn kc), .bool b]) ∧ Below B w w' ∧
    (b = true → o = some x) ∧ (b = false → o = none ∧ x = ⟨0, 0, ⟨#[]⟩, .nil⟩) ∧ KidsAt w' (fun g => B ≤ g ∧ g < w'.heap.size) x.kids (.slice ka kn kc)

set_option maxRecDepth 30000 in
set_option maxHeartbeats 1000000 in
theorem read_prog (s : ByteArray) (w : World) (hs : s.size ≤ 10000000) : Calls Try.prog 39 #[.string s] w (ReadRes (readO s.data.toList) w.heap.size w) := by
  have hsI : (s.size : Int) ≤ 10000000 := by omega
  have hblk := heap_alloc_new w (.cells #[.int .i64 0, .int .u64 0, .string ⟨#[]⟩, .slice none 0 0] 76)
  have hcall := Lib.hid (rd_keep w.heap.size hblk (first_ok 20 s 1 (w.alloc (.cells #[.int .i64 0, .int .u64 0, .string ⟨#[]⟩, .slice none 0 0] 76)) (by omega) (by decide) (by decide)))
  obtain ⟨O, hO⟩ : ∃ O, readO s.data.toList = O := ⟨_, rfl⟩
  rw [hO]
  have HO := Lib.hid hO
  clear hO hblk
  go_enter Try.func39, Try.ntmps39
  go_wp2_with fail
  refine hcall.out.mono ?_
  rintro e w4 ⟨x, ka, kn, kc, r, b, rfl, hb4, g1, g2, hk6⟩
  obtain ⟨c0, c1, c2, c3, f0, f1, f2, f3⟩ := block4 hk6
  have hlt6 : w.heap.size < w4.heap.size := (Array.getElem?_eq_some_iff.1 hk6).1
  have hbb : Below w.heap.size w w4 := ((Below.refl _ _).alloc (Nat.le_refl _) _).trans (hb4.mono (by simp))
  clear hcall hk6
  cases b with
  | false =>
    have hO2 : Hid (O = none) := Lib.hid (by rw [← HO.out, readO, g2 rfl])
    clear g1 g2
    go_wp2_with fail
    refine bodyPost_ret (v := .tuple #[nodeV 0 0 ⟨#[]⟩ (.slice none 0 0), .bool false]) (by simp [results, Try.results39, go_sem, nodeV, c0, c1, c2, c3, hlt6]) rfl ⟨⟨0, 0, ⟨#[]⟩, .nil⟩, none, 0, 0, _, rfl, ?_, (fun h => by cases h), fun _ => ⟨hO2.out, rfl⟩, .inl ⟨rfl, rfl⟩⟩
    exact ((((hbb.setCell (Nat.le_refl _) _).setCell (Nat.le_refl _) _).setCell (Nat.le_refl _) _).setCell (Nat.le_refl _) _).alloc (by simp only [size_setCell]; omega) _
  | true =>
    obtain ⟨hp, hkid⟩ := g1 rfl
    have HP := Lib.hid hp
    have HKID := Lib.hid hkid
    clear g1 g2 hp hkid
    by_cases h0 : r.size = 0
    · obtain rfl : r = ⟨#[]⟩ := ByteArray.ext (Array.eq_empty_of_size_eq_zero h0)
      have hO2 : Hid (O = some x) := Lib.hid (by rw [← HO.out, readO, HP.out])
      clear h0
      go_wp2_with fail
      refine bodyPost_ret (v := .tuple #[nodeV x.k x.n x.s (.slice ka kn kc), .bool true]) (by simp [results, Try.results39, go_sem, nodeV, c0, c1, c2, c3, hlt6]) rfl ⟨x, ka, kn, kc, _, rfl, ?_, fun _ => hO2.out, (fun h => by cases h), ?_⟩
      · exact ((((hbb.setCell (Nat.le_refl _) _).setCell (Nat.le_refl _) _).setCell (Nat.le_refl _) _).setCell (Nat.le_refl _) _).alloc (by simp only [size_setCell]; omega) _
      · refine (kids_set4 HKID.out (by simp) (by simp : w.heap.size ≤ _)).mono (fun b hb => ⟨hb.1, by simp at hb ⊢; omega⟩) (fun b hb => Below.heap_alloc _ _ _ hb.2)
    · have hne : ¬ r.toList = [] := by rw [toList_nil]; omega
      have hne2 : r.toList.isEmpty = false := by rw [isEmpty_size]; simpa using h0
      have hO2 : Hid (O = none) := Lib.hid (by
        rw [← HO.out, readO, HP.out]
        have : r.data.toList ≠ [] := by intro h; apply h0; have := congrArg List.length h; simpa using this
        cases hq : r.data.toList with
        | nil => exact absurd hq this
        | cons a l => rfl)
      go_wp2_with fail
      refine bodyPost_ret (v := .tuple #[nodeV 0 0 ⟨#[]⟩ (.slice none 0 0), .bool false]) (by simp [results, Try.results39, go_sem, nodeV, c0, c1, c2, c3, hlt6]) rfl ⟨⟨0, 0, ⟨#[]⟩, .nil⟩, none, 0, 0, _, rfl, ?_, (fun h => by cases h), fun _ => ⟨hO2.out, rfl⟩, .inl ⟨rfl, rfl⟩⟩
      exact ((((hbb.setCell (Nat.le_refl _) _).setCell (Nat.le_refl _) _).setCell (Nat.le_refl _) _).setCell (Nat.le_refl _) _).alloc (by simp only [size_setCell]; omega) _
end Go.Proofs.Ytgdlnjhbencjkaa
