/- An array of bytes that came in, read as data. -/
import Derived.Test.YtndpdledhjdfeaaLib2
import Derived.ProofKit
import Derived.WideKeyArr2
namespace Go.Proofs.Ytndpdledhjdfeaa
open Go.ChangeShapes Go.WideShapes Go.RowKit

section
variable {H : Type} {enc : TypeId × Value → H} {P : Program} {k e : TypeId} {n : Nat} {W : World} {base : Nat} {sp : Nat → Bool} {held : Bool}

theorem mapM_cells (he : P.underlying e = some (.int .u8)) (hc : P.cellsOf e = 1) {m : Nat} {cs : List Value} : ∀ (L : List Nat) (xs : List (DataW H × List MemPlace)),
    L.mapM (fun i => DataW.trod enc P W base sp held m e ((cs.drop (i * P.cellsOf e)).take (P.cellsOf e))) = some xs →
    (∀ i ∈ L, ∃ b : UInt8, cs[i]? = some (byteV b)) ∧ (∀ F : Nat → UInt8, (∀ i ∈ L, cs[i]? = some (byteV (F i))) → xs = L.map (fun i => (.lit (.int .u8 ((F i).toNat : Int)), [])))
  | [], xs, h => by
    simp at h
    subst h
    exact ⟨fun _ h => (by cases h), fun _ _ => rfl⟩
  | i :: L, xs, h => by
    rw [List.mapM_cons] at h
    simp only [bind, Option.bind_eq_some_iff, pure, Option.some.injEq] at h
    obtain ⟨y, hy, ys, hys, rfl⟩ := h
    obtain ⟨h1, h2⟩ := mapM_cells he hc L ys hys
    obtain ⟨a, ea, rfl, wa⟩ := DataW.trod_int he hy
    have hw : 0 ≤ a ∧ a ≤ 255 := by simpa [Lit.wf, IntKind.min, IntKind.max, IntKind.signed, IntKind.bits] using wa
    have hb : a = ((UInt8.ofNat a.toNat).toNat : Int) := by simp; omega
    rw [hc, Nat.mul_one] at ea
    have hi : cs[i]? = some (.int .u8 a) := by
      have := congrArg (·[0]?) ea
      simpa using this
    refine ⟨fun j hj => ?_, fun F hF => ?_⟩
    · rcases List.mem_cons.1 hj with rfl | hj
      · exact ⟨UInt8.ofNat a.toNat, by rw [hi]; unfold byteV; rw [← hb]⟩
      · exact h1 j hj
    · have hfi := hF i (List.mem_cons_self ..)
      rw [hi] at hfi
      have e2 : a = ((F i).toNat : Int) := by simpa [byteV] using hfi
      rw [h2 F (fun j hj => hF j (List.mem_cons_of_mem _ hj)), List.map_cons, ← e2]
theorem mapM_bytes (he : P.underlying e = some (.int .u8)) (hc : P.cellsOf e = 1) (F : Nat → UInt8) {cs : List Value} : ∀ (L : List Nat), (∀ i ∈ L, cs[i]? = some (byteV (F i))) →
    L.mapM (fun i => DataW.trod enc P W base sp held 1 e ((cs.drop (i * P.cellsOf e)).take (P.cellsOf e))) = some (L.map (fun i => (.lit (.int .u8 ((F i).toNat : Int)), [])))
  | [], _ => rfl
  | i :: L, h => by
    rw [List.mapM_cons, mapM_bytes he hc F L (fun j hj => h j (List.mem_cons_of_mem _ hj))]
    have hi := h i (List.mem_cons_self ..)
    have hw : (Lit.int .u8 ((F i).toNat : Int)).wf = true := by
      have := (F i).toNat_lt
      simp [Lit.wf, IntKind.min, IntKind.max, IntKind.signed, IntKind.bits]; omega
    have ht : (cs.drop (i * P.cellsOf e)).take (P.cellsOf e) = [.int .u8 ((F i).toNat : Int)] := by
      rw [hc, Nat.mul_one]
      obtain ⟨h1, h2⟩ := List.getElem?_eq_some_iff.1 hi
      rw [List.drop_eq_getElem_cons h1, h2]; rfl
    rw [ht, trod_int_mk 0 he hw]
    rfl

/-- The datum of an array of bytes. -/
def bytesD {H : Type} (n : Nat) (F : Nat → UInt8) : DataW H := .agg ((List.range n).map fun i => .lit (.int .u8 ((F i).toNat : Int)))

def byteOf : Option Value → UInt8
  | some (.int _ a) => UInt8.ofNat a.toNat
  | _ => 0
theorem byteOf_v (b : UInt8) : byteOf (some (byteV b)) = b := by simp [byteOf, byteV]

theorem open_bytes (hu : P.underlying k = some (.array n e)) (hn : P.cellsOf k = n) (he : P.underlying e = some (.int .u8)) (hc : P.cellsOf e = 1) {r : Reach} {b0 : Nat} {v : Value} {d : DataW H} {ps : List MemPlace}
    (hval : Value.okWide P W r b0 k v) (hd : DataW.Trod enc P W base sp held k v d ps) :
    ∃ F : Nat → UInt8, v = .agg (arrL n (fun j => byteV (F j))).toArray ∧ d = bytesD n F ∧ ps = [] := by
  simp only [Value.okWide, hu] at hval
  obtain ⟨cs, rfl, h2, _⟩ := hval
  obtain ⟨fuel, hf⟩ := hd
  cases fuel with
  | zero => simp [DataW.trod] at hf
  | succ m =>
    rw [DataW.trod_step] at hf
    unfold DataW.trodStep at hf
    simp only [hu, Value.cells] at hf
    rw [if_pos (by simpa using h2)] at hf
    simp only [Option.map_eq_some_iff] at hf
    obtain ⟨ys, hy, e1⟩ := hf
    obtain ⟨h3, h4⟩ := mapM_cells he hc _ ys hy
    have hF : ∃ F : Nat → UInt8, ∀ i ∈ List.range n, cs.toList[i]? = some (byteV (F i)) := ⟨fun i => byteOf cs.toList[i]?, fun i hi => by
      obtain ⟨b, hb⟩ := h3 i hi
      show _ = some (byteV (byteOf cs.toList[i]?))
      rw [hb, byteOf_v]⟩
    obtain ⟨F, hF⟩ := hF
    have h5 := h4 F hF
    simp only [Prod.mk.injEq] at e1
    refine ⟨F, ?_, ?_, ?_⟩
    · congr 1
      apply Array.toList_inj.1
      apply List.ext_getElem? 
      intro i
      by_cases hi : i < n
      · rw [hF i (List.mem_range.2 hi), show (arrL n (fun j => byteV (F j))).toArray.toList = arrL n (fun j => byteV (F j)) by simp, arrL_get _ _ _ hi]
      · rw [List.getElem?_eq_none (by simp; omega), List.getElem?_eq_none (by simp [arrL]; omega)]
    · rw [← e1.1, h5]; simp [bytesD, Function.comp_def]
    · rw [← e1.2, h5]; simp [List.flatMap_eq_nil_iff]

theorem shut_bytes (hu : P.underlying k = some (.array n e)) (hn : P.cellsOf k = n) (he : P.underlying e = some (.int .u8)) (hc : P.cellsOf e = 1) (F : Nat → UInt8) :
    DataW.Trod enc P W base sp held k (.agg (arrL n (fun j => byteV (F j))).toArray) (bytesD n F) [] := by
  refine ⟨2, ?_⟩
  rw [DataW.trod_step]
  unfold DataW.trodStep
  simp only [hu, Value.cells]
  rw [if_pos (by simp [arrL, hn]), mapM_bytes he hc F _ (fun i hi => by exact arrL_get _ _ _ (List.mem_range.1 hi))]
  simp [bytesD, Function.comp_def, List.flatMap_eq_nil_iff]
end
end Go.Proofs.Ytndpdledhjdfeaa
