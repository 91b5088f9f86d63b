/- Arguments that are slices: opened to their cells, and read again behind a call that only lays new blocks. -/
import Derived.ProofKit
import Derived.ReadAgain
import Derived.ChangeStays
import Derived.ChangeSlices
import Derived.Deep.SlicePairs
import Derived.Below
namespace Go.Proofs.YtpkkdjmcabefbaaDoor
open Go.ChangeShapes Go.WideShapes Go.RowKit Go.Deep

section
variable {H : Type} {enc : TypeId × Value → H} {P : Program} {W W' : World}

theorem sameAt_below {B : Nat} (hb : Below B W W') (p : MemPlace) (hp : p.block < B) : W.sameAt W' p := by
  cases p with
  | cell b o => exact World.cell?_of_block (w := W) (hb.block b hp)
  | map b => exact hb.block b hp

/-- What was handed in reads as it did, where all that lay there lies there. -/
theorem trodAll_stay (K : Kids P (· < P.types.size)) (hz : ∀ t e, t < P.types.size → P.underlying t = some (.slice e) → 0 < P.cellsOf e) {sp : Nat → Bool} {B : Nat} (hb : Below B W W') :
    ∀ {ts : List TypeId} {vs : List Value} {ds : List (DataW H)} {ps : List MemPlace}, (∀ t ∈ ts, t < P.types.size) → DataW.TrodAll enc P W 0 (fun _ => true) true ts vs ds ps → (∀ p ∈ ps, p.block < B ∧ sp p.block = true) →
      DataW.TrodAll enc P W' 0 sp true ts vs ds ps
  | [], [], [], _, _, h, _ => h
  | _ :: _, _ :: _, _ :: _, _, hT, ⟨p, q, ⟨n, hn⟩, h2, e⟩, hs =>
    ⟨p, q, ⟨n, DataW.trod_stays K (fun ht hu => hz _ _ ht hu) (fun h => by cases h) (hT _ (List.mem_cons.2 (Or.inl rfl))) hn (fun x hx => sameAt_below hb x (hs x (by rw [e]; exact List.mem_append_left _ hx)).1) (fun x hx => (hs x (by rw [e]; exact List.mem_append_left _ hx)).2)⟩,
      trodAll_stay K hz hb (fun t ht => hT t (List.mem_cons.2 (Or.inr ht))) h2 (fun x hx => hs x (by rw [e]; exact List.mem_append_right _ hx)), e⟩

/-- The slice's cells: each is a byte. -/
def U8s (w : World) (la : Option Addr) (ln : Nat) : Prop := ∀ i, i < ln → ∃ (g o z : Nat), la = some ⟨g, o, none⟩ ∧ g < w.heap.size ∧ z ≤ 255 ∧ w.cell? ⟨g, o + i, none⟩ = some (.int .u8 z)

theorem spot_none {a : Addr} {v : Value} (h : W.cell? a = some v) : ∃ g o, a = ⟨g, o, none⟩ := by
  obtain ⟨g, o, s⟩ := a
  cases s with
  | none => exact ⟨g, o, rfl⟩
  | some q =>
    unfold World.cell? at h
    split at h <;> simp at h
theorem add_spot (g o i : Nat) : (⟨g, o, none⟩ : Addr).add i = ⟨g, o + i, none⟩ := by
  unfold Addr.add; split
  · rename_i h; subst h; rfl
  · rfl
theorem spot_of {a : Addr} {i : Nat} {v : Value} (hi : i = 0) (h : W.cell? (a.add i) = some v) : ∃ g o, a = ⟨g, o, none⟩ := by
  subst hi
  exact spot_none (by simpa [Addr.add] using h)

theorem open_u8s {t e : TypeId} {v : Value} {d : DataW H} {ps : List MemPlace} (ht : P.underlying t = some (.slice e)) (he : P.underlying e = some (.int .u8)) (hc : P.cellsOf e = 1)
    (hv : ∃ a n c, v = .slice a n c) (h : DataW.Trod enc P W 0 (fun _ => true) true t v d ps) : ∃ la ln lc, v = .slice la ln lc ∧ ln ≤ maxLen ∧ U8s W la ln := by
  obtain ⟨a0, n0, c0, rfl⟩ := hv
  obtain ⟨fuel, hf⟩ := h
  rcases open_ints ht he hc hf with ⟨hcs, _⟩ | ⟨a, len, cap, zs, hcs, _, hl, hm, hz, _, hcell, hwz⟩
  · simp [Value.cells] at hcs
    obtain ⟨rfl, rfl, rfl⟩ := hcs
    exact ⟨none, 0, 0, rfl, by omega, fun i hi => by omega⟩
  · simp [Value.cells] at hcs
    obtain ⟨rfl, rfl, rfl⟩ := hcs
    simp only [if_true] at hz
    refine ⟨_, _, _, rfl, by omega, fun i hi => ?_⟩
    obtain ⟨g, o, rfl⟩ := spot_of rfl (hcell 0 (by omega))
    have h1 := hcell i (by omega)
    rw [add_spot] at h1
    have h2 : zs.getD i 0 ∈ zs := by rw [List.getD_eq_getElem?_getD, List.getElem?_eq_getElem (by omega)]; simp
    have h3 := hwz _ h2
    have h4 : 0 ≤ zs.getD i 0 ∧ zs.getD i 0 ≤ 255 := by simpa [Lit.wf, IntKind.min, IntKind.max, IntKind.signed, IntKind.bits] using h3
    refine ⟨g, o, (zs.getD i 0).toNat, rfl, World.block_lt_of_cell? W _ h1, by omega, ?_⟩
    rw [h1, Int.toNat_of_nonneg h4.1]

/-- The slice's cells: each element is two integers. -/
def Pairs (w : World) (la : Option Addr) (ln : Nat) : Prop := ∀ i, i < ln → ∃ (g o : Nat) (x y : Int), la = some ⟨g, o, none⟩ ∧ g < w.heap.size ∧ w.cell? ⟨g, o + i * 2, none⟩ = some (.int .i64 x) ∧ w.cell? ⟨g, o + i * 2 + 1, none⟩ = some (.int .i64 y)
theorem open_pairs64 {t e : TypeId} {f0 f1 : Field} {v : Value} {d : DataW H} {ps : List MemPlace} (ht : P.underlying t = some (.slice e)) (he : P.underlying e = some (.struct #[f0, f1]))
    (ce : P.cellsOf e = 2) (o0 : f0.offset = 0) (o1 : f1.offset = 1) (c0 : P.cellsOf f0.type = 1) (c1 : P.cellsOf f1.type = 1) (u0 : P.underlying f0.type = some (.int .i64)) (u1 : P.underlying f1.type = some (.int .i64))
    (hv : ∃ a n c, v = .slice a n c) (h : DataW.Trod enc P W 0 (fun _ => true) true t v d ps) : ∃ la ln lc, v = .slice la ln lc ∧ ln ≤ maxLen ∧ Pairs W la ln := by
  obtain ⟨a0, n0, c00, rfl⟩ := hv
  obtain ⟨fuel, hf⟩ := h
  rcases open_slice_pairs ht he ce o0 o1 c0 c1 hf with ⟨hcs, _⟩ | ⟨a, len, cap, m, n, V0, V1, D0, D1, P0, P1, hcs, _, hl, hm, hmm, _, hcell⟩
  · simp [Value.cells] at hcs
    obtain ⟨rfl, rfl, rfl⟩ := hcs
    exact ⟨none, 0, 0, rfl, by omega, fun i hi => by omega⟩
  · simp [Value.cells] at hcs
    obtain ⟨rfl, rfl, rfl⟩ := hcs
    simp only [if_true] at hmm
    refine ⟨_, _, _, rfl, by omega, fun i hi => ?_⟩
    obtain ⟨g, o, rfl⟩ := spot_of (by omega) (hcell 0 (by omega)).1
    obtain ⟨h1, h2, h3, h4⟩ := hcell i (by omega)
    rw [add_spot] at h1 h2
    obtain ⟨x, e1, _, _⟩ := DataW.trod_int u0 h3
    obtain ⟨y, e2, _, _⟩ := DataW.trod_int u1 h4
    refine ⟨g, o, x, y, rfl, World.block_lt_of_cell? W _ h1, ?_, ?_⟩
    · rw [h1]; simpa using e1
    · rw [Nat.add_assoc, h2]; simpa using e2
end
end Go.Proofs.YtpkkdjmcabefbaaDoor
