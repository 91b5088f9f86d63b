/- net: what is on its way, in memory. -/
import Derived.Test.YtgdlnjhbencjkaaNEnt
namespace Go.Proofs.Ytgdlnjhbencjkaa
open Go.RowKit

/-- The cells of parcels: each a number, and where its message lies. -/
def parC (q : List (Nat × Nat)) : List Value := q.flatMap fun x => [.int .u64 (x.1 : Int), .pointer (some ⟨x.2, 0, none⟩)]
theorem parC_append (a b : List (Nat × Nat)) : parC (a ++ b) = parC a ++ parC b := List.flatMap_append ..
theorem parC_length (l : List (Nat × Nat)) : (parC l).length = l.length * 2 := by
  induction l with
  | nil => rfl
  | cons x l ih => simp only [parC, List.flatMap_cons, List.length_append, List.length_cons, List.length_nil] at ih ⊢; omega
theorem parC_get : ∀ (l : List (Nat × Nat)) (i : Nat) (x : Nat × Nat), l[i]? = some x → (parC l)[i * 2]? = some (.int .u64 (x.1 : Int)) ∧ (parC l)[i * 2 + 1]? = some (.pointer (some ⟨x.2, 0, none⟩))
  | [], _, _, h => by cases h
  | y :: l, 0, x, h => by
    obtain rfl : y = x := by simpa using h
    exact ⟨rfl, rfl⟩
  | y :: l, i + 1, x, h => by
    have := parC_get l i x (by simpa using h)
    have e : (parC (y :: l)) = .int .u64 (y.1 : Int) :: .pointer (some ⟨y.2, 0, none⟩) :: parC l := rfl
    rw [e, show (i + 1) * 2 = i * 2 + 1 + 1 by omega]
    exact this
theorem parC_one (l : List (Nat × Nat)) : ∀ u ∈ parC l, u.oneCell' = true := by
  intro u hu
  simp only [parC, List.mem_flatMap, List.mem_cons, List.not_mem_nil, or_false] at hu
  obtain ⟨x, _, rfl | rfl⟩ := hu <;> rfl
theorem parC_take : ∀ (l : List (Nat × Nat)) (k : Nat), parC (l.take k) = (parC l).take (k * 2)
  | [], k => by simp [parC]
  | x :: l, 0 => by simp [parC]
  | x :: l, k + 1 => by
    have e : (parC (x :: l)) = .int .u64 (x.1 : Int) :: .pointer (some ⟨x.2, 0, none⟩) :: parC l := rfl
    have e2 : (parC (x :: l.take k)) = .int .u64 (x.1 : Int) :: .pointer (some ⟨x.2, 0, none⟩) :: parC (l.take k) := rfl
    rw [List.take_succ_cons, e2, e, show (k + 1) * 2 = k * 2 + 1 + 1 by omega, List.take_succ_cons, List.take_succ_cons, parC_take l k]
theorem parC_drop : ∀ (l : List (Nat × Nat)) (k : Nat), parC (l.drop k) = (parC l).drop (k * 2)
  | [], k => by simp [parC]
  | x :: l, 0 => by simp
  | x :: l, k + 1 => by
    have e : (parC (x :: l)) = .int .u64 (x.1 : Int) :: .pointer (some ⟨x.2, 0, none⟩) :: parC l := rfl
    rw [List.drop_succ_cons, e, show (k + 1) * 2 = k * 2 + 1 + 1 by omega, List.drop_succ_cons, List.drop_succ_cons, parC_drop l k]

theorem Try.parSl : SlN Try.prog 61 70 (.agg #[.int .u64 0, .pointer none]) 2 16 := ⟨Try.underlying61, by kernel_rfl, rfl, by decide⟩

/-- The slice's elements are these parcels; it may be written up to its capacity. -/
def WSl (w : World) (v : Value) (q : List (Nat × Nat)) : Prop := (v = .slice none 0 0 ∧ q = []) ∨
  ∃ g o cap cur, v = .slice (some ⟨g, o * 2, none⟩) q.length cap ∧ w.heap[g]? = some (.cells cur 70 (0, 0)) ∧ q.length ≤ cap ∧ cap ≤ maxLen ∧ (o + cap) * 2 ≤ cur.size ∧ ∀ j u, (parC q)[j]? = some u → cur[o * 2 + j]? = some u
theorem WSl.nil (w : World) : WSl w (.slice none 0 0) [] := .inl ⟨rfl, rfl⟩
theorem WSl.mv {w w' : World} {v : Value} {q : List (Nat × Nat)} (h : WSl w v q) (hb : ∀ k, v.ownBlock = some k → w'.heap[k]? = w.heap[k]?) : WSl w' v q := by
  rcases h with h | ⟨g, o, cap, cur, hv, hg, r⟩
  · exact .inl h
  · exact .inr ⟨g, o, cap, cur, hv, by rw [hb g (by rw [hv]; rfl)]; exact hg, r⟩
theorem WSl.typ {w : World} {v : Value} {q : List (Nat × Nat)} (h : WSl w v q) : ∀ k, v.ownBlock = some k → ∃ cur, w.heap[k]? = some (.cells cur 70 (0, 0)) := by
  intro k hk
  rcases h with ⟨rfl, _⟩ | ⟨g, o, cap, cur, rfl, hg, _⟩
  · simp [Value.ownBlock] at hk
  · have : g = k := by simpa [Value.ownBlock] using hk
    subst this
    exact ⟨cur, hg⟩
theorem WSl.lt {w : World} {v : Value} {q : List (Nat × Nat)} (h : WSl w v q) : ∀ k, v.ownBlock = some k → k < w.heap.size := fun k hk => by
  obtain ⟨_, h⟩ := h.typ k hk
  exact block_lt h
theorem WSl.shape {w : World} {v : Value} {q : List (Nat × Nat)} (h : WSl w v q) : ∃ a c, v = .slice a q.length c := by
  rcases h with ⟨rfl, rfl⟩ | ⟨g, o, cap, cur, rfl, _⟩
  · exact ⟨_, _, rfl⟩
  · exact ⟨_, _, rfl⟩
theorem WSl.cells {w : World} {v : Value} {q : List (Nat × Nat)} (h : WSl w v q) (i : Nat) (x : Nat × Nat) (hx : q[i]? = some x) :
    ∃ g o cap, v = .slice (some ⟨g, o * 2, none⟩) q.length cap ∧ w.cell? ⟨g, o * 2 + i * 2, none⟩ = some (.int .u64 (x.1 : Int)) ∧ w.cell? ⟨g, o * 2 + i * 2 + 1, none⟩ = some (.pointer (some ⟨x.2, 0, none⟩)) := by
  rcases h with ⟨_, rfl⟩ | ⟨g, o, cap, cur, hv, hg, _, _, _, hc⟩
  · cases hx
  · obtain ⟨h1, h2⟩ := parC_get q i x hx
    refine ⟨g, o, cap, hv, ?_, ?_⟩
    · simp [World.cell?, hg, hc _ _ h1]
    · simp [World.cell?, hg, Nat.add_assoc, hc _ _ h2]
theorem WSl.ofOwn {w : World} {B : Nat} {v : Value} {q : List (Nat × Nat)} (h : w.ownsRow B 70 2 v q.length (parC q)) : WSl w v q := by
  rcases h.2 with ⟨h1, h2⟩ | ⟨g, cap, cur, hv, hB, hg, hn, hm, hs, ht⟩
  · exact .inl ⟨h1, List.eq_nil_of_length_eq_zero h2⟩
  · refine .inr ⟨g, 0, cap, cur, by simpa using hv, hg, hn, hm, by omega, fun j u hu => ?_⟩
    rw [← ht, List.getElem?_take] at hu
    split at hu
    · simpa using hu
    · cases hu

/-- The block behind a row of stores. -/
theorem setCells_get {w : World} {g o : Nat} {vs : List Value} {cur : Array Value} {t : TypeId} (h : w.heap[g]? = some (.cells cur t (0, 0))) (hl : o + vs.length ≤ cur.size) :
    ∃ cur', (w.setCells g o vs).heap[g]? = some (.cells cur' t (0, 0)) ∧ cur'.size = cur.size ∧ (∀ j, cur'[j]? = if o ≤ j ∧ j < o + vs.length then vs[j - o]? else cur[j]?) ∧ Only g w (w.setCells g o vs) := by
  obtain ⟨q1, q2⟩ := setCells_heap vs w g o cur t h hl
  have hcl : cur.toList.length = cur.size := Array.length_toList
  obtain ⟨C, hC⟩ : ∃ C, cur.toList = C := ⟨_, rfl⟩
  have hCg : ∀ j, C[j]? = cur[j]? := fun j => by rw [← hC, Array.getElem?_toList]
  rw [hC] at hcl q1
  refine ⟨_, q1, ?_, fun j => ?_, q2⟩
  · simp only [List.size_toArray, List.length_append, List.length_take, List.length_drop]; omega
  · rw [List.getElem?_toArray, ← hCg]
    by_cases h1 : o ≤ j
    · by_cases h2 : j < o + vs.length
      · rw [if_pos ⟨h1, h2⟩, List.getElem?_append_left (by rw [List.length_append, List.length_take]; omega), List.getElem?_append_right (by rw [List.length_take]; omega), List.length_take, Nat.min_eq_left (by omega)]
      · rw [if_neg (by omega), List.getElem?_append_right (by rw [List.length_append, List.length_take]; omega), List.length_append, List.length_take, Nat.min_eq_left (by omega), List.getElem?_drop, show o + vs.length + (j - (o + vs.length)) = j by omega]
    · rw [if_neg (by omega), List.append_assoc, List.getElem?_append_left (by rw [List.length_take]; omega), List.getElem?_take, if_pos (by omega)]
theorem Grew.ofOnlyW {g : Nat} {o o' : Nat} {n n' c c' : Nat} {w w' : World} (h : Only g w w') : Grew w (.slice (some ⟨g, o, none⟩) n c) w' (.slice (some ⟨g, o', none⟩) n' c') :=
  ⟨⟨h.os, h.tape, h.output, h.size, fun k hk hne => h.block k hk (fun e => hne (by rw [e]; rfl))⟩, fun _ h => .inl h⟩

/-- append of one parcel that was laid just now. -/
theorem run_wapp {w : World} {v : Value} {q : List (Nat × Nat)} (ty : TypeId) (h : WSl w v q) (g0 c n b : Nat) (hblk : w.heap[g0]? = some (.cells #[.int .u64 (n : Int), .pointer (some ⟨b, 0, none⟩)] 70 (0, 0))) (hl : q.length ≤ 1000000) :
    ∃ v' w', (Builtin.append_ #[61, 61] ty #[v, .slice (some ⟨g0, 0, none⟩) 1 c]).run Try.prog w = .ok v' w' ∧ WSl w' v' (q ++ [(n, b)]) ∧ Grew w v w' v' := by
  obtain ⟨i, hi, hz, hsz, hby⟩ := info_parts Try.parSl.info
  have hnews : ∀ j u, (parC [(n, b)])[j]? = some u → w.cell? ((⟨g0, 0, none⟩ : Addr).add j) = some u := World.news_of_block hblk
  rcases id h with ⟨rfl, rfl⟩ | ⟨g, o, cap, cur, rfl, hg, h1, h2, h3, h4⟩
  · obtain ⟨g, cap, w', hr, ho, hgr, hat, _⟩ := run_append_lies (P := Try.prog) w 61 ty 0 70 i _ 2 16 Try.parSl.und hi hz hsz hby rfl (by decide) _ 0 [] (World.ownsRow_nil _ _ _ _) ⟨g0, 0, none⟩ 1 c (parC [(n, b)]) rfl hnews (parC_one _) (by decide) (by decide) (by decide) (Nat.zero_le _) _ rfl
    refine ⟨_, w', hr, .ofOwn (q := [(n, b)]) ho, hgr, fun k hk => ?_⟩
    rcases hat with hat | hat
    · simp [Value.ownBlock] at hat
    · have : g = k := by simpa [Value.ownBlock] using hk
      right; omega
  · by_cases hroom : q.length + 1 ≤ cap
    · have hr := run_append_room_cells (P := Try.prog) w 61 ty 70 i Try.parSl.und hi g (o * 2) q.length cap ⟨g0, 0, none⟩ 1 c (parC [(n, b)]) (by rw [hsz]; rfl) hnews (parC_one _) hroom
        (fun j hj => by
          have hj : j < 2 := hj
          have : o * 2 + q.length * i.size + j < cur.size := by rw [hsz]; omega
          simp [World.cell?, hg, this]) (fun j _ => by simp [World.frozen?, hg])
      rw [hsz] at hr
      obtain ⟨cur', e1, e2, e3, e4⟩ := setCells_get (vs := parC [(n, b)]) (o := o * 2 + q.length * 2) hg (by show _ + 2 ≤ _; omega)
      refine ⟨_, _, hr, .inr ⟨g, o, cap, cur', by rw [List.length_append]; rfl, e1, by rw [List.length_append]; exact hroom, h2, by omega, fun j u hu => ?_⟩, Grew.ofOnlyW e4⟩
      rw [e3]
      rw [parC_append] at hu
      by_cases hj : j < (parC q).length
      · rw [List.getElem?_append_left hj] at hu
        rw [parC_length] at hj
        rw [if_neg (by omega)]
        exact h4 j u hu
      · rw [List.getElem?_append_right (by omega)] at hu
        rw [parC_length] at hu hj
        have hlt := (List.getElem?_eq_some_iff.1 hu).1
        rw [if_pos ⟨by omega, by omega⟩, show o * 2 + j - (o * 2 + q.length * 2) = j - q.length * 2 by omega]
        exact hu
    · obtain ⟨v', w', hr, ho, hgr⟩ := run_append_arg_grows (P := Try.prog) w 61 ty 70 i _ 2 16 Try.parSl.und hi hz hsz hby rfl (by decide) ⟨g, o * 2, none⟩ q.length cap (parC q) (parC_length q)
        (fun j u hu => by
          have := h4 j u hu
          have e : (⟨g, o * 2, none⟩ : Addr).add j = ⟨g, o * 2 + j, none⟩ := by
            unfold Addr.add; split
            · rename_i h0; subst h0; rfl
            · rfl
          rw [e]
          simp [World.cell?, hg, this]) ⟨g0, 0, none⟩ 1 c (parC [(n, b)]) rfl hnews (by omega) (by unfold maxLen; omega) (by omega)
      refine ⟨v', w', hr, .ofOwn (q := q ++ [(n, b)]) (by rw [List.length_append, parC_append]; exact ho), ⟨⟨hgr.os, hgr.tape, hgr.output, hgr.size, fun k hk _ => hgr.block k hk (by simp)⟩, fun k hk => .inr (ownN_low ho k hk)⟩⟩
theorem step_wapp {ops : Array Oper} {o : Oper} {a : Act} {K : Act → World → Prop} {Q : Exit → Act → World → Prop} {E : Prop} {w : World} (hgd : o.guard = none) (s x : Operand)
    (ho : o.op = .call { callee := .builtin .append, args := #[s, x], argTypes := #[61, 61] })
    (v : Value) (q : List (Nat × Nat)) (hs : a.eval s = v) (h : WSl w v q) (g0 c n b : Nat) (hx : a.eval x = .slice (some ⟨g0, 0, none⟩) 1 c) (hblk : w.heap[g0]? = some (.cells #[.int .u64 (n : Int), .pointer (some ⟨b, 0, none⟩)] 70 (0, 0))) (hl : q.length ≤ 1000000)
    (hk : ∀ v' w', WSl w' v' (q ++ [(n, b)]) → Grew w v w' v' → K (a.put o.dst v') w') :
    if Region.wanted o (yielded ops a.tmps) = true then Oper.wp Try.prog o a w K Q else E := by
  have hw : Region.wanted o (yielded ops a.tmps) = true := by simp [Region.wanted, hgd]
  rw [if_pos hw]
  obtain ⟨v', w', hr, h1, h2⟩ := run_wapp o.type h g0 c n b hblk hl
  unfold Oper.wp execOp
  simp only [ho, resolve, invoke, builtin, Sem.run_bind, Sem.run_pure, Result.andThen_ok, List.map_toArray, List.map_cons, List.map_nil, hs, hx, hr]
  exact hk v' w' h1 h2

/-- A message lies at that block. -/
def MAt (w : World) (b : Nat) (m : Mg) : Prop := ∃ ev, w.heap[b]? = some (.cells (mgL m ev).toArray 32 (0, 0)) ∧ EOwn w 0 ev m.ents
theorem EOwn.typ {w : World} {v : Value} {B : Nat} {E : List Ent} (h : EOwn w B v E) : ∀ k, v.ownBlock = some k → ∃ cur, w.heap[k]? = some (.cells cur 60 (0, 0)) := by
  intro k hk
  rcases h.2 with ⟨rfl, _⟩ | ⟨g, cap, cur, rfl, _, hg, _⟩
  · simp [Value.ownBlock] at hk
  · have : g = k := by simpa [Value.ownBlock] using hk
    subst this
    exact ⟨cur, hg⟩
/-- From w to w' only the net's block and that of its row have turned. -/
structure NCh (nb : Nat) (v : Value) (w w' : World) (v' : Value) : Prop where
  os : w'.os = w.os
  tape : w'.tape = w.tape
  output : w'.output = w.output
  size : w.heap.size ≤ w'.heap.size
  block : ∀ j, j < w.heap.size → j ≠ nb → v.ownBlock ≠ some j → w'.heap[j]? = w.heap[j]?
  loc : ∀ j, v'.ownBlock = some j → v.ownBlock = some j ∨ w.heap.size ≤ j
/-- A net in memory: the messages on their way, each with its number; how many there were. -/
structure NW (w : World) (nb : Nat) (v : Value) (all : Nat) (l : List (Nat × Mg)) : Prop where
  net : w.heap[nb]? = some (.cells #[v, .int .u64 (all : Int)] 63 (0, 0))
  way : ∃ q : List (Nat × Nat), WSl w v q ∧ q.length = l.length ∧ ∀ (i : Nat) (x : Nat × Nat), q[i]? = some x → ∃ m, l[i]? = some (x.1, m) ∧ MAt w x.2 m
section
variable {w w' : World} {nb : Nat} {v v' : Value} {all : Nat} {l : List (Nat × Mg)}
theorem ty_ne {w : World} {a b : Nat} {c1 c2 : Array Value} {t1 t2 : TypeId} {f1 f2 : Nat × Nat} (h1 : w.heap[a]? = some (.cells c1 t1 f1)) (h2 : w.heap[b]? = some (.cells c2 t2 f2)) (hne : t1 ≠ t2) : a ≠ b := fun e => by
  rw [e, h2] at h1
  injection h1 with h1
  injection h1 with _ h1 _
  exact hne h1.symm
theorem MAt.mv {b : Nat} {m : Mg} (h : MAt w b m) (hb : ∀ (j : Nat) (c : Array Value), w.heap[j]? = some (.cells c 32 (0, 0)) → w'.heap[j]? = w.heap[j]?) (he : ∀ (j : Nat) (c : Array Value), w.heap[j]? = some (.cells c 60 (0, 0)) → w'.heap[j]? = w.heap[j]?) : MAt w' b m := by
  obtain ⟨ev, h1, h2⟩ := h
  exact ⟨ev, by rw [hb _ _ h1]; exact h1, h2.mv fun k hk => by obtain ⟨c, hc⟩ := h2.typ k hk; exact he k c hc⟩
theorem MAt.later {b : Nat} {m : Mg} (h : MAt w b m) (hb : Below w.heap.size w w') : MAt w' b m := h.mv (fun _ _ h => hb.block _ (block_lt h)) (fun _ _ h => hb.block _ (block_lt h))
theorem NW.lt (h : NW w nb v all l) : nb < w.heap.size := block_lt h.net
theorem NW.later (h : NW w nb v all l) (hb : Below w.heap.size w w') : NW w' nb v all l := by
  obtain ⟨q, h1, h2, h3⟩ := h.way
  exact ⟨(hb.block _ h.lt).trans h.net, q, h1.mv fun k hk => hb.block k (h1.lt k hk), h2, fun i x hx => by obtain ⟨m, e1, e2⟩ := h3 i x hx; exact ⟨m, e1, e2.later hb⟩⟩
theorem NCh.refl (nb : Nat) (v : Value) (w : World) : NCh nb v w w v := ⟨rfl, rfl, rfl, Nat.le_refl _, fun _ _ _ _ => rfl, fun _ h => .inl h⟩
theorem NCh.ofBelow (nb : Nat) (v : Value) (h : Below w.heap.size w w') : NCh nb v w w' v := ⟨h.os, h.tape, h.output, h.size, fun j hj _ _ => h.block j hj, fun _ h => .inl h⟩
theorem NCh.trans {w1 w2 w3 : World} {v1 v2 v3 : Value} (h : NCh nb v1 w1 w2 v2) (k : NCh nb v2 w2 w3 v3) : NCh nb v1 w1 w3 v3 :=
  ⟨k.os.trans h.os, k.tape.trans h.tape, k.output.trans h.output, Nat.le_trans h.size k.size,
   fun j hj h1 h2 => (k.block j (Nat.lt_of_lt_of_le hj h.size) h1 (fun e => by
     rcases h.loc j e with e2 | e2
     · exact h2 e2
     · omega)).trans (h.block j hj h1 h2),
   fun j hj => by
     rcases k.loc j hj with e | e
     · exact h.loc j e
     · exact .inr (Nat.le_trans h.size e)⟩
theorem NCh.below {B : Nat} (h : NCh nb v w w' v') (hn : B ≤ nb) (hv : ∀ j, v.ownBlock = some j → B ≤ j) (hw : B ≤ w.heap.size) : Below B w w' :=
  ⟨h.os, h.tape, h.output, h.size, fun j hj => h.block j (by omega) (by omega) (fun e => by have := hv j e; omega)⟩
theorem NW.far (h : NW w nb v all l) : v.ownBlock ≠ some nb := fun e => by
  obtain ⟨q, h1, _⟩ := h.way
  obtain ⟨cur, hc⟩ := h1.typ nb e
  exact ty_ne h.net hc (by decide) rfl
/-- What lies in messages and entries stays. -/
theorem NCh.msgs (hc : NCh nb v w w' v') (h : NW w nb v all l) (j : Nat) (c : Array Value) (t : TypeId) (hj : w.heap[j]? = some (.cells c t (0, 0))) (h1 : t ≠ 63) (h2 : t ≠ 70) : w'.heap[j]? = w.heap[j]? :=
  hc.block j (block_lt hj) (ty_ne hj h.net h1) (fun e => by
    obtain ⟨q, h3, _⟩ := h.way
    obtain ⟨cur, hk⟩ := h3.typ j e
    exact ty_ne hj hk h2 rfl)
theorem MAt.ch {b : Nat} {m : Mg} (h : MAt w b m) (hc : NCh nb v w w' v') (hn : NW w nb v all l) : MAt w' b m :=
  h.mv (fun j c hj => hc.msgs hn j c _ hj (by decide) (by decide)) (fun j c hj => hc.msgs hn j c _ hj (by decide) (by decide))
theorem NW.cells (h : NW w nb v all l) : w.cell? ⟨nb, 0, none⟩ = some v ∧ w.cell? ⟨nb, 1, none⟩ = some (.int .u64 (all : Int)) ∧ w.frozen? ⟨nb, 0, none⟩ = false ∧ w.frozen? ⟨nb, 1, none⟩ = false := by
  have h1 := h.net
  simp [World.cell?, World.frozen?, h1]
theorem NW.shape (h : NW w nb v all l) : ∃ a c, v = .slice a l.length c := by
  obtain ⟨q, h1, h2, _⟩ := h.way
  rw [← h2]; exact h1.shape
end
end Go.Proofs.Ytgdlnjhbencjkaa
