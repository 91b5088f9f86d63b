/- log: numbers as bytes, sums, the reader, records: as the program makes and reads them (pure). -/
import Derived.Test.YtfocljmjejniiaaDRow
namespace Go.Proofs.Ytfocljmjejniiaa
open Go.RowKit

abbrev Ent := Nat × ByteArray
def m64 : Nat := 18446744073709551616
/-- The k-th byte of a number, the highest first. -/
def nByte (n k : Nat) : UInt8 := UInt8.ofNat (n / 2 ^ (56 - 8 * k))
def numL (n : Nat) : List UInt8 := [nByte n 0, nByte n 1, nByte n 2, nByte n 3, nByte n 4, nByte n 5, nByte n 6, nByte n 7]
def beN (l : List UInt8) : Nat := l.foldl (fun n b => n * 256 + b.toNat) 0
theorem beN_numL (n : Nat) (h : n < m64) : beN (numL n) = n := by
  unfold m64 at h
  simp only [beN, numL, nByte, List.foldl_cons, List.foldl_nil, UInt8.toNat_ofNat', Nat.reduceMul, Nat.reduceSub, Nat.reducePow]
  omega
theorem beN_snoc (l : List UInt8) (b : UInt8) : beN (l ++ [b]) = beN l * 256 + b.toNat := by simp [beN]
theorem beN_lt (l : List UInt8) : beN l < 256 ^ l.length := by
  have key : ∀ (l : List UInt8) (a : Nat), l.foldl (fun n b => n * 256 + b.toNat) a < (a + 1) * 256 ^ l.length := by
    intro l
    induction l with
    | nil => intro a; simp
    | cons b l ih =>
      intro a
      have hb : b.toNat < 256 := UInt8.toNat_lt b
      have h1 : (a * 256 + b.toNat + 1) ≤ (a + 1) * 256 := by omega
      have h2 := ih (a * 256 + b.toNat)
      have h3 : (a * 256 + b.toNat + 1) * 256 ^ l.length ≤ ((a + 1) * 256) * 256 ^ l.length := Nat.mul_le_mul_right _ h1
      simp only [List.foldl_cons, List.length_cons, Nat.pow_succ]
      have h4 : (a + 1) * 256 * 256 ^ l.length = (a + 1) * (256 ^ l.length * 256) := by rw [Nat.mul_assoc, Nat.mul_comm 256]
      omega
  simpa [beN] using key l 0
theorem beN_m64 (l : List UInt8) (h : l.length ≤ 8) : beN l < m64 := by
  have h1 := beN_lt l
  have h2 : 256 ^ l.length ≤ 256 ^ 8 := Nat.pow_le_pow_right (by decide) h
  have h3 : (256 : Nat) ^ 8 = m64 := by decide
  omega

/-- The sum of bytes. -/
def fnvS (m : Int) (b : UInt8) : Int := IntKind.u64.wrap (bits BinOp.xor IntKind.u64 m (IntKind.u64.wrap (b.toNat : Int)) * 1099511628211)
def fnvI (l : List UInt8) : Int := l.foldl fnvS 14695981039346656037
theorem fnvI_snoc (l : List UInt8) (b : UInt8) : fnvI (l ++ [b]) = fnvS (fnvI l) b := by simp [fnvI]
theorem u64_range (x : Int) : 0 ≤ IntKind.u64.wrap x ∧ IntKind.u64.wrap x < 18446744073709551616 := by
  have e : IntKind.u64.wrap x = x % 18446744073709551616 := by simp [IntKind.wrap, IntKind.signed, IntKind.bits]
  rw [e]; omega
theorem fnvI_range (l : List UInt8) : 0 ≤ fnvI l ∧ fnvI l < 18446744073709551616 := by
  rcases List.eq_nil_or_concat l with rfl | ⟨l', b, rfl⟩
  · decide
  · rw [List.concat_eq_append, fnvI_snoc]; exact u64_range _
def fnv (s : ByteArray) : Nat := (fnvI s.data.toList).toNat
theorem fnv_int (s : ByteArray) : (fnv s : Int) = fnvI s.data.toList := by
  unfold fnv; have := fnvI_range s.data.toList; omega
theorem fnv_lt (s : ByteArray) : fnv s < m64 := by
  unfold fnv m64; have := fnvI_range s.data.toList; omega

def ofL (l : List UInt8) : ByteArray := ⟨l.toArray⟩
theorem ofL_size (l : List UInt8) : (ofL l).size = l.length := by simp [ofL, ByteArray.size]
theorem ofL_list (l : List UInt8) : (ofL l).data.toList = l := by simp [ofL]
theorem ofL_data (s : ByteArray) : ofL s.data.toList = s := by simp [ofL]
theorem data_len (s : ByteArray) : s.data.toList.length = s.size := Array.length_toList
theorem ofL_append (a b : List UInt8) : ofL (a ++ b) = ofL a ++ ofL b :=
  ByteArray.ext (by rw [ByteArray.data_append]; show (a ++ b).toArray = a.toArray ++ b.toArray; simp)
theorem ofL_extract (l : List UInt8) (i j : Nat) : (ofL l).extract i j = ofL ((l.take j).drop i) := by
  ext1; simp [ofL, ByteArray.data_extract, List.drop_take]
theorem ofL_inj {a b : List UInt8} (h : ofL a = ofL b) : a = b := by rw [← ofL_list a, h, ofL_list]

/-- A reader: what is left, and whether it was too short, or a sum was wrong. -/
structure RS where
  rest : ByteArray
  short : Bool
  wrong : Bool
def rBytes (r : RS) (n : Nat) : ByteArray × RS :=
  if r.short || decide (r.rest.size < n) then (⟨#[]⟩, ⟨r.rest, true, r.wrong⟩) else (r.rest.extract 0 n, ⟨r.rest.extract n r.rest.size, false, r.wrong⟩)
def rNumber (r : RS) : Nat × RS := (beN (rBytes r 8).1.data.toList, (rBytes r 8).2)
def rText (r : RS) : ByteArray × RS := rBytes (rNumber r).2 (rNumber r).1
def rEnts : Nat → RS → List Ent → List Ent × RS
  | 0, r, out => (out, r)
  | f + 1, r, out => if decide (r.rest.size = 0) || r.short then (out, r) else rEnts f (rText (rNumber r).2).2 (out ++ [((rNumber r).1, (rText (rNumber r).2).1)])
def rEntries (r : RS) : List Ent × RS := rEnts (r.rest.size + 1) r []
def rSealed (r : RS) (n : Nat) : ByteArray × RS :=
  ((rBytes r n).1, ⟨(rNumber (rBytes r n).2).2.rest, (rNumber (rBytes r n).2).2.short, (rNumber (rBytes r n).2).2.wrong || (!(rNumber (rBytes r n).2).2.short && !decide ((rNumber (rBytes r n).2).1 = fnv (rBytes r n).1))⟩)
def rRecord (r : RS) : (UInt8 × ByteArray) × RS :=
  if (rSealed r 9).2.short || (rSealed r 9).2.wrong then ((0, ⟨#[]⟩), (rSealed r 9).2)
  else (((rSealed r 9).1.data.getD 0 0, (rSealed (rSealed r 9).2 (rNumber ⟨(rSealed r 9).1.extract 1 (rSealed r 9).1.size, false, false⟩).1).1), (rSealed (rSealed r 9).2 (rNumber ⟨(rSealed r 9).1.extract 1 (rSealed r 9).1.size, false, false⟩).1).2)
def rEnded (r : RS) : Bool := decide (r.rest.size = 0) && !r.short

/-- What a log tells. -/
structure CT where
  term : Nat
  vote : Int
  base : Nat
  bterm : Nat
  state : ByteArray
  ents : List Ent
def fresh : CT := ⟨0, -1, 0, 0, ⟨#[]⟩, []⟩
def voteN (v : Int) : Nat := (IntKind.u64.wrap v).toNat
def voteZ (n : Nat) : Int := IntKind.i64.wrap (n : Int)
def CT.lastN (c : CT) : Nat := (c.base + c.ents.length) % m64
def CT.takes (c : CT) (behind n : Nat) : Bool := decide (c.base ≤ behind) && (decide (behind ≤ c.lastN) && decide (n ≤ 18446744073709551615 - behind))
def CT.votes (c : CT) (t : Nat) (v : Int) : Bool := decide (c.term ≤ t) && decide (-1 ≤ v)
def redoV (c : CT) (body : ByteArray) : Option CT :=
  if !rEnded (rNumber (rNumber ⟨body, false, false⟩).2).2 || !c.votes (rNumber ⟨body, false, false⟩).1 (voteZ (rNumber (rNumber ⟨body, false, false⟩).2).1) then none
  else some { c with term := (rNumber ⟨body, false, false⟩).1, vote := voteZ (rNumber (rNumber ⟨body, false, false⟩).2).1 }
def redoA (c : CT) (body : ByteArray) : Option CT :=
  if !rEnded (rEntries (rNumber ⟨body, false, false⟩).2).2 || !c.takes (rNumber ⟨body, false, false⟩).1 (rEntries (rNumber ⟨body, false, false⟩).2).1.length then none
  else some { c with ents := c.ents.take ((rNumber ⟨body, false, false⟩).1 - c.base) ++ (rEntries (rNumber ⟨body, false, false⟩).2).1 }
def redoC (c : CT) (kind : UInt8) (body : ByteArray) : Option CT := if kind = 249 then redoV c body else if kind = 250 then redoA c body else none
/-- The numbers ahead of the state, the state, the entries of a record of all. -/
def rAll (body : ByteArray) : CT × RS :=
  let a := rNumber ⟨body, false, false⟩
  let b := rNumber a.2
  let c := rNumber b.2
  let d := rNumber c.2
  let e := rText d.2
  let f := rEntries e.2
  (⟨a.1, voteZ b.1, c.1, d.1, e.1, f.1⟩, f.2)
def readAllC (body : ByteArray) : Option CT :=
  if !rEnded (rAll body).2 || (decide ((rAll body).1.vote < -1) || !{ (rAll body).1 with ents := [] }.takes (rAll body).1.base (rAll body).1.ents.length) then none else some (rAll body).1
def readLoop : Nat → CT → RS → Option CT
  | 0, c, _ => some c
  | f + 1, c, r => if r.rest.size = 0 then some c
    else if (rRecord r).2.short then (if r.rest.data.getD 0 0 = 249 ∨ r.rest.data.getD 0 0 = 250 then some c else none)
    else if (rRecord r).2.wrong then none
    else match redoC c (rRecord r).1.1 (rRecord r).1.2 with
      | none => none
      | some c' => readLoop f c' (rRecord r).2
def readC (s : ByteArray) : Option CT :=
  if s.size = 0 then some fresh
  else if (rRecord ⟨s, false, false⟩).2.wrong || ((rRecord ⟨s, false, false⟩).2.short || !decide ((rRecord ⟨s, false, false⟩).1.1 = 248)) then none
  else match readAllC (rRecord ⟨s, false, false⟩).1.2 with
    | none => none
    | some c => readLoop (s.size + 1) c (rRecord ⟨s, false, false⟩).2

/-! What is written -/
def textL (s : ByteArray) : List UInt8 := numL s.size ++ s.data.toList
def entsL (E : List Ent) : List UInt8 := E.flatMap fun x => numL x.1 ++ textL x.2
def sealL (s : ByteArray) : List UInt8 := s.data.toList ++ numL (fnv s)
def headB (k : UInt8) (n : Nat) : ByteArray := ofL (k :: numL n)
def recL (k : UInt8) (body : ByteArray) : List UInt8 := sealL (headB k body.size) ++ sealL body
def recB (k : UInt8) (body : ByteArray) : ByteArray := ofL (recL k body)
def voteB (t : Nat) (v : Int) : ByteArray := ofL (numL t ++ numL (voteN v))
def addB (behind : Nat) (E : List Ent) : ByteArray := ofL (numL behind ++ entsL E)
def bodyL (c : CT) : List UInt8 := numL c.term ++ (numL (voteN c.vote) ++ (numL c.base ++ (numL c.bterm ++ (textL c.state ++ entsL c.ents))))
def wholeB (c : CT) : ByteArray := recB 248 (ofL (bodyL c))

theorem numL_len (n : Nat) : (numL n).length = 8 := rfl
theorem sealL_len (s : ByteArray) : (sealL s).length = s.size + 8 := by simp [sealL, numL_len]
theorem headB_size (k : UInt8) (n : Nat) : (headB k n).size = 9 := by simp [headB, ofL_size, numL_len]
theorem recB_size (k : UInt8) (body : ByteArray) : (recB k body).size = body.size + 25 := by
  simp only [recB, ofL_size, recL, List.length_append, sealL_len, headB_size]; omega

theorem rBytes_app (a b : List UInt8) (x : Bool) (n : Nat) (hn : n = a.length) : rBytes ⟨ofL (a ++ b), false, x⟩ n = (ofL a, ⟨ofL b, false, x⟩) := by
  subst hn
  have h1 : ¬ a.length + b.length < a.length := by omega
  have h2 : (a ++ b).take (a.length + b.length) = a ++ b := List.take_of_length_le (by simp)
  simp [rBytes, ofL_extract, ofL_size, h1, h2]
theorem rNumber_app (n : Nat) (h : n < m64) (b : List UInt8) (x : Bool) : rNumber ⟨ofL (numL n ++ b), false, x⟩ = (n, ⟨ofL b, false, x⟩) := by
  simp only [rNumber, rBytes_app (numL n) b x 8 rfl, ofL_list, beN_numL n h]
theorem rText_app (s : ByteArray) (h : s.size < m64) (b : List UInt8) (x : Bool) : rText ⟨ofL (textL s ++ b), false, x⟩ = (s, ⟨ofL b, false, x⟩) := by
  simp only [rText, textL, List.append_assoc, rNumber_app _ h]
  rw [rBytes_app _ _ _ _ (data_len s).symm, ofL_data]
/-- Entries that may be written. -/
def EntsOk (E : List Ent) : Prop := ∀ x ∈ E, x.1 < m64 ∧ x.2.size < m64
theorem entsL_cons (x : Ent) (E : List Ent) : entsL (x :: E) = numL x.1 ++ (textL x.2 ++ entsL E) := by simp [entsL]
theorem rEnts_app : ∀ (E : List Ent) (f : Nat) (x : Bool) (out : List Ent), EntsOk E → E.length ≤ f → rEnts f ⟨ofL (entsL E), false, x⟩ out = (out ++ E, ⟨ofL [], false, x⟩)
  | [], f, x, out, _, _ => by
    cases f with
    | zero => simp [rEnts, entsL]
    | succ f =>
      have h0 : (ofL []).size = 0 := rfl
      simp [rEnts, entsL, h0]
  | e :: E, f, x, out, h, hf => by
    obtain ⟨f, rfl⟩ : ∃ g, f = g + 1 := ⟨f - 1, by simp at hf; omega⟩
    have h1 := h e (List.mem_cons_self ..)
    have hs : ¬ (ofL (entsL (e :: E))).size = 0 := by rw [ofL_size, entsL_cons, List.length_append, numL_len]; omega
    simp only [rEnts, hs, decide_false, Bool.or_self, Bool.false_eq_true, if_false]
    rw [entsL_cons, rNumber_app _ h1.1]
    simp only []
    rw [rText_app _ h1.2]
    simp only []
    rw [rEnts_app E f x _ (fun y hy => h y (List.mem_cons_of_mem _ hy)) (by simp at hf; omega)]
    simp
theorem entsL_len (E : List Ent) : E.length ≤ (entsL E).length := by
  induction E with
  | nil => simp
  | cons e E ih => rw [entsL_cons, List.length_append, List.length_append, numL_len]; simp; omega
theorem rEntries_app (E : List Ent) (x : Bool) (h : EntsOk E) : rEntries ⟨ofL (entsL E), false, x⟩ = (E, ⟨ofL [], false, x⟩) := by
  unfold rEntries
  rw [rEnts_app E _ x [] h (by have := entsL_len E; simp [ofL_size]; omega)]
  simp
theorem rSealed_app (s : ByteArray) (b : List UInt8) (n : Nat) (hn : n = s.size) : rSealed ⟨ofL (sealL s ++ b), false, false⟩ n = (s, ⟨ofL b, false, false⟩) := by
  subst hn
  simp only [rSealed, sealL, List.append_assoc]
  rw [rBytes_app _ _ _ _ (data_len s).symm]
  simp only [ofL_data]
  rw [rNumber_app _ (fnv_lt s)]
  simp
theorem rRecord_app (k : UInt8) (body : ByteArray) (h : body.size < m64) (b : List UInt8) : rRecord ⟨ofL (recL k body ++ b), false, false⟩ = ((k, body), ⟨ofL b, false, false⟩) := by
  have e1 : rSealed ⟨ofL (recL k body ++ b), false, false⟩ 9 = (headB k body.size, ⟨ofL (sealL body ++ b), false, false⟩) := by
    unfold recL
    rw [List.append_assoc]
    exact rSealed_app _ _ _ (headB_size _ _).symm
  have e2 : (headB k body.size).extract 1 (headB k body.size).size = ofL (numL body.size ++ []) := by
    rw [headB_size, headB, ofL_extract, List.append_nil]; rfl
  simp only [rRecord, e1, Bool.or_self, Bool.false_eq_true, if_false, e2, rNumber_app _ h]
  rw [rSealed_app _ _ _ rfl]
  simp [headB, ofL]

/-- A content that can be. -/
structure CT.Ok (c : CT) : Prop where
  term : c.term < m64
  vote : -1 ≤ c.vote
  votet : c.vote < 9223372036854775808
  base : c.base + c.ents.length < m64
  bterm : c.bterm < m64
  state : c.state.size < m64
  ents : EntsOk c.ents
theorem voteN_lt (v : Int) : voteN v < m64 := by unfold voteN m64; have := u64_range v; omega
theorem voteZ_N (v : Int) (h : -1 ≤ v) (h2 : v < 9223372036854775808) : voteZ (voteN v) = v := by
  have h1 := u64_range v
  have e1 : IntKind.u64.wrap v = v % 18446744073709551616 := by simp [IntKind.wrap, IntKind.signed, IntKind.bits]
  have e2 : ((IntKind.u64.wrap v).toNat : Int) = IntKind.u64.wrap v := by omega
  unfold voteZ voteN
  rw [e2, e1]
  simp only [IntKind.wrap, IntKind.signed, IntKind.bits, Nat.reduceSub, Int.reducePow, Bool.true_and, ge_iff_le, decide_eq_true_eq]
  split <;> omega
theorem ended_nil (x : Bool) : rEnded ⟨ofL [], false, x⟩ = true := rfl
theorem rAll_body (c : CT) (h : c.Ok) : rAll (ofL (bodyL c)) = (c, ⟨ofL [], false, false⟩) := by
  simp only [rAll, bodyL, rNumber_app _ h.term, rNumber_app _ (voteN_lt c.vote), rNumber_app c.base (by have := h.base; omega), rNumber_app _ h.bterm, rText_app _ h.state, rEntries_app _ _ h.ents, voteZ_N _ h.vote h.votet]
theorem readAll_body (c : CT) (h : c.Ok) : readAllC (ofL (bodyL c)) = some c := by
  have hb := h.base
  have hv := h.vote
  unfold m64 at hb
  have h1 : decide (c.vote < -1) = false := by simp; omega
  have h2 : ({ c with ents := [] } : CT).takes c.base c.ents.length = true := by
    have e1 : c.base % 18446744073709551616 = c.base := Nat.mod_eq_of_lt (by omega)
    simp only [CT.takes, CT.lastN, m64, List.length_nil, Bool.and_eq_true, decide_eq_true_eq, Nat.add_zero, e1]
    omega
  simp [readAllC, rAll_body c h, ended_nil, h1, h2]
theorem redo_vote (c : CT) (t : Nat) (v : Int) (ht : t < m64) (hv : v < 9223372036854775808) (hk : c.votes t v = true) : redoC c 249 (voteB t v) = some { c with term := t, vote := v } := by
  have hv1 : -1 ≤ v := by simp only [CT.votes, Bool.and_eq_true, decide_eq_true_eq] at hk; exact hk.2
  have e1 : rNumber ⟨voteB t v, false, false⟩ = (t, ⟨ofL (numL (voteN v) ++ []), false, false⟩) := by rw [voteB, List.append_nil, rNumber_app _ ht]
  have e2 : (249 : UInt8) = 249 := rfl
  simp only [redoC, redoV, e1, rNumber_app _ (voteN_lt v), voteZ_N v hv1 hv, ended_nil, hk, if_true]
  rfl
theorem redo_add (c : CT) (behind : Nat) (E : List Ent) (hb : behind < m64) (hE : EntsOk E) (hk : c.takes behind E.length = true) : redoC c 250 (addB behind E) = some { c with ents := c.ents.take (behind - c.base) ++ E } := by
  have e1 : rNumber ⟨addB behind E, false, false⟩ = (behind, ⟨ofL (entsL E), false, false⟩) := by rw [addB, rNumber_app _ hb]
  simp [redoC, redoA, e1, rEntries_app _ _ hE, ended_nil, hk]

/-- Records one behind the other, and what they make. -/
abbrev Rc := UInt8 × ByteArray
def recsL (R : List Rc) : List UInt8 := R.flatMap fun x => recL x.1 x.2
def redoAll (c : CT) : List Rc → Option CT
  | [] => some c
  | x :: R => (redoC c x.1 x.2).bind fun c' => redoAll c' R
theorem redoAll_snoc : ∀ (R : List Rc) (c : CT) (x : Rc), redoAll c (R ++ [x]) = (redoAll c R).bind fun c' => redoC c' x.1 x.2
  | [], c, x => by simp only [List.nil_append, redoAll, Option.bind_some]; cases redoC c x.1 x.2 <;> rfl
  | y :: R, c, x => by
    simp only [List.cons_append, redoAll]
    cases redoC c y.1 y.2 with
    | none => rfl
    | some c' => simpa using redoAll_snoc R c' x
theorem readLoop_app : ∀ (R : List Rc) (f : Nat) (c c' : CT), (∀ x ∈ R, x.2.size < m64) → R.length ≤ f → redoAll c R = some c' → readLoop f c ⟨ofL (recsL R), false, false⟩ = some c'
  | [], f, c, c', _, _, h => by
    cases f with
    | zero => simpa [readLoop, redoAll] using h
    | succ f =>
      have h0 : (ofL []).size = 0 := rfl
      simpa [readLoop, recsL, h0, redoAll] using h
  | x :: R, f, c, c', hs, hf, h => by
    obtain ⟨f, rfl⟩ : ∃ g, f = g + 1 := ⟨f - 1, by simp at hf; omega⟩
    have hx := hs x (List.mem_cons_self ..)
    have e1 : recsL (x :: R) = recL x.1 x.2 ++ recsL R := by simp [recsL]
    have h0 : ¬ (ofL (recsL (x :: R))).size = 0 := by rw [e1, ofL_size, List.length_append]; simp only [recL, List.length_append, sealL_len]; omega
    simp only [readLoop, h0, if_false]
    rw [e1, rRecord_app _ _ hx]
    simp only [Bool.false_eq_true, if_false]
    simp only [redoAll] at h
    cases hr : redoC c x.1 x.2 with
    | none => rw [hr] at h; cases h
    | some c2 =>
      rw [hr] at h
      exact readLoop_app R f c2 c' (fun y hy => hs y (List.mem_cons_of_mem _ hy)) (by simp at hf; omega) (by simpa using h)
theorem recsL_len (R : List Rc) : R.length ≤ (recsL R).length := by
  induction R with
  | nil => simp
  | cons x R ih => simp only [recsL, List.flatMap_cons, List.length_append, recL, sealL_len, List.length_cons] at ih ⊢; omega

/-- These bytes were left by a log, untorn, that tells c. -/
def Left (T : ByteArray) (c : CT) : Prop := ∃ (c0 : CT) (R : List Rc), c0.Ok ∧ (bodyL c0).length < m64 ∧ T = wholeB c0 ++ ofL (recsL R) ∧ (∀ x ∈ R, x.2.size < m64 ∧ (x.1 = 249 ∨ x.1 = 250)) ∧ redoAll c0 R = some c
theorem Left.whole {c : CT} (h : c.Ok) (hb : (bodyL c).length < m64) : Left (wholeB c) c :=
  ⟨c, [], h, hb, by ext1; simp [recsL, ofL, ByteArray.data_append], (fun _ hx => by cases hx), rfl⟩
theorem Left.add {T : ByteArray} {c c' : CT} {k : UInt8} {body : ByteArray} (h : Left T c) (hk : k = 249 ∨ k = 250) (hb : body.size < m64) (hr : redoC c k body = some c') : Left (T ++ recB k body) c' := by
  obtain ⟨c0, R, h1, h2, rfl, h3, h4⟩ := h
  refine ⟨c0, R ++ [(k, body)], h1, h2, ?_, fun x hx => ?_, ?_⟩
  · ext1; simp [recsL, recB, ofL, ByteArray.data_append]
  · rcases List.mem_append.1 hx with hx | hx
    · exact h3 x hx
    · obtain rfl : x = (k, body) := by simpa using hx
      exact ⟨hb, hk⟩
  · rw [redoAll_snoc, h4]; simpa using hr
theorem Left.read {T : ByteArray} {c : CT} (h : Left T c) : readC T = some c := by
  obtain ⟨c0, R, h1, h2, rfl, h3, h4⟩ := h
  have e1 : wholeB c0 ++ ofL (recsL R) = ofL (recL 248 (ofL (bodyL c0)) ++ recsL R) := by rw [ofL_append]; rfl
  have hsz : ¬ (ofL (recL 248 (ofL (bodyL c0)) ++ recsL R)).size = 0 := by
    rw [ofL_size, List.length_append]; simp only [recL, List.length_append, sealL_len]; omega
  have hf : R.length ≤ (ofL (recL 248 (ofL (bodyL c0)) ++ recsL R)).size + 1 := by
    rw [ofL_size, List.length_append]; have := recsL_len R; omega
  rw [e1]
  simp only [readC, hsz, if_false]
  rw [rRecord_app _ _ (by rw [ofL_size]; exact h2)]
  simp only [Bool.false_or, decide_true, Bool.not_true, Bool.false_eq_true, if_false, readAll_body c0 h1]
  exact readLoop_app R _ c0 c (fun x hx => (h3 x hx).1) hf h4
theorem readC_nil : readC ⟨#[]⟩ = some fresh := rfl
end Go.Proofs.Ytfocljmjejniiaa
