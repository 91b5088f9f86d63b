/- Copies of texts. -/
import Derived.Test.YtflkdgghpmhbgaaGreatKA
import Derived.Laws.AppendOwnNone
import Derived.Laws.IdiomCopy
import Derived.Deep.AppendLies
import Derived.Lib.Builder
import Derived.Lib.UnsafeStr
import Derived.Lib.MakeNoZero
import Derived.Laws.Externs
import Derived.Deep.RegionHeld3
import Derived.Deep.QuietTactic
import Derived.BigQuiet
import Derived.Deep.RegionWith
import Derived.StillTailTactics
import Derived.Deep.DeepCutAuto
import Derived.Deep.CutBlock
import Derived.Test.YtflkdgghpmhbgaaGreatChecked
import Derived.Laws.Rows
import Derived.Lib.BufferWrite
import Derived.Lib.Hide
import Derived.Laws.MakeOwn
import Derived.Laws.LoneSync
import Derived.IntWalk
namespace Go.Proofs.YtflkdgghpmhbgaaGreat
open Go.RowKit

abbrev Ent := Nat × ByteArray
def m64 : Nat := 18446744073709551616
/-- The k-th byte of a number, the highest first. -/
def nByte (n k : Nat) : UInt8 := UInt8.ofNat (n / 2 ^ (56 - 8 * k))
def numL (n : Nat) : List UInt8 := [nByte n 0, nByte n 1, nByte n 2, nByte n 3, nByte n 4, nByte n 5, nByte n 6, nByte n 7]
def beN (l : List UInt8) : Nat := l.foldl (fun n b => n * 256 + b.toNat) 0
theorem beN_numL (n : Nat) (h : n < m64) : beN (numL n) = n := by
  unfold m64 at h
  simp only [beN, numL, nByte, List.foldl_cons, List.foldl_nil, UInt8.toNat_ofNat', Nat.reduceMul, Nat.reduceSub, Nat.reducePow]
  omega
theorem beN_snoc (l : List UInt8) (b : UInt8) : beN (l ++ [b]) = beN l * 256 + b.toNat := by simp [beN]
theorem beN_lt (l : List UInt8) : beN l < 256 ^ l.length := by
  have key : ∀ (l : List UInt8) (a : Nat), l.foldl (fun n b => n * 256 + b.toNat) a < (a + 1) * 256 ^ l.length := by
    intro l
    induction l with
    | nil => intro a; simp
    | cons b l ih =>
      intro a
      have hb : b.toNat < 256 := UInt8.toNat_lt b
      have h1 : (a * 256 + b.toNat + 1) ≤ (a + 1) * 256 := by omega
      have h2 := ih (a * 256 + b.toNat)
      have h3 : (a * 256 + b.toNat + 1) * 256 ^ l.length ≤ ((a + 1) * 256) * 256 ^ l.length := Nat.mul_le_mul_right _ h1
      simp only [List.foldl_cons, List.length_cons, Nat.pow_succ]
      have h4 : (a + 1) * 256 * 256 ^ l.length = (a + 1) * (256 ^ l.length * 256) := by rw [Nat.mul_assoc, Nat.mul_comm 256]
      omega
  simpa [beN] using key l 0
theorem beN_m64 (l : List UInt8) (h : l.length ≤ 8) : beN l < m64 := by
  have h1 := beN_lt l
  have h2 : 256 ^ l.length ≤ 256 ^ 8 := Nat.pow_le_pow_right (by decide) h
  have h3 : (256 : Nat) ^ 8 = m64 := by decide
  omega

/-- The sum of bytes. -/
def fnvS (m : Int) (b : UInt8) : Int := IntKind.u64.wrap (bits BinOp.xor IntKind.u64 m (IntKind.u64.wrap (b.toNat : Int)) * 1099511628211)
def fnvI (l : List UInt8) : Int := l.foldl fnvS 14695981039346656037
theorem fnvI_snoc (l : List UInt8) (b : UInt8) : fnvI (l ++ [b]) = fnvS (fnvI l) b := by simp [fnvI]
theorem u64_range (x : Int) : 0 ≤ IntKind.u64.wrap x ∧ IntKind.u64.wrap x < 18446744073709551616 := by
  have e : IntKind.u64.wrap x = x % 18446744073709551616 := by simp [IntKind.wrap, IntKind.signed, IntKind.bits]
  rw [e]; omega
theorem fnvI_range (l : List UInt8) : 0 ≤ fnvI l ∧ fnvI l < 18446744073709551616 := by
  rcases List.eq_nil_or_concat l with rfl | ⟨l', b, rfl⟩
  · decide
  · rw [List.concat_eq_append, fnvI_snoc]; exact u64_range _
def fnv (s : ByteArray) : Nat := (fnvI s.data.toList).toNat
theorem fnv_int (s : ByteArray) : (fnv s : Int) = fnvI s.data.toList := by
  unfold fnv; have := fnvI_range s.data.toList; omega
theorem fnv_lt (s : ByteArray) : fnv s < m64 := by
  unfold fnv m64; have := fnvI_range s.data.toList; omega

def ofL (l : List UInt8) : ByteArray := ⟨l.toArray⟩
theorem ofL_size (l : List UInt8) : (ofL l).size = l.length := by simp [ofL, ByteArray.size]
theorem ofL_list (l : List UInt8) : (ofL l).data.toList = l := by simp [ofL]
theorem ofL_data (s : ByteArray) : ofL s.data.toList = s := by simp [ofL]
theorem data_len (s : ByteArray) : s.data.toList.length = s.size := Array.length_toList
theorem ofL_append (a b : List UInt8) : ofL (a ++ b) = ofL a ++ ofL b :=
  ByteArray.ext (by rw [ByteArray.data_append]; show (a ++ b).toArray = a.toArray ++ b.toArray; simp)
theorem ofL_extract (l : List UInt8) (i j : Nat) : (ofL l).extract i j = ofL ((l.take j).drop i) := by
  ext1; simp [ofL, ByteArray.data_extract, List.drop_take]
theorem ofL_inj {a b : List UInt8} (h : ofL a = ofL b) : a = b := by rw [← ofL_list a, h, ofL_list]

/-- A reader: what is left, and whether it was too short, or a sum was wrong. -/
structure RS where
  rest : ByteArray
  short : Bool
  wrong : Bool
def rBytes (r : RS) (n : Nat) : ByteArray × RS :=
  if r.short || decide (r.rest.size < n) then (⟨#[]⟩, ⟨r.rest, true, r.wrong⟩) else (r.rest.extract 0 n, ⟨r.rest.extract n r.rest.size, false, r.wrong⟩)
def rNumber (r : RS) : Nat × RS := (beN (rBytes r 8).1.data.toList, (rBytes r 8).2)
def rText (r : RS) : ByteArray × RS := rBytes (rNumber r).2 (rNumber r).1
def rEnts : Nat → RS → List Ent → List Ent × RS
  | 0, r, out => (out, r)
  | f + 1, r, out => if decide (r.rest.size = 0) || r.short then (out, r) else rEnts f (rText (rNumber r).2).2 (out ++ [((rNumber r).1, (rText (rNumber r).2).1)])
def rEntries (r : RS) : List Ent × RS := rEnts (r.rest.size + 1) r []
def rSealed (r : RS) (n : Nat) : ByteArray × RS :=
  ((rBytes r n).1, ⟨(rNumber (rBytes r n).2).2.rest, (rNumber (rBytes r n).2).2.short, (rNumber (rBytes r n).2).2.wrong || (!(rNumber (rBytes r n).2).2.short && !decide ((rNumber (rBytes r n).2).1 = fnv (rBytes r n).1))⟩)
def rRecord (r : RS) : (UInt8 × ByteArray) × RS :=
  if (rSealed r 9).2.short || (rSealed r 9).2.wrong then ((0, ⟨#[]⟩), (rSealed r 9).2)
  else (((rSealed r 9).1.data.getD 0 0, (rSealed (rSealed r 9).2 (rNumber ⟨(rSealed r 9).1.extract 1 (rSealed r 9).1.size, false, false⟩).1).1), (rSealed (rSealed r 9).2 (rNumber ⟨(rSealed r 9).1.extract 1 (rSealed r 9).1.size, false, false⟩).1).2)
def rEnded (r : RS) : Bool := decide (r.rest.size = 0) && !r.short

/-- What a log tells. -/
structure CT where
  term : Nat
  vote : Int
  base : Nat
  bterm : Nat
  state : ByteArray
  ents : List Ent
def fresh : CT := ⟨0, -1, 0, 0, ⟨#[]⟩, []⟩
def voteN (v : Int) : Nat := (IntKind.u64.wrap v).toNat
def voteZ (n : Nat) : Int := IntKind.i64.wrap (n : Int)
def CT.lastN (c : CT) : Nat := (c.base + c.ents.length) % m64
def CT.takes (c : CT) (behind n : Nat) : Bool := decide (c.base ≤ behind) && (decide (behind ≤ c.lastN) && decide (n ≤ 18446744073709551615 - behind))
def CT.votes (c : CT) (t : Nat) (v : Int) : Bool := decide (c.term ≤ t) && decide (-1 ≤ v)
def redoV (c : CT) (body : ByteArray) : Option CT :=
  if !rEnded (rNumber (rNumber ⟨body, false, false⟩).2).2 || !c.votes (rNumber ⟨body, false, false⟩).1 (voteZ (rNumber (rNumber ⟨body, false, false⟩).2).1) then none
  else some { c with term := (rNumber ⟨body, false, false⟩).1, vote := voteZ (rNumber (rNumber ⟨body, false, false⟩).2).1 }
def redoA (c : CT) (body : ByteArray) : Option CT :=
  if !rEnded (rEntries (rNumber ⟨body, false, false⟩).2).2 || !c.takes (rNumber ⟨body, false, false⟩).1 (rEntries (rNumber ⟨body, false, false⟩).2).1.length then none
  else some { c with ents := c.ents.take ((rNumber ⟨body, false, false⟩).1 - c.base) ++ (rEntries (rNumber ⟨body, false, false⟩).2).1 }
def redoC (c : CT) (kind : UInt8) (body : ByteArray) : Option CT := if kind = 249 then redoV c body else if kind = 250 then redoA c body else none
/-- The numbers ahead of the state, the state, the entries of a record of all. -/
def rAll (body : ByteArray) : CT × RS :=
  let a := rNumber ⟨body, false, false⟩
  let b := rNumber a.2
  let c := rNumber b.2
  let d := rNumber c.2
  let e := rText d.2
  let f := rEntries e.2
  (⟨a.1, voteZ b.1, c.1, d.1, e.1, f.1⟩, f.2)
def readAllC (body : ByteArray) : Option CT :=
  if !rEnded (rAll body).2 || (decide ((rAll body).1.vote < -1) || !{ (rAll body).1 with ents := [] }.takes (rAll body).1.base (rAll body).1.ents.length) then none else some (rAll body).1
def readLoop : Nat → CT → RS → Option CT
  | 0, c, _ => some c
  | f + 1, c, r => if r.rest.size = 0 then some c
    else if (rRecord r).2.short then (if r.rest.data.getD 0 0 = 249 ∨ r.rest.data.getD 0 0 = 250 then some c else none)
    else if (rRecord r).2.wrong then none
    else match redoC c (rRecord r).1.1 (rRecord r).1.2 with
      | none => none
      | some c' => readLoop f c' (rRecord r).2
def readC (s : ByteArray) : Option CT :=
  if s.size = 0 then some fresh
  else if (rRecord ⟨s, false, false⟩).2.wrong || ((rRecord ⟨s, false, false⟩).2.short || !decide ((rRecord ⟨s, false, false⟩).1.1 = 248)) then none
  else match readAllC (rRecord ⟨s, false, false⟩).1.2 with
    | none => none
    | some c => readLoop (s.size + 1) c (rRecord ⟨s, false, false⟩).2

/-! What is written -/
def textL (s : ByteArray) : List UInt8 := numL s.size ++ s.data.toList
def entsL (E : List Ent) : List UInt8 := E.flatMap fun x => numL x.1 ++ textL x.2
def sealL (s : ByteArray) : List UInt8 := s.data.toList ++ numL (fnv s)
def headB (k : UInt8) (n : Nat) : ByteArray := ofL (k :: numL n)
def recL (k : UInt8) (body : ByteArray) : List UInt8 := sealL (headB k body.size) ++ sealL body
def recB (k : UInt8) (body : ByteArray) : ByteArray := ofL (recL k body)
def voteB (t : Nat) (v : Int) : ByteArray := ofL (numL t ++ numL (voteN v))
def addB (behind : Nat) (E : List Ent) : ByteArray := ofL (numL behind ++ entsL E)
def bodyL (c : CT) : List UInt8 := numL c.term ++ (numL (voteN c.vote) ++ (numL c.base ++ (numL c.bterm ++ (textL c.state ++ entsL c.ents))))
def wholeB (c : CT) : ByteArray := recB 248 (ofL (bodyL c))

theorem numL_len (n : Nat) : (numL n).length = 8 := rfl
theorem sealL_len (s : ByteArray) : (sealL s).length = s.size + 8 := by simp [sealL, numL_len]
theorem headB_size (k : UInt8) (n : Nat) : (headB k n).size = 9 := by simp [headB, ofL_size, numL_len]
theorem recB_size (k : UInt8) (body : ByteArray) : (recB k body).size = body.size + 25 := by
  simp only [recB, ofL_size, recL, List.length_append, sealL_len, headB_size]; omega

theorem rBytes_app (a b : List UInt8) (x : Bool) (n : Nat) (hn : n = a.length) : rBytes ⟨ofL (a ++ b), false, x⟩ n = (ofL a, ⟨ofL b, false, x⟩) := by
  subst hn
  have h1 : ¬ a.length + b.length < a.length := by omega
  have h2 : (a ++ b).take (a.length + b.length) = a ++ b := List.take_of_length_le (by simp)
  simp [rBytes, ofL_extract, ofL_size, h1, h2]
theorem rNumber_app (n : Nat) (h : n < m64) (b : List UInt8) (x : Bool) : rNumber ⟨ofL (numL n ++ b), false, x⟩ = (n, ⟨ofL b, false, x⟩) := by
  simp only [rNumber, rBytes_app (numL n) b x 8 rfl, ofL_list, beN_numL n h]
theorem rText_app (s : ByteArray) (h : s.size < m64) (b : List UInt8) (x : Bool) : rText ⟨ofL (textL s ++ b), false, x⟩ = (s, ⟨ofL b, false, x⟩) := by
  simp only [rText, textL, List.append_assoc, rNumber_app _ h]
  rw [rBytes_app _ _ _ _ (data_len s).symm, ofL_data]
/-- Entries that may be written. -/
def EntsOk (E : List Ent) : Prop := ∀ x ∈ E, x.1 < m64 ∧ x.2.size < m64
theorem entsL_cons (x : Ent) (E : List Ent) : entsL (x :: E) = numL x.1 ++ (textL x.2 ++ entsL E) := by simp [entsL]
theorem rEnts_app : ∀ (E : List Ent) (f : Nat) (x : Bool) (out : List Ent), EntsOk E → E.length ≤ f → rEnts f ⟨ofL (entsL E), false, x⟩ out = (out ++ E, ⟨ofL [], false, x⟩)
  | [], f, x, out, _, _ => by
    cases f with
    | zero => simp [rEnts, entsL]
    | succ f =>
      have h0 : (ofL []).size = 0 := rfl
      simp [rEnts, entsL, h0]
  | e :: E, f, x, out, h, hf => by
    obtain ⟨f, rfl⟩ : ∃ g, f = g + 1 := ⟨f - 1, by simp at hf; omega⟩
    have h1 := h e (List.mem_cons_self ..)
    have hs : ¬ (ofL (entsL (e :: E))).size = 0 := by rw [ofL_size, entsL_cons, List.length_append, numL_len]; omega
    simp only [rEnts, hs, decide_false, Bool.or_self, Bool.false_eq_true, if_false]
    rw [entsL_cons, rNumber_app _ h1.1]
    simp only []
    rw [rText_app _ h1.2]
    simp only []
    rw [rEnts_app E f x _ (fun y hy => h y (List.mem_cons_of_mem _ hy)) (by simp at hf; omega)]
    simp
theorem entsL_len (E : List Ent) : E.length ≤ (entsL E).length := by
  induction E with
  | nil => simp
  | cons e E ih => rw [entsL_cons, List.length_append, List.length_append, numL_len]; simp; omega
theorem rEntries_app (E : List Ent) (x : Bool) (h : EntsOk E) : rEntries ⟨ofL (entsL E), false, x⟩ = (E, ⟨ofL [], false, x⟩) := by
  unfold rEntries
  rw [rEnts_app E _ x [] h (by have := entsL_len E; simp [ofL_size]; omega)]
  simp
theorem rSealed_app (s : ByteArray) (b : List UInt8) (n : Nat) (hn : n = s.size) : rSealed ⟨ofL (sealL s ++ b), false, false⟩ n = (s, ⟨ofL b, false, false⟩) := by
  subst hn
  simp only [rSealed, sealL, List.append_assoc]
  rw [rBytes_app _ _ _ _ (data_len s).symm]
  simp only [ofL_data]
  rw [rNumber_app _ (fnv_lt s)]
  simp
theorem rRecord_app (k : UInt8) (body : ByteArray) (h : body.size < m64) (b : List UInt8) : rRecord ⟨ofL (recL k body ++ b), false, false⟩ = ((k, body), ⟨ofL b, false, false⟩) := by
  have e1 : rSealed ⟨ofL (recL k body ++ b), false, false⟩ 9 = (headB k body.size, ⟨ofL (sealL body ++ b), false, false⟩) := by
    unfold recL
    rw [List.append_assoc]
    exact rSealed_app _ _ _ (headB_size _ _).symm
  have e2 : (headB k body.size).extract 1 (headB k body.size).size = ofL (numL body.size ++ []) := by
    rw [headB_size, headB, ofL_extract, List.append_nil]; rfl
  simp only [rRecord, e1, Bool.or_self, Bool.false_eq_true, if_false, e2, rNumber_app _ h]
  rw [rSealed_app _ _ _ rfl]
  simp [headB, ofL]

/-- A content that can be. -/
structure CT.Ok (c : CT) : Prop where
  term : c.term < m64
  vote : -1 ≤ c.vote
  votet : c.vote < 9223372036854775808
  base : c.base + c.ents.length < m64
  bterm : c.bterm < m64
  state : c.state.size < m64
  ents : EntsOk c.ents
theorem voteN_lt (v : Int) : voteN v < m64 := by unfold voteN m64; have := u64_range v; omega
theorem voteZ_N (v : Int) (h : -1 ≤ v) (h2 : v < 9223372036854775808) : voteZ (voteN v) = v := by
  have h1 := u64_range v
  have e1 : IntKind.u64.wrap v = v % 18446744073709551616 := by simp [IntKind.wrap, IntKind.signed, IntKind.bits]
  have e2 : ((IntKind.u64.wrap v).toNat : Int) = IntKind.u64.wrap v := by omega
  unfold voteZ voteN
  rw [e2, e1]
  simp only [IntKind.wrap, IntKind.signed, IntKind.bits, Nat.reduceSub, Int.reducePow, Bool.true_and, ge_iff_le, decide_eq_true_eq]
  split <;> omega
theorem ended_nil (x : Bool) : rEnded ⟨ofL [], false, x⟩ = true := rfl
theorem rAll_body (c : CT) (h : c.Ok) : rAll (ofL (bodyL c)) = (c, ⟨ofL [], false, false⟩) := by
  simp only [rAll, bodyL, rNumber_app _ h.term, rNumber_app _ (voteN_lt c.vote), rNumber_app c.base (by have := h.base; omega), rNumber_app _ h.bterm, rText_app _ h.state, rEntries_app _ _ h.ents, voteZ_N _ h.vote h.votet]
theorem readAll_body (c : CT) (h : c.Ok) : readAllC (ofL (bodyL c)) = some c := by
  have hb := h.base
  have hv := h.vote
  unfold m64 at hb
  have h1 : decide (c.vote < -1) = false := by simp; omega
  have h2 : ({ c with ents := [] } : CT).takes c.base c.ents.length = true := by
    have e1 : c.base % 18446744073709551616 = c.base := Nat.mod_eq_of_lt (by omega)
    simp only [CT.takes, CT.lastN, m64, List.length_nil, Bool.and_eq_true, decide_eq_true_eq, Nat.add_zero, e1]
    omega
  simp [readAllC, rAll_body c h, ended_nil, h1, h2]
theorem redo_vote (c : CT) (t : Nat) (v : Int) (ht : t < m64) (hv : v < 9223372036854775808) (hk : c.votes t v = true) : redoC c 249 (voteB t v) = some { c with term := t, vote := v } := by
  have hv1 : -1 ≤ v := by simp only [CT.votes, Bool.and_eq_true, decide_eq_true_eq] at hk; exact hk.2
  have e1 : rNumber ⟨voteB t v, false, false⟩ = (t, ⟨ofL (numL (voteN v) ++ []), false, false⟩) := by rw [voteB, List.append_nil, rNumber_app _ ht]
  have e2 : (249 : UInt8) = 249 := rfl
  simp only [redoC, redoV, e1, rNumber_app _ (voteN_lt v), voteZ_N v hv1 hv, ended_nil, hk, if_true]
  rfl
theorem redo_add (c : CT) (behind : Nat) (E : List Ent) (hb : behind < m64) (hE : EntsOk E) (hk : c.takes behind E.length = true) : redoC c 250 (addB behind E) = some { c with ents := c.ents.take (behind - c.base) ++ E } := by
  have e1 : rNumber ⟨addB behind E, false, false⟩ = (behind, ⟨ofL (entsL E), false, false⟩) := by rw [addB, rNumber_app _ hb]
  simp [redoC, redoA, e1, rEntries_app _ _ hE, ended_nil, hk]

/-- Records one behind the other, and what they make. -/
abbrev Rc := UInt8 × ByteArray
def recsL (R : List Rc) : List UInt8 := R.flatMap fun x => recL x.1 x.2
def redoAll (c : CT) : List Rc → Option CT
  | [] => some c
  | x :: R => (redoC c x.1 x.2).bind fun c' => redoAll c' R
theorem redoAll_snoc : ∀ (R : List Rc) (c : CT) (x : Rc), redoAll c (R ++ [x]) = (redoAll c R).bind fun c' => redoC c' x.1 x.2
  | [], c, x => by simp only [List.nil_append, redoAll, Option.bind_some]; cases redoC c x.1 x.2 <;> rfl
  | y :: R, c, x => by
    simp only [List.cons_append, redoAll]
    cases redoC c y.1 y.2 with
    | none => rfl
    | some c' => simpa using redoAll_snoc R c' x
theorem readLoop_app : ∀ (R : List Rc) (f : Nat) (c c' : CT), (∀ x ∈ R, x.2.size < m64) → R.length ≤ f → redoAll c R = some c' → readLoop f c ⟨ofL (recsL R), false, false⟩ = some c'
  | [], f, c, c', _, _, h => by
    cases f with
    | zero => simpa [readLoop, redoAll] using h
    | succ f =>
      have h0 : (ofL []).size = 0 := rfl
      simpa [readLoop, recsL, h0, redoAll] using h
  | x :: R, f, c, c', hs, hf, h => by
    obtain ⟨f, rfl⟩ : ∃ g, f = g + 1 := ⟨f - 1, by simp at hf; omega⟩
    have hx := hs x (List.mem_cons_self ..)
    have e1 : recsL (x :: R) = recL x.1 x.2 ++ recsL R := by simp [recsL]
    have h0 : ¬ (ofL (recsL (x :: R))).size = 0 := by rw [e1, ofL_size, List.length_append]; simp only [recL, List.length_append, sealL_len]; omega
    simp only [readLoop, h0, if_false]
    rw [e1, rRecord_app _ _ hx]
    simp only [Bool.false_eq_true, if_false]
    simp only [redoAll] at h
    cases hr : redoC c x.1 x.2 with
    | none => rw [hr] at h; cases h
    | some c2 =>
      rw [hr] at h
      exact readLoop_app R f c2 c' (fun y hy => hs y (List.mem_cons_of_mem _ hy)) (by simp at hf; omega) (by simpa using h)
theorem recsL_len (R : List Rc) : R.length ≤ (recsL R).length := by
  induction R with
  | nil => simp
  | cons x R ih => simp only [recsL, List.flatMap_cons, List.length_append, recL, sealL_len, List.length_cons] at ih ⊢; omega

/-- These bytes were left by a log, untorn, that tells c. -/
def Left (T : ByteArray) (c : CT) : Prop := ∃ (c0 : CT) (R : List Rc), c0.Ok ∧ (bodyL c0).length < m64 ∧ T = wholeB c0 ++ ofL (recsL R) ∧ (∀ x ∈ R, x.2.size < m64 ∧ (x.1 = 249 ∨ x.1 = 250)) ∧ redoAll c0 R = some c
theorem Left.whole {c : CT} (h : c.Ok) (hb : (bodyL c).length < m64) : Left (wholeB c) c :=
  ⟨c, [], h, hb, by ext1; simp [recsL, ofL, ByteArray.data_append], (fun _ hx => by cases hx), rfl⟩
theorem Left.add {T : ByteArray} {c c' : CT} {k : UInt8} {body : ByteArray} (h : Left T c) (hk : k = 249 ∨ k = 250) (hb : body.size < m64) (hr : redoC c k body = some c') : Left (T ++ recB k body) c' := by
  obtain ⟨c0, R, h1, h2, rfl, h3, h4⟩ := h
  refine ⟨c0, R ++ [(k, body)], h1, h2, ?_, fun x hx => ?_, ?_⟩
  · ext1; simp [recsL, recB, ofL, ByteArray.data_append]
  · rcases List.mem_append.1 hx with hx | hx
    · exact h3 x hx
    · obtain rfl : x = (k, body) := by simpa using hx
      exact ⟨hb, hk⟩
  · rw [redoAll_snoc, h4]; simpa using hr
theorem Left.read {T : ByteArray} {c : CT} (h : Left T c) : readC T = some c := by
  obtain ⟨c0, R, h1, h2, rfl, h3, h4⟩ := h
  have e1 : wholeB c0 ++ ofL (recsL R) = ofL (recL 248 (ofL (bodyL c0)) ++ recsL R) := by rw [ofL_append]; rfl
  have hsz : ¬ (ofL (recL 248 (ofL (bodyL c0)) ++ recsL R)).size = 0 := by
    rw [ofL_size, List.length_append]; simp only [recL, List.length_append, sealL_len]; omega
  have hf : R.length ≤ (ofL (recL 248 (ofL (bodyL c0)) ++ recsL R)).size + 1 := by
    rw [ofL_size, List.length_append]; have := recsL_len R; omega
  rw [e1]
  simp only [readC, hsz, if_false]
  rw [rRecord_app _ _ (by rw [ofL_size]; exact h2)]
  simp only [Bool.false_or, decide_true, Bool.not_true, Bool.false_eq_true, if_false, readAll_body c0 h1]
  exact readLoop_app R _ c0 c (fun x hx => (h3 x hx).1) hf h4
theorem readC_nil : readC ⟨#[]⟩ = some fresh := rfl
end Go.Proofs.YtflkdgghpmhbgaaGreat
namespace Go.Proofs.YtflkdgghpmhbgaaGreat
open Go.RowKit

theorem block_lt {w : World} {g : Nat} {o : Obj} (h : w.heap[g]? = some o) : g < w.heap.size := (Array.getElem?_eq_some_iff.1 h).1
theorem cellB {w w' : World} {b o : Nat} {v : Value} (hb : Below w.heap.size w w') (hc : w.cell? ⟨b, o, none⟩ = some v) : w'.cell? ⟨b, o, none⟩ = some v := by
  rw [hb.cell (p := ⟨b, o, none⟩) (World.block_lt_of_cell? w _ hc)]; exact hc

/-- From w to w' the block of v alone has turned, beside new blocks; v' lies in v's block or in a new one. -/
structure Grew (w : World) (v : Value) (w' : World) (v' : Value) : Prop where
  grow : w.grownBy w' v.ownBlock
  loc : ∀ k, v'.ownBlock = some k → v.ownBlock = some k ∨ w.heap.size ≤ k
theorem Grew.refl (w : World) (v : Value) : Grew w v w v := ⟨⟨rfl, rfl, rfl, Nat.le_refl _, fun _ _ _ => rfl⟩, fun _ h => .inl h⟩
theorem Grew.trans {w1 w2 w3 : World} {v1 v2 v3 : Value} (h : Grew w1 v1 w2 v2) (k : Grew w2 v2 w3 v3) : Grew w1 v1 w3 v3 := by
  refine ⟨⟨k.grow.os.trans h.grow.os, k.grow.tape.trans h.grow.tape, k.grow.output.trans h.grow.output, Nat.le_trans h.grow.size k.grow.size, fun b hb hne => ?_⟩, fun b hb => ?_⟩
  · refine (k.grow.block b (Nat.lt_of_lt_of_le hb h.grow.size) (fun e => ?_)).trans (h.grow.block b hb hne)
    rcases h.loc b e.symm with h1 | h1
    · exact hne h1.symm
    · omega
  · rcases k.loc b hb with h1 | h1
    · exact h.loc b h1
    · exact .inr (Nat.le_trans h.grow.size h1)
theorem Grew.alloc (w : World) (o : Obj) (v : Value) : Grew w v (w.alloc o) v := ⟨World.grownBy_alloc w o _, fun _ h => .inl h⟩
theorem Grew.drew (w : World) (v : Value) : Grew w v w.drew v := ⟨⟨rfl, rfl, rfl, Nat.le_refl _, fun _ _ _ => rfl⟩, fun _ h => .inl h⟩
theorem Grew.drewN (w : World) (v : Value) (n : Nat) : Grew w v (w.drewN n) v := ⟨⟨rfl, rfl, rfl, Nat.le_refl _, fun _ _ _ => rfl⟩, fun _ h => .inl h⟩
theorem Grew.ofBelow {w w' : World} (v : Value) (h : Below w.heap.size w w') : Grew w v w' v := ⟨⟨h.os, h.tape, h.output, h.size, fun k hk _ => h.block k hk⟩, fun _ h => .inl h⟩
theorem Grew.size {w w' : World} {v v' : Value} (h : Grew w v w' v') : w.heap.size ≤ w'.heap.size := h.grow.size
theorem Grew.block {w w' : World} {v v' : Value} (h : Grew w v w' v') {b : Nat} (hb : b < w.heap.size) (hne : v.ownBlock ≠ some b) : w'.heap[b]? = w.heap[b]? := h.grow.block b hb (Ne.symm hne)
theorem Grew.cell {w w' : World} {v v' : Value} (h : Grew w v w' v') {b o : Nat} {x : Value} (hc : w.cell? ⟨b, o, none⟩ = some x) (hne : v.ownBlock ≠ some b) : w'.cell? ⟨b, o, none⟩ = some x := by
  have hlt := World.block_lt_of_cell? w _ hc
  rw [← hc]; exact World.cell?_of_block (w := w) (h.block hlt hne)
theorem Grew.below {w w' : World} {v v' : Value} {B : Nat} (h : Grew w v w' v') (hB : B ≤ w.heap.size) (hv : ∀ k, v.ownBlock = some k → B ≤ k) : Below B w w' :=
  ⟨h.grow.os, h.grow.tape, h.grow.output, h.grow.size, fun k hk => h.grow.block k (by omega) (fun e => by have := hv k e.symm; omega)⟩

/-- What a slice type's tables say. -/
structure SlN (P : Program) (t e : TypeId) (z : Value) (size bytes : Nat) : Prop where
  und : P.underlying t = some (.slice e)
  info : (P.info? e).map (fun i => (i.zero, i.size, i.bytes)) = some (some z, size, bytes)
  zc : z.cells.size = size
  pos : 0 < size

theorem ownN_low {w : World} {B : Nat} {e : TypeId} {size n : Nat} {v : Value} {xs : List Value} (h : w.ownsRow B e size v n xs) : ∀ k, v.ownBlock = some k → B ≤ k := fun k hk => (World.ownsRow.lt h k hk).1
theorem ownN_ne {w : World} {B : Nat} {e : TypeId} {size n : Nat} {v : Value} {xs : List Value} (h : w.ownsRow B e size v n xs) {b : Nat} (hb : w.heap.size ≤ b) : v.ownBlock ≠ some b := fun hk => by have := (World.ownsRow.lt h b hk).2; omega

section
variable {P : Program} {w : World} {t e : TypeId} {z : Value} {size bytes : Nat}

/-- append at a plain region's list: what is appended lies in a block that is known whole. -/
theorem list_appN {ops : Array Oper} {rest : List Oper} {o : Oper} {a : Act} {Q : Exit → Act → World → Prop} (S : SlN P t e z size bytes) (hgd : o.guard = none) (s x : Operand)
    (ho : o.op = .call { callee := .builtin .append, args := #[s, x], argTypes := #[t, t] })
    (B : Nat) (v : Value) (n : Nat) (xs : List Value) (hs : a.eval s = v) (hown : w.ownsRow B e size v n xs)
    (g0 m c : Nat) (news : List Value) (hx : a.eval x = .slice (some ⟨g0, 0, none⟩) m c) (hblk : w.heap[g0]? = some (.cells news.toArray e (0, 0))) (hl : news.length = m * size) (h1 : ∀ u ∈ news, u.oneCell' = true)
    (hm : 0 < m) (h63 : n + m ≤ maxLen) (hbytes : (n + m) * bytes ≤ 140737488355328) (hbase : B ≤ w.heap.size)
    (h : ∀ g cap w', w'.ownsRow B e size (.slice (some ⟨g, 0, none⟩) (n + m) cap) (n + m) (xs ++ news) → Grew w v w' (.slice (some ⟨g, 0, none⟩) (n + m) cap) → wpList P ops Q rest (a.put o.dst (.slice (some ⟨g, 0, none⟩) (n + m) cap)) w') :
    wpList P ops Q (o :: rest) a w := by
  obtain ⟨i, hi, hz, hsz, hby⟩ := info_parts S.info
  refine wpList_append_lies w hgd s x t ho B e i z size bytes S.und hi hz hsz hby S.zc S.pos v n xs hs hown ⟨g0, 0, none⟩ m c news hx hl
    (by simpa using World.news_of_block hblk) h1 hm h63 hbytes hbase _ rfl ?_
  intro g cap w' h2 h3 h4 _
  refine h g cap w' h2 ⟨h3, fun k hk => ?_⟩
  have : g = k := by simpa [Value.ownBlock] using hk
  subst this
  rcases h4 with h4 | h4
  · exact .inl h4
  · exact .inr (by omega)
/-- .. at a step of a region that draws. -/
theorem step_appN {ops : Array Oper} {o : Oper} {a : Act} {K : Act → World → Prop} {Q : Exit → Act → World → Prop} {E : Prop} (S : SlN P t e z size bytes) (hgd : o.guard = none) (s x : Operand)
    (ho : o.op = .call { callee := .builtin .append, args := #[s, x], argTypes := #[t, t] })
    (B : Nat) (v : Value) (n : Nat) (xs : List Value) (hs : a.eval s = v) (hown : w.ownsRow B e size v n xs)
    (g0 m c : Nat) (news : List Value) (hx : a.eval x = .slice (some ⟨g0, 0, none⟩) m c) (hblk : w.heap[g0]? = some (.cells news.toArray e (0, 0))) (hl : news.length = m * size) (h1 : ∀ u ∈ news, u.oneCell' = true)
    (hm : 0 < m) (h63 : n + m ≤ maxLen) (hbytes : (n + m) * bytes ≤ 140737488355328) (hbase : B ≤ w.heap.size)
    (h : ∀ g cap w', w'.ownsRow B e size (.slice (some ⟨g, 0, none⟩) (n + m) cap) (n + m) (xs ++ news) → Grew w v w' (.slice (some ⟨g, 0, none⟩) (n + m) cap) → K (a.put o.dst (.slice (some ⟨g, 0, none⟩) (n + m) cap)) w') :
    if Region.wanted o (yielded ops a.tmps) = true then Oper.wp P o a w K Q else E := by
  obtain ⟨i, hi, hz, hsz, hby⟩ := info_parts S.info
  refine step_append_lies w hgd s x t ho B e i z size bytes S.und hi hz hsz hby S.zc S.pos v n xs hs hown ⟨g0, 0, none⟩ m c news hx hl
    (by simpa using World.news_of_block hblk) h1 hm h63 hbytes hbase _ rfl ?_
  intro g cap w' h2 h3 h4 _
  refine h g cap w' h2 ⟨h3, fun k hk => ?_⟩
  have : g = k := by simpa [Value.ownBlock] using hk
  subst this
  rcases h4 with h4 | h4
  · exact .inl h4
  · exact .inr (by omega)
end
theorem ownN_mv {w w' : World} {B : Nat} {e : TypeId} {size n : Nat} {v : Value} {xs : List Value} (h : w.ownsRow B e size v n xs) (hb : ∀ k, v.ownBlock = some k → w'.heap[k]? = w.heap[k]?) : w'.ownsRow B e size v n xs := by
  refine ⟨h.1, ?_⟩
  rcases h.2 with h0 | ⟨g, cap, cur, hv, hB, hg, rest⟩
  · exact .inl h0
  · exact .inr ⟨g, cap, cur, hv, hB, by rw [hb g (by rw [hv]; rfl)]; exact hg, rest⟩
theorem ownN_base {w : World} {B B' : Nat} {e : TypeId} {size n : Nat} {v : Value} {xs : List Value} (h : w.ownsRow B e size v n xs) (hb : ∀ k, v.ownBlock = some k → B' ≤ k) : w.ownsRow B' e size v n xs := by
  refine ⟨h.1, ?_⟩
  rcases h.2 with h0 | ⟨g, cap, cur, hv, hB, hg, rest⟩
  · exact .inl h0
  · exact .inr ⟨g, cap, cur, hv, hb g (by rw [hv]; rfl), hg, rest⟩


theorem run_append_empty {P : Program} {w : World} (base : Nat) (t ty e : TypeId) (i : TypeInfo) (size : Nat) (ht : P.underlying t = some (.slice e)) (hi : P.info? e = some i)
    (v : Value) (n : Nat) (xs : List Value) (hown : w.ownsRow base e size v n xs) (a : Option Addr) (c : Nat) :
    (Builtin.append_ #[t, t] ty #[v, .slice a 0 c]).run P w = .ok v w := by
  rcases hown.2 with ⟨rfl, rfl⟩ | ⟨g, cap, cur, rfl, _, _, hnc, _⟩
  · cases a <;> simp [Builtin.append_, run_underlying ht, sizeOf, typeInfo, hi, Builtin.lenOf, Builtin.firstCells, loadCells, loadCellsFrom]
  · cases a <;> simp [Builtin.append_, run_underlying ht, sizeOf, typeInfo, hi, Builtin.lenOf, Builtin.firstCells, hnc, storeCells, loadCells, loadCellsFrom]

theorem list_appN2 {P : Program} {w : World} {t e : TypeId} {z : Value} {size bytes : Nat} {ops : Array Oper} {rest : List Oper} {o : Oper} {a : Act} {Q : Exit → Act → World → Prop} (S : SlN P t e z size bytes) (hgd : o.guard = none) (s x : Operand)
    (ho : o.op = .call { callee := .builtin .append, args := #[s, x], argTypes := #[t, t] })
    (B : Nat) (v : Value) (n : Nat) (xs : List Value) (hs : a.eval s = v) (hown : w.ownsRow B e size v n xs)
    (ad : Option Addr) (m c : Nat) (news : List Value) (hx : a.eval x = .slice ad m c) (hl : news.length = m * size) (hnews : 0 < m → ∃ g o, ad = some ⟨g, o, none⟩ ∧ ∀ j u, news[j]? = some u → w.cell? ⟨g, o + j, none⟩ = some u) (h1 : ∀ u ∈ news, u.oneCell' = true)
    (h63 : n + m ≤ maxLen) (hbytes : (n + m) * bytes ≤ 140737488355328) (hbase : B ≤ w.heap.size)
    (h : ∀ v' w', w'.ownsRow B e size v' (n + m) (xs ++ news) → Grew w v w' v' → wpList P ops Q rest (a.put o.dst v') w') :
    wpList P ops Q (o :: rest) a w := by
  obtain ⟨i, hi, hz, hsz, hby⟩ := info_parts S.info
  by_cases hm : 0 < m
  · obtain ⟨g0, o0, rfl, hc⟩ := hnews hm
    refine wpList_append_lies w hgd s x t ho B e i z size bytes S.und hi hz hsz hby S.zc S.pos v n xs hs hown ⟨g0, o0, none⟩ m c news hx hl
      (fun j u hu => by
        have := hc j u hu
        unfold Addr.add
        split
        · rename_i h0; subst h0; simpa using this
        · exact this) h1 hm h63 hbytes hbase _ rfl ?_
    intro g cap w' h2 h3 h4 _
    refine h _ w' h2 ⟨h3, fun k hk => ?_⟩
    have : g = k := by simpa [Value.ownBlock] using hk
    subst this
    rcases h4 with h4 | h4
    · exact .inl h4
    · exact .inr (by omega)
  · obtain rfl : m = 0 := by omega
    obtain rfl : news = [] := List.eq_nil_of_length_eq_zero (by simpa using hl)
    refine wpList_plain hgd fun K hK => ?_
    have hrun := run_append_empty (P := P) (w := w) B t o.type e i size S.und hi v n xs hown ad c
    unfold Oper.wp
    simp only [execOp, ho, resolve, invoke, builtin, Sem.run_bind, Sem.run_pure, Result.andThen_ok, List.map_toArray, List.map_cons, List.map_nil, hs, hx, hrun]
    exact hK _ _ (h v w (by simpa using hown) (Grew.refl w v))


theorem Tryz.entSl : SlN Tryz.prog 38 70 (.agg #[.int .u64 0, .string ⟨#[]⟩]) 2 24 := ⟨Tryz.underlying38, by kernel_rfl, rfl, by decide⟩

/-- The cells of entries. -/
def entC (l : List Ent) : List Value := l.flatMap fun x => [.int .u64 (x.1 : Int), .string x.2]
theorem entC_append (a b : List Ent) : entC (a ++ b) = entC a ++ entC b := List.flatMap_append ..
theorem entC_length (l : List Ent) : (entC l).length = l.length * 2 := by
  induction l with
  | nil => rfl
  | cons x l ih => simp only [entC, List.flatMap_cons, List.length_append, List.length_cons, List.length_nil] at ih ⊢; omega
theorem entC_get : ∀ (l : List Ent) (i : Nat) (x : Ent), l[i]? = some x → (entC l)[i * 2]? = some (.int .u64 (x.1 : Int)) ∧ (entC l)[i * 2 + 1]? = some (.string x.2)
  | [], _, _, h => by cases h
  | y :: l, 0, x, h => by
    obtain rfl : y = x := by simpa using h
    exact ⟨rfl, rfl⟩
  | y :: l, i + 1, x, h => by
    have := entC_get l i x (by simpa using h)
    have e : (entC (y :: l)) = .int .u64 (y.1 : Int) :: .string y.2 :: entC l := rfl
    rw [e, show (i + 1) * 2 = i * 2 + 1 + 1 by omega]
    exact this
theorem entC_one (l : List Ent) : ∀ u ∈ entC l, u.oneCell' = true := by
  intro u hu
  simp only [entC, List.mem_flatMap, List.mem_cons, List.not_mem_nil, or_false] at hu
  obtain ⟨x, _, rfl | rfl⟩ := hu <;> rfl
theorem entC_take : ∀ (l : List Ent) (k : Nat), entC (l.take k) = (entC l).take (k * 2)
  | [], k => by simp [entC]
  | x :: l, 0 => by simp [entC]
  | x :: l, k + 1 => by
    have e : (entC (x :: l)) = .int .u64 (x.1 : Int) :: .string x.2 :: entC l := rfl
    have e2 : (entC (x :: l.take k)) = .int .u64 (x.1 : Int) :: .string x.2 :: entC (l.take k) := rfl
    rw [List.take_succ_cons, e2, e, show (k + 1) * 2 = k * 2 + 1 + 1 by omega, List.take_succ_cons, List.take_succ_cons, entC_take l k]

/-- The slice value v owns these entries; no block below B is its own. -/
def EOwn (w : World) (B : Nat) (v : Value) (l : List Ent) : Prop := w.ownsRow B 70 2 v l.length (entC l)
theorem EOwn.nil (w : World) (B : Nat) : EOwn w B (.slice none 0 0) [] := World.ownsRow_nil _ _ _ _
theorem EOwn.low {w : World} {B : Nat} {v : Value} {l : List Ent} (h : EOwn w B v l) : ∀ k, v.ownBlock = some k → B ≤ k := ownN_low h
theorem EOwn.lt {w : World} {B : Nat} {v : Value} {l : List Ent} (h : EOwn w B v l) : ∀ k, v.ownBlock = some k → k < w.heap.size := fun k hk => (World.ownsRow.lt h k hk).2
theorem EOwn.mv {w w' : World} {B : Nat} {v : Value} {l : List Ent} (h : EOwn w B v l) (hb : ∀ k, v.ownBlock = some k → w'.heap[k]? = w.heap[k]?) : EOwn w' B v l := ownN_mv h hb
theorem EOwn.later {w w' : World} {B : Nat} {v : Value} {l : List Ent} (h : EOwn w B v l) (hb : Below w.heap.size w w') : EOwn w' B v l := h.mv (fun k hk => hb.block k (EOwn.lt h k hk))
theorem EOwn.base {w : World} {B B' : Nat} {v : Value} {l : List Ent} (h : EOwn w B v l) (hB : ∀ k, v.ownBlock = some k → B' ≤ k) : EOwn w B' v l := ownN_base h hB
theorem EOwn.shape {w : World} {B : Nat} {v : Value} {l : List Ent} (h : EOwn w B v l) : ∃ a c, v = .slice a l.length c ∧ l.length ≤ c ∧ c ≤ maxLen ∧ ∀ x, a = some x → x = ⟨x.block, 0, none⟩ := by
  rcases h.2 with ⟨h1, h2⟩ | ⟨g, cap, cur, hv, _, _, hn, hm, _⟩
  · exact ⟨none, 0, by rw [h1, h2], by omega, by decide, fun _ h => by cases h⟩
  · exact ⟨_, _, hv, hn, hm, fun x h => by injection h with h; rw [← h]⟩

/-- The slice's elements are these entries. -/
def ESl (w : World) (v : Value) (l : List Ent) : Prop := ∃ a c, v = .slice a l.length c ∧ l.length ≤ c ∧ (l ≠ [] → ∃ g o, a = some ⟨g, o, none⟩ ∧ g < w.heap.size ∧
  ∀ i x, l[i]? = some x → w.cell? ⟨g, o + i * 2, none⟩ = some (.int .u64 (x.1 : Int)) ∧ w.cell? ⟨g, o + i * 2 + 1, none⟩ = some (.string x.2))
theorem ESl.later {w w' : World} {v : Value} {l : List Ent} (h : ESl w v l) (hb : Below w.heap.size w w') : ESl w' v l := by
  obtain ⟨a, c, h1, h2, h3⟩ := h
  refine ⟨a, c, h1, h2, fun hne => ?_⟩
  obtain ⟨g, o, ha, hg, hc⟩ := h3 hne
  refine ⟨g, o, ha, Nat.lt_of_lt_of_le hg hb.size, fun i x hx => ?_⟩
  have := hc i x hx
  exact ⟨cellB hb this.1, cellB hb this.2⟩
theorem ESl.mv {w w' : World} {v : Value} {l : List Ent} (h : ESl w v l) (hs : w.heap.size ≤ w'.heap.size) (hb : ∀ k, v.ownBlock = some k → w'.heap[k]? = w.heap[k]?) : ESl w' v l := by
  obtain ⟨a, c, h1, h2, h3⟩ := h
  refine ⟨a, c, h1, h2, fun hne => ?_⟩
  obtain ⟨g, o, ha, hg, hc⟩ := h3 hne
  have e := hb g (by rw [h1, ha]; rfl)
  refine ⟨g, o, ha, Nat.lt_of_lt_of_le hg hs, fun i x hx => ?_⟩
  have := hc i x hx
  exact ⟨by rw [World.cell?_of_block (w := w) (a := ⟨g, o + i * 2, none⟩) e]; exact this.1, by rw [World.cell?_of_block (w := w) (a := ⟨g, o + i * 2 + 1, none⟩) e]; exact this.2⟩
theorem EOwn.sl {w : World} {B : Nat} {v : Value} {l : List Ent} (h : EOwn w B v l) : ESl w v l := by
  obtain ⟨a, c, hv, hc, _⟩ := EOwn.shape h
  refine ⟨a, c, hv, hc, fun hne => ?_⟩
  rcases h.2 with ⟨h1, h2⟩ | ⟨g, cap, cur, he, hB, hg, hn, hm, hs, ht⟩
  · exact absurd (List.eq_nil_of_length_eq_zero h2) hne
  · rw [hv] at he
    injection he with h5 h6 h7
    refine ⟨g, 0, h5, block_lt hg, fun i x hx => ?_⟩
    have hcell : ∀ (j : Nat) (u : Value), (entC l)[j]? = some u → w.cell? ⟨g, 0 + j, none⟩ = some u := fun j u hu => by
      have hj : j < (entC l).length := (List.getElem?_eq_some_iff.1 hu).1
      rw [← ht, List.getElem?_take] at hu
      split at hu
      · unfold World.cell?
        rw [hg]
        simpa using hu
      · cases hu
    obtain ⟨g1, g2⟩ := entC_get l i x hx
    exact ⟨hcell _ _ g1, hcell _ _ g2⟩
/-- The cells one by one. -/
theorem ESl.news {w : World} {g o : Nat} {l : List Ent} (hc : ∀ i x, l[i]? = some x → w.cell? ⟨g, o + i * 2, none⟩ = some (.int .u64 (x.1 : Int)) ∧ w.cell? ⟨g, o + i * 2 + 1, none⟩ = some (.string x.2)) :
    ∀ j u, (entC l)[j]? = some u → w.cell? ⟨g, o + j, none⟩ = some u := fun j u hu => by
  have hj := (List.getElem?_eq_some_iff.1 hu).1
  rw [entC_length] at hj
  have hi : j / 2 < l.length := by omega
  obtain ⟨x, hx⟩ : ∃ x, l[j / 2]? = some x := ⟨_, List.getElem?_eq_getElem hi⟩
  obtain ⟨q1, q2⟩ := hc _ x hx
  obtain ⟨e1, e2⟩ := entC_get l _ x hx
  rcases (by omega : j = j / 2 * 2 ∨ j = j / 2 * 2 + 1) with h | h
  · rw [h] at hu ⊢
    rw [e1] at hu
    injection hu with hu
    rw [← hu]; exact q1
  · rw [h] at hu ⊢
    rw [e2] at hu
    injection hu with hu
    rw [← hu]; exact q2

/-- append of a slice of entries. -/
theorem list_appE {ops : Array Oper} {rest : List Oper} {o : Oper} {a : Act} {w : World} {Q : Exit → Act → World → Prop} (hgd : o.guard = none) (s x : Operand)
    (ho : o.op = .call { callee := .builtin .append, args := #[s, x], argTypes := #[38, 38] })
    (B : Nat) (v : Value) (l : List Ent) (hs : a.eval s = v) (hown : EOwn w B v l)
    (xv : Value) (m : List Ent) (hx : a.eval x = xv) (hsl : ESl w xv m)
    (hl : l.length + m.length ≤ 1000000000) (hbase : B ≤ w.heap.size)
    (h : ∀ v' w', EOwn w' B v' (l ++ m) → Grew w v w' v' → wpList Tryz.prog ops Q rest (a.put o.dst v') w') :
    wpList Tryz.prog ops Q (o :: rest) a w := by
  obtain ⟨ad, c, rfl, _, hcells⟩ := hsl
  refine list_appN2 Tryz.entSl hgd s x ho B v l.length (entC l) hs hown ad m.length c (entC m) hx (entC_length m) (fun hm => ?_) (entC_one m) (by unfold maxLen; omega) (by omega) hbase ?_
  · obtain ⟨g, o', rfl, _, hc⟩ := hcells (fun e => by rw [e] at hm; simp at hm)
    exact ⟨g, o', rfl, ESl.news hc⟩
  · intro v' w' h1 h2
    refine h v' w' ?_ h2
    unfold EOwn
    rw [List.length_append, entC_append]
    exact h1
/-- append of one entry that was laid just now. -/
theorem list_appE1 {ops : Array Oper} {rest : List Oper} {o : Oper} {a : Act} {w : World} {Q : Exit → Act → World → Prop} (hgd : o.guard = none) (s x : Operand)
    (ho : o.op = .call { callee := .builtin .append, args := #[s, x], argTypes := #[38, 38] })
    (B : Nat) (v : Value) (l : List Ent) (hs : a.eval s = v) (hown : EOwn w B v l)
    (g0 c : Nat) (p : Ent) (hx : a.eval x = .slice (some ⟨g0, 0, none⟩) 1 c) (hblk : w.heap[g0]? = some (.cells #[.int .u64 (p.1 : Int), .string p.2] 70 (0, 0)))
    (hl : l.length + 1 ≤ 1000000000) (hbase : B ≤ w.heap.size)
    (h : ∀ v' w', EOwn w' B v' (l ++ [p]) → Grew w v w' v' → wpList Tryz.prog ops Q rest (a.put o.dst v') w') :
    wpList Tryz.prog ops Q (o :: rest) a w := by
  refine list_appN Tryz.entSl hgd s x ho B v l.length (entC l) hs hown g0 1 c [.int .u64 (p.1 : Int), .string p.2] hx hblk rfl (by simp [Value.oneCell']) (by omega) (by unfold maxLen; omega) (by omega) hbase ?_
  intro g cap w' h1 h2
  refine h _ w' ?_ h2
  unfold EOwn
  rw [List.length_append, entC_append]
  exact h1
/-- v[:k]. -/
theorem EOwn.cut {w : World} {B : Nat} {a : Option Addr} {cap : Nat} {l : List Ent} (h : EOwn w B (.slice a l.length cap) l) (k : Nat) (hk : k ≤ l.length) : EOwn w B (.slice a k cap) (l.take k) := by
  have hlen : (l.take k).length = k := by rw [List.length_take]; omega
  refine ⟨by rw [entC_length], ?_⟩
  rcases h.2 with ⟨h1, h2⟩ | ⟨g, cap', cur, he, hB, hg, hn, hm, hs, ht⟩
  · injection h1 with h3 h4 h5
    subst h3 h5
    have : k = 0 := by omega
    subst this
    exact .inl ⟨rfl, hlen⟩
  · injection he with h5 h6 h7
    subst h5 h7
    refine .inr ⟨g, cap, cur, by rw [hlen], hB, hg, by omega, hm, hs, ?_⟩
    rw [hlen, entC_take, ← ht, List.take_take]
    congr 1; omega
theorem EOwn.zero {w : World} (B : Nat) {a : Option Addr} {cap : Nat} {l : List Ent} (h : EOwn w B (.slice a l.length cap) l) : (∃ g, a = some ⟨g, 0, none⟩) ∨ (a = none ∧ cap = 0 ∧ l = []) := by
  rcases h.2 with ⟨h1, h2⟩ | ⟨g, cap', cur, he, _⟩
  · injection h1 with h3 h4 h5
    exact .inr ⟨h3, h5, List.eq_nil_of_length_eq_zero h2⟩
  · injection he with h5 h6 h7
    exact .inl ⟨g, h5⟩

theorem zero_cells (n : Nat) : (Builtin.zeroCells (Value.agg #[.int .u64 0, .string ⟨#[]⟩]).cells n).toList.length = n * 2 ∧ ∀ v ∈ (Builtin.zeroCells (Value.agg #[.int .u64 0, .string ⟨#[]⟩]).cells n).toList, v.oneCell' = true := by
  have e : (Value.agg #[.int .u64 0, .string ⟨#[]⟩]).cells = #[.int .u64 0, .string ⟨#[]⟩] := rfl
  rw [e]
  refine ⟨by simp [Builtin.zeroCells], fun v hv => ?_⟩
  simp only [Builtin.zeroCells, Array.toList_map, List.mem_map] at hv
  obtain ⟨i, _, rfl⟩ := hv
  have h2 : (#[Value.int IntKind.u64 0, Value.string ⟨#[]⟩] : Array Value).size = 2 := rfl
  rw [h2]
  rcases (by omega : i % 2 = 0 ∨ i % 2 = 1) with h | h <;> rw [h] <;> rfl

/-- clear(s[k:]) behind what is owned: that stays. -/
theorem clear_behind {w : World} {B g n cap k ty : Nat} {l : List Ent} (h : EOwn w B (.slice (some ⟨g, 0, none⟩) k cap) l) (hl : l.length = k) (hn : k < n) (hnc : n ≤ cap) :
    ∃ w', (Builtin.clear_ #[38] ty #[.slice (some ⟨g, k * 2, none⟩) (n - k) (cap - k)]).run Tryz.prog w = .ok (.tuple #[]) w' ∧ EOwn w' B (.slice (some ⟨g, 0, none⟩) k cap) l ∧ Only g w w' := by
  rcases h.2 with ⟨h1, _⟩ | ⟨g', cap', cur, he, hB, hg, hn', hm, hs, ht⟩
  · cases h1
  · injection he with h5 h6 h7
    injection h5 with h5
    obtain rfl : g = g' := by simpa using h5
    subst h7
    obtain ⟨zl, z1⟩ := zero_cells (n - k)
    obtain ⟨vs, hvs⟩ : ∃ vs, vs = (Builtin.zeroCells (Value.agg #[.int .u64 0, .string ⟨#[]⟩]).cells (n - k)).toList := ⟨_, rfl⟩
    rw [← hvs] at zl z1
    have hfit : k * 2 + vs.length ≤ cur.size := by rw [zl, hs]; omega
    have hst := run_storeCells_cells (P := Tryz.prog) g (k * 2) vs 0 w (fun j hj => by
      have : k * 2 + j < cur.size := by omega
      simp [World.cell?, hg, this]) (fun j _ => by simp [World.frozen?, hg]) z1
    simp only [Nat.add_zero] at hst
    obtain ⟨q1, q2⟩ := setCells_heap vs w g (k * 2) cur 70 hg hfit
    refine ⟨_, ?_, ⟨h.1, .inr ⟨g, cap, _, by rw [hl], hB, q1, by omega, hm, ?_, ?_⟩⟩, q2⟩
    · have hz : ∀ w, (zeroValue 70).run Tryz.prog w = .ok (.agg #[.int .u64 0, .string ⟨#[]⟩]) w := fun w => by
        obtain ⟨i, hi, hz, _, _⟩ := info_parts Tryz.entSl.info
        simp [zeroValue, typeInfo, hi, hz]
      obtain ⟨m, hm'⟩ : ∃ m, n - k = m + 1 := ⟨n - k - 1, by omega⟩
      have hst' := hst
      rw [hvs, hm'] at hst'
      simp only [hm', Builtin.clear_, List.getElem?_toArray, List.getElem?_cons_zero, Sem.run_bind, Sem.run_pure, Result.andThen_ok, run_underlying Tryz.underlying38, hz, hst', hvs]
    · simp only [List.size_toArray, List.length_append, List.length_take, List.length_drop, Array.length_toList]
      omega
    · rw [hl] at ht ⊢
      rw [List.append_assoc, List.take_append_of_le_length (by rw [List.length_take, Array.length_toList]; omega), List.take_take, Nat.min_self]
      exact ht
end Go.Proofs.YtflkdgghpmhbgaaGreat
namespace Go.Proofs.YtflkdgghpmhbgaaGreat
open Go.RowKit

/-- Block b is a writer that holds these bytes, in the slice v. -/
def WrP (b : Nat) (p v : Value) (l : List UInt8) (w : World) : Prop := w.heap[b]? = some (.cells #[p, v] 233 (0, 0)) ∧ w.ownsRow 0 5 1 v (Lib.byteCells l).length (Lib.byteCells l) ∧ v.ownBlock ≠ some b
def WrU (b : Nat) (v : Value) (l : List UInt8) (w : World) : Prop := WrP b (.pointer (some ⟨b, 0, none⟩)) v l w
def Wr (b : Nat) (v : Value) (l : List UInt8) (w : World) : Prop := WrP b (.pointer none) v l w ∨ WrU b v l w
section
variable {b : Nat} {p v : Value} {l : List UInt8} {w w' : World}
theorem WrU.wr (h : WrU b v l w) : Wr b v l w := .inr h
theorem WrP.lt (h : WrP b p v l w) : b < w.heap.size := (Array.getElem?_eq_some_iff.1 h.1).1
theorem WrP.vlt (h : WrP b p v l w) : ∀ k, v.ownBlock = some k → k < w.heap.size := fun k hk => (World.ownsRow.lt h.2.1 k hk).2
theorem Wr.lt (h : Wr b v l w) : b < w.heap.size := by
  rcases h with h | h
  · exact h.lt
  · exact WrP.lt h
theorem Wr.vlt (h : Wr b v l w) : ∀ k, v.ownBlock = some k → k < w.heap.size := by
  rcases h with h | h
  · exact h.vlt
  · exact WrP.vlt h
theorem WrP.cell0 (h : WrP b p v l w) : w.cell? ⟨b, 0, none⟩ = some p := by
  obtain ⟨hb, _⟩ := h; simp [World.cell?, hb]
theorem WrP.frozen0 (h : WrP b p v l w) : w.frozen? ⟨b, 0, none⟩ = false := by
  obtain ⟨hb, _⟩ := h; simp [World.frozen?, hb]
theorem WrP.shape (h : WrP b p v l w) : w.shape? b = some (233, 2) := by
  obtain ⟨hb, _⟩ := h; simp [World.shape?, hb]
theorem WrP.used (h : WrP b p v l w) (q : Value) : WrP b q v l (w.setCell ⟨b, 0, none⟩ q) := by
  obtain ⟨hb, hown, hne⟩ := h
  refine ⟨by simp [World.setCell, Array.getElem?_modify, hb], ?_, hne⟩
  exact hown.kept (row := some b) ⟨rfl, rfl, rfl, by simp [World.setCell], fun k _ hk => Below.heap_setCell _ _ _ _ (fun e => hk (by simp [e]))⟩ (Or.inr hne)
theorem WrP.put {v' : Value} (hb : w.heap[b]? = some (.cells #[p, v] 233 (0, 0))) (hown : w.ownsRow 0 5 1 v' (Lib.byteCells l).length (Lib.byteCells l)) :
    WrP b p v' l (w.setCell ⟨b, 1, none⟩ v') := by
  have hne := Lib.ownBlock_ne hown hb (by decide)
  refine ⟨by simp [World.setCell, Array.getElem?_modify, hb], ?_, hne⟩
  exact hown.kept (row := some b) ⟨rfl, rfl, rfl, by simp [World.setCell], fun k _ hk => Below.heap_setCell _ _ _ _ (fun e => hk (by simp [e]))⟩ (Or.inr hne)
theorem WrP.mv (h : WrP b p v l w) (hb : w'.heap[b]? = w.heap[b]?) (hv : ∀ k, v.ownBlock = some k → w'.heap[k]? = w.heap[k]?) : WrP b p v l w' :=
  ⟨by rw [hb]; exact h.1, ownN_mv h.2.1 hv, h.2.2⟩
theorem Wr.mv (h : Wr b v l w) (hb : w'.heap[b]? = w.heap[b]?) (hv : ∀ k, v.ownBlock = some k → w'.heap[k]? = w.heap[k]?) : Wr b v l w' := by
  rcases h with h | h
  · exact .inl (h.mv hb hv)
  · exact .inr (WrP.mv h hb hv)
theorem Wr.later (h : Wr b v l w) (hb : Below w.heap.size w w') : Wr b v l w' := h.mv (hb.block b h.lt) fun k hk => hb.block k (h.vlt k hk)
theorem Wr.drewN (h : Wr b v l w) (n : Nat) : Wr b v l (w.drewN n) := h
/-- A writer that nobody wrote to. -/
theorem Wr.fresh (h : w.heap[b]? = some (.cells #[.pointer none, .slice none 0 0] 233 (0, 0))) : Wr b (.slice none 0 0) [] w :=
  .inl ⟨h, World.ownsRow_nil _ _ _ _, by simp [Value.ownBlock]⟩
end
theorem Ch.ofGrew {b : Nat} {w w' : World} {v v' : Value} (h : Grew w v w' v') : Ch b v w w' v' :=
  ⟨h.grow.os, h.grow.tape, h.grow.output, h.grow.size, fun _ hj _ hv => h.block hj hv, h.loc⟩
theorem Ch.alloc {b : Nat} (v : Value) (w : World) (o : Obj) : Ch b v w (w.alloc o) v := Ch.ofBelow v ((Below.refl _ _).alloc (Nat.le_refl _) o)
theorem Ch.drewN {b : Nat} (v : Value) (w : World) (n : Nat) : Ch b v w (w.drewN n) v := ⟨rfl, rfl, rfl, Nat.le_refl _, fun _ _ _ _ => rfl, fun _ h => .inl h⟩

set_option maxRecDepth 100000 in
theorem check_used (b : Nat) (w : World) (h0 : w.cell? ⟨b, 0, none⟩ = some (.pointer (some ⟨b, 0, none⟩))) :
    Calls Tryz.prog 203 #[.pointer (some ⟨b, 0, none⟩)] w fun e w' => e = .returned (.tuple #[]) ∧ w' = w := by
  obtain ⟨j, hj, _⟩ := Option.map_eq_some_iff.1 (show (Tryz.prog.info? 231).map (·.size) = some 2 by kernel_rfl)
  go_enter Tryz.func203, Tryz.ntmps203
  go_wp2_with fail
  rw [Lib.run_neq_ptr_same w _ Tryz.underlying229 hj]
  go_wp2_with fail
  go_end0
  exact ⟨rfl, rfl⟩

set_option maxRecDepth 100000 in
set_option maxHeartbeats 1000000 in
theorem check_fresh (b : Nat) (w : World) (h0 : w.cell? ⟨b, 0, none⟩ = some (.pointer none)) (hsh : w.shape? b = some (233, 2)) (hfz : w.frozen? ⟨b, 0, none⟩ = false) :
    Calls Tryz.prog 203 #[.pointer (some ⟨b, 0, none⟩)] w fun e w' => e = .returned (.tuple #[]) ∧ w' = w.setCell ⟨b, 0, none⟩ (.pointer (some ⟨b, 0, none⟩)) := by
  obtain ⟨j, hj, hjs⟩ := Option.map_eq_some_iff.1 (show (Tryz.prog.info? 231).map (·.size) = some 2 by kernel_rfl)
  go_enter Tryz.func203, Tryz.ntmps203
  go_wp2_with fail
  rw [Lib.run_to_unsafe w ⟨b, 0, none⟩ Tryz.underlying229 Tryz.underlying262 hj (by rw [hjs]; decide) hsh (Nat.zero_lt_succ 1)]
  simp only [Result.andThen]
  rw [Oper.upon_value]
  go_wp2_with fail
  rw [run_callFunc_extern Tryz.func205 (by kernel_rfl) (by kernel_rfl) (by kernel_rfl) (e := Extern.AbiNoEscape.same) (by kernel_rfl)]
  rw [Lib.run_noEscape]
  simp only [Result.andThen]
  rw [Oper.upon_value]
  go_wp2_with fail
  rw [Lib.run_from_unsafe w ⟨b, 0, none⟩ Tryz.underlying262 Tryz.underlying229 hj hsh (by kernel_rfl)]
  simp only [Result.andThen]
  rw [Oper.upon_value]
  go_wp2_with fail
  go_end0
  exact ⟨rfl, rfl⟩

theorem check_prog (b : Nat) (v : Value) (l : List UInt8) (w : World) (h : Wr b v l w) :
    Calls Tryz.prog 203 #[.pointer (some ⟨b, 0, none⟩)] w fun e w' => e = .returned (.tuple #[]) ∧ (WrU b v l w' ∧ Ch b v w w' v) := by
  rcases h with h | h
  · refine (check_fresh b w h.cell0 h.shape h.frozen0).mono ?_
    rintro e w' ⟨rfl, rfl⟩
    exact ⟨rfl, h.used _, Ch.set b 0 v w _⟩
  · refine (check_used b w (WrP.cell0 h)).mono ?_
    rintro e w' ⟨rfl, rfl⟩
    exact ⟨rfl, h, Ch.refl b v _⟩

theorem Tryz.infoB : (Tryz.prog.info? 5).map (fun i => (i.zero, i.size, i.bytes)) = some (some (.int .u8 0), 1, 1) := by kernel_rfl

section
variable {P : Program} {w : World}
/-- append(b, s...), s a string: where the new slice lies. -/
theorem run_append_string_grew (base : Nat) (t u ty e : TypeId) (i : TypeInfo) (ht : P.underlying t = some (.slice e)) (hu : P.underlying u = some .string) (hi : P.info? e = some i) (hz : i.zero = some (.int .u8 0))
    (hsize : i.size = 1) (hby : i.bytes = 1)
    (v : Value) (n : Nat) (xs : List Value) (hown : w.ownsRow base e 1 v n xs) (s : ByteArray)
    (h63 : n + s.size ≤ maxLen) (hbytes : n + s.size ≤ 140737488355328) (hbase : base ≤ w.heap.size) :
    ∃ v' w', (Builtin.append_ #[t, u] ty #[v, .string s]).run P w = .ok v' w' ∧ w'.ownsRow base e 1 v' (n + s.size) (xs ++ Lib.strCells s) ∧ Grew w v w' v' := by
  obtain ⟨v', w', hr, h2, h3, _⟩ := Lib.run_append_own_string (P := P) w base t u ty e i ht hu hi hz hsize hby v n xs hown s h63 hbytes hbase
  refine ⟨v', w', hr, h2, h3, ?_⟩
  rcases hown.2 with ⟨rfl, rfl⟩ | ⟨g, cap, cur, rfl, hbg, hg, hnc, hcm, hcs, htake⟩
  · have hown' : w.ownsRow w.heap.size e 1 (.slice none 0 0) 0 xs := by
      have hx : xs = [] := List.eq_nil_of_length_eq_zero (by simpa using hown.1)
      subst hx
      exact World.ownsRow_nil _ _ _ _
    obtain ⟨v2, w2, hr2, h22, _, _⟩ := Lib.run_append_own_string (P := P) w w.heap.size t u ty e i ht hu hi hz hsize hby _ 0 xs hown' s h63 hbytes (Nat.le_refl _)
    rw [hr] at hr2
    obtain ⟨rfl, rfl⟩ : v' = v2 ∧ w' = w2 := by injection hr2 with a b; exact ⟨a, b⟩
    exact fun k hk => .inr (ownN_low h22 k hk)
  · by_cases hroom : n + s.size ≤ cap
    · have hr2 := Lib.run_append_room_string (P := P) w t u ty e i ht hu hi hsize g n cap cur hg s hroom (by omega)
      rw [hr] at hr2
      injection hr2 with a b
      subst a
      exact fun k hk => .inl hk
    · have holds : ∀ j u, xs[j]? = some u → w.cell? ((⟨g, 0, none⟩ : Addr).add j) = some u := hown.cells (g := g) rfl
      have hr2 := Lib.run_append_grow_string (P := P) w t u ty e i (.int .u8 0) ht hu hi hz ⟨g, 0, none⟩ n cap xs (by rw [hsize]; simpa using hown.1) holds s (by omega) (by unfold maxLen at h63; omega) (by rw [hby]; exact growslice_fits (by omega) (by omega))
      rw [hr] at hr2
      injection hr2 with a b
      subst a
      intro k hk
      have : w.heap.size = k := by simpa [Value.ownBlock] using hk
      exact .inr (by omega)
end
theorem byteOwn1 {w : World} {e : Nat} {v : Value} {l : List UInt8} {c : UInt8} (h : w.ownsRow 0 e 1 v ((Lib.byteCells l).length + 1) (Lib.byteCells l ++ [.int .u8 (c.toNat : Int)])) : w.ownsRow 0 e 1 v (Lib.byteCells (l ++ [c])).length (Lib.byteCells (l ++ [c])) := by
  have e1 : Lib.byteCells (l ++ [c]) = Lib.byteCells l ++ [.int .u8 (c.toNat : Int)] := by rw [Lib.byteCells_append]; rfl
  rw [e1, List.length_append]
  exact h
theorem byteOwnS {w : World} {e : Nat} {v : Value} {l : List UInt8} {s : ByteArray} (h : w.ownsRow 0 e 1 v ((Lib.byteCells l).length + s.size) (Lib.byteCells l ++ Lib.strCells s)) : w.ownsRow 0 e 1 v (Lib.byteCells (l ++ s.data.toList)).length (Lib.byteCells (l ++ s.data.toList)) := by
  rw [Lib.byteCells_append, List.length_append, ← Lib.strCells_eq, Lib.strCells_length]
  exact h
theorem Tryz.byteSl : SlN Tryz.prog 122 5 (.int .u8 0) 1 1 := ⟨Tryz.underlying122, by kernel_rfl, rfl, by decide⟩

set_option maxHeartbeats 2000000 in
set_option maxRecDepth 100000 in
theorem wbyte_prog (b : Nat) (v : Value) (l : List UInt8) (c : UInt8) (w : World) (h : Wr b v l w) (hlen : l.length ≤ 10000000000) :
    Calls Tryz.prog 193 #[.pointer (some ⟨b, 0, none⟩), .int .u8 (c.toNat : Int)] w fun e w' => e = .returned .nilIface ∧ ∃ v', WrU b v' (l ++ [c]) w' ∧ Ch b v w w' v' := by
  have HC := Lib.hid (check_prog b v l w h)
  have hl : (Lib.byteCells l).length = l.length := Lib.byteCells_length l
  have hlen' : (Lib.byteCells l).length ≤ 10000000000 := by rw [hl]; exact hlen
  clear hl hlen h
  go_enter Tryz.func193, Tryz.ntmps193
  go_wp2_with fail
  refine HC.out.mono ?_
  rintro e w1 ⟨rfl, h1, hb1⟩
  obtain ⟨hbk, hown, hne⟩ := h1
  have c0 : w1.cell? ⟨b, 0, none⟩ = some (.pointer (some ⟨b, 0, none⟩)) := by rw [Lib.cell_of_heap hbk]; rfl
  have c1 : w1.cell? ⟨b, 1, none⟩ = some v := by rw [Lib.cell_of_heap hbk]; rfl
  go_wp2_with (at_builtin; go_loud (refine list_appN Tryz.byteSl rfl _ _ rfl 0 v _ _ rfl (World.ownsRow.alloc hown _) w1.heap.size 1 _ [.int .u8 (c.toNat : Int)] rfl (heap_alloc_new _ _) rfl ?c2 (by decide) ?c3 ?c4 (Nat.zero_le _) ?_))
  case c2 => intro u hu; simp at hu; subst hu; rfl
  case c3 => unfold maxLen; omega
  case c4 => omega
  intro g cap w2 hown' hgrew
  have hlt : b < w1.heap.size := (Array.getElem?_eq_some_iff.1 hbk).1
  have hb2 : w2.heap[b]? = some (.cells #[.pointer (some ⟨b, 0, none⟩), v] 233 (0, 0)) := by
    rw [hgrew.block (b := b) (by simp; omega) hne, Lib.alloc_old w1 _ b hlt]
    exact hbk
  have d0 : w2.cell? ⟨b, 0, none⟩ = some (.pointer (some ⟨b, 0, none⟩)) := by rw [Lib.cell_of_heap hb2]; rfl
  have d1 : w2.cell? ⟨b, 1, none⟩ = some v := by rw [Lib.cell_of_heap hb2]; rfl
  have f1 : w2.frozen? ⟨b, 1, none⟩ = false := Lib.frozen_of_heap hb2 1
  have hput : WrU b _ (l ++ [c]) _ := WrP.put hb2 (byteOwn1 hown')
  have hbel := ((hb1.trans (Ch.alloc (b := b) v w1 _)).trans (Ch.ofGrew hgrew)).trans (Ch.set b 1 _ w2 (.slice (some ⟨g, 0, none⟩) ((Lib.byteCells l).length + 1) cap))
  have HP := Lib.hid hput
  have HB := Lib.hid hbel
  clear hput hbel hb2 hgrew hown' hown hbk hne hlen' hb1
  go_wp2_with fail
  go_ret
  exact ⟨rfl, _, HP.out, HB.out⟩

set_option maxHeartbeats 2000000 in
set_option maxRecDepth 100000 in
theorem wstring_prog (b : Nat) (v : Value) (l : List UInt8) (s : ByteArray) (w : World) (h : Wr b v l w) (hlen : l.length + s.size ≤ 10000000000) :
    Calls Tryz.prog 202 #[.pointer (some ⟨b, 0, none⟩), .string s] w fun e w' => e = .returned (.tuple #[.int .i64 s.size, .nilIface]) ∧ ∃ v', WrU b v' (l ++ s.data.toList) w' ∧ Ch b v w w' v' := by
  have HC := Lib.hid (check_prog b v l w h)
  have hl : (Lib.byteCells l).length = l.length := Lib.byteCells_length l
  have hlen' : (Lib.byteCells l).length + s.size ≤ 10000000000 := by rw [hl]; exact hlen
  clear hl hlen h
  obtain ⟨i0, hi, hz0, hz1, hz2⟩ := info_parts Tryz.infoB
  go_enter Tryz.func202, Tryz.ntmps202
  go_wp2_with fail
  refine HC.out.mono ?_
  rintro e w1 ⟨rfl, h1, hb1⟩
  obtain ⟨hbk, hown, hne⟩ := h1
  have c0 : w1.cell? ⟨b, 0, none⟩ = some (.pointer (some ⟨b, 0, none⟩)) := by rw [Lib.cell_of_heap hbk]; rfl
  have c1 : w1.cell? ⟨b, 1, none⟩ = some v := by rw [Lib.cell_of_heap hbk]; rfl
  obtain ⟨v', w2, hrun, hown', hgrew⟩ := run_append_string_grew (P := Tryz.prog) (w := w1) 0 122 9 122 5 i0 Tryz.underlying122 Tryz.underlying9 hi hz0 hz1 hz2 v _ _ hown s (by unfold maxLen; omega) (by omega) (Nat.zero_le _)
  have hlt : b < w1.heap.size := (Array.getElem?_eq_some_iff.1 hbk).1
  have hb2 : w2.heap[b]? = some (.cells #[.pointer (some ⟨b, 0, none⟩), v] 233 (0, 0)) := by
    rw [hgrew.block (b := b) hlt hne]
    exact hbk
  have d0 : w2.cell? ⟨b, 0, none⟩ = some (.pointer (some ⟨b, 0, none⟩)) := by rw [Lib.cell_of_heap hb2]; rfl
  have d1 : w2.cell? ⟨b, 1, none⟩ = some v := by rw [Lib.cell_of_heap hb2]; rfl
  have f1 : w2.frozen? ⟨b, 1, none⟩ = false := Lib.frozen_of_heap hb2 1
  obtain ⟨ao, n', cap, rfl⟩ : ∃ ao n' cap, v' = .slice ao n' cap := by
    rcases hown'.2 with ⟨hv, _⟩ | ⟨g, cap, cur, hv, _⟩
    · exact ⟨_, _, _, hv⟩
    · exact ⟨_, _, _, hv⟩
  have hput : WrU b _ (l ++ s.data.toList) _ := WrP.put hb2 (byteOwnS hown')
  have hbel := (hb1.trans (Ch.ofGrew hgrew)).trans (Ch.set b 1 _ w2 (.slice ao n' cap))
  have hsI : (s.size : Int) ≤ 10000000000 := by omega
  have HP := Lib.hid hput
  have HB := Lib.hid hbel
  clear hput hbel hb2 hgrew hown' hown hbk hne hb1 hlen'
  go_wp2_with (at_builtin; refine list_appS rfl _ _ _ _ rfl _ _ s w2 rfl rfl hrun ?_)
  go_wp2_with fail
  go_ret2
  exact ⟨rfl, _, HP.out, HB.out⟩

theorem freeze_other (w : World) (g n j : Nat) (h : j ≠ g) : (w.freeze ⟨g, 0, none⟩ n).heap[j]? = w.heap[j]? := by
  unfold World.freeze
  split
  · rfl
  · simp [Array.getElem?_modify, Ne.symm h]
set_option maxHeartbeats 1000000 in
set_option maxRecDepth 100000 in
theorem bstring_prog (b : Nat) (v : Value) (l : List UInt8) (w : World) (h : Wr b v l w) (h0 : l ≠ []) :
    Calls Tryz.prog 175 #[.pointer (some ⟨b, 0, none⟩)] w fun e w' => e = .returned (.string ⟨l.toArray⟩) ∧ Ch b v w w' v := by
  obtain ⟨p, hbk, hown, hne⟩ : ∃ p, WrP b p v l w := by
    rcases h with h | h
    · exact ⟨_, h⟩
    · exact ⟨_, h⟩
  have hl0 : l.length ≠ 0 := by simpa using h0
  rw [Lib.byteCells_length] at hown
  obtain ⟨g, cap, cur, rfl, hbg, hg, hnc, hcm, hcs, htake⟩ : ∃ g cap cur, v = .slice (some ⟨g, 0, none⟩) l.length cap ∧ 0 ≤ g ∧ w.heap[g]? = some (.cells cur 5 (0, 0)) ∧ l.length ≤ cap ∧ cap ≤ maxLen ∧ cur.size = cap * 1 ∧ cur.toList.take (l.length * 1) = Lib.byteCells l := by
    rcases hown.2 with ⟨_, hz⟩ | ⟨g, cap, cur, hv, r⟩
    · exact absurd hz hl0
    · exact ⟨g, cap, cur, hv, r⟩
  have c1 : w.drew.cell? ⟨b, 1, none⟩ = some (.slice (some ⟨g, 0, none⟩) l.length cap) := by
    have : w.drew.heap[b]? = some (.cells #[p, .slice (some ⟨g, 0, none⟩) l.length cap] 233 (0, 0)) := hbk
    rw [Lib.cell_of_heap this]; rfl
  have hSD : (Builtin.unsafeSliceData_ #[122] 251 #[.slice (some ⟨g, 0, none⟩) l.length cap]).run Tryz.prog w.drew = .ok (.pointer (some ⟨g, 0, none⟩)) w.drew :=
    Lib.run_unsafeSliceData_row _ _ _ _ _ _ (by omega)
  have hUS : (Builtin.unsafeString_ #[251, 3] 9 #[.pointer (some ⟨g, 0, none⟩), .int .i64 l.length]).run Tryz.prog w.drew = .ok (.string ⟨l.toArray⟩) (w.drew.freeze ⟨g, 0, none⟩ l.length) := by
    refine Lib.run_unsafeString_row w.drew 251 3 9 5 Tryz.underlying251 (by kernel_rfl) g cur.size (by have hg' : w.drew.heap[g]? = some (.cells cur 5 (0, 0)) := hg; simp [World.shape?, hg']) l h0 (by omega) (by unfold maxLen at hcm; omega) ?_
    intro j x hx
    have := hown.cells (g := g) rfl j (.int .u8 x.toNat) (by simp [Lib.byteCells, hx])
    exact this
  have hgw := (Array.getElem?_eq_some_iff.1 hg).1
  have hB0 := Lib.below_freeze (Below.drew (Below.refl g w)) (p := ⟨g, 0, none⟩) (Nat.le_refl g) l.length
  have HB : Hid (Ch b (.slice (some ⟨g, 0, none⟩) l.length cap) w (w.drew.freeze ⟨g, 0, none⟩ l.length) (.slice (some ⟨g, 0, none⟩) l.length cap)) :=
    Lib.hid ⟨hB0.os, hB0.tape, hB0.output, hB0.size, fun j _ _ hj => by
      have hjg : j ≠ g := fun e => hj (by rw [e]; rfl)
      exact freeze_other w.drew g l.length j hjg, fun j hj => .inl hj⟩
  clear hnc hcm hcs htake hg hbg hown hbk hne h0 hl0 hB0 hgw
  go_enter Tryz.func175, Tryz.ntmps175
  go_wp2_with fail
  go_region
  all_goals (go_wp2_with fail; go_ret; exact ⟨rfl, HB.out⟩)
end Go.Proofs.YtflkdgghpmhbgaaGreat
namespace Go.Proofs.YtflkdgghpmhbgaaGreat
open Go.RowKit

theorem take_snoc' (s : ByteArray) (k : Nat) (h : k < s.size) : s.data.toList.take (k + 1) = s.data.toList.take k ++ [s[k]] := by
  rw [List.take_succ_eq_append_getElem (by simpa using h)]; rfl

set_option maxRecDepth 100000 in
theorem sum_prog (s : ByteArray) (w : World) (hs : s.size ≤ 10000000000) :
    Calls Tryz.prog 163 #[.string s] w fun e w' => e = .returned (.int .u64 (fnv s : Int)) ∧ w' = w := by
  rw [fnv_int]
  go_enter Tryz.func163, Tryz.ntmps163
  go_wp2_with fail
  go_loop [3, 7] (fun n i => ∃ k : Nat, k ≤ s.size ∧ i = .int .i64 k ∧ n = .int .u64 (fnvI (s.data.toList.take k))) (fun _ i => s.size - (intOf i).toNat)
  case atStart => exact ⟨0, Nat.zero_le _, rfl, rfl⟩
  case round =>
    obtain ⟨k, hk, rfl, rfl⟩ := hrel
    by_cases hlt : k < s.size
    · have e1 : Hid (fnvI (s.data.toList.take (k + 1)) = fnvS (fnvI (s.data.toList.take k)) s[k]) := Lib.hid (by rw [take_snoc' s k hlt, fnvI_snoc])
      obtain ⟨m, hm⟩ : ∃ m, fnvI (s.data.toList.take k) = m := ⟨_, rfl⟩
      rw [hm] at e1 ⊢
      clear hm
      go_wp2_with fail
      go_round
      case rel => exact ⟨k + 1, by omega, by go_num, by rw [e1.out]; rfl⟩
      case measure => simp [intOf]; omega
    · go_wp2_with fail
      go_ret
      have hke : k = s.size := by omega
      rw [hke, ← data_len, List.take_length]
      exact ⟨rfl, rfl⟩

theorem nByte_wrap (n k : Nat) (hk : k < 8) : IntKind.u8.wrap ((n : Int) / 2 ^ ((56 : Int) - 8 * (k : Int)).toNat) = ((nByte n k).toNat : Int) := by
  have e1 : ((56 : Int) - 8 * (k : Int)).toNat = 56 - 8 * k := by omega
  have e2 : ((n : Int) / 2 ^ (56 - 8 * k)) = ((n / 2 ^ (56 - 8 * k) : Nat) : Int) := by simp
  rw [e1, e2]
  simp [IntKind.wrap, IntKind.signed, IntKind.bits, nByte]
theorem numL_take (n k : Nat) (hk : k < 8) : (numL n).take (k + 1) = (numL n).take k ++ [nByte n k] := by
  match k, hk with
  | 0, _ => rfl
  | 1, _ => rfl
  | 2, _ => rfl
  | 3, _ => rfl
  | 4, _ => rfl
  | 5, _ => rfl
  | 6, _ => rfl
  | 7, _ => rfl
theorem wbyte_at (b : Nat) (v : Value) (l : List UInt8) (x : Int) (c : UInt8) (w : World) (hx : x = (c.toNat : Int)) (h : Wr b v l w) (hlen : l.length ≤ 10000000000) :
    Calls Tryz.prog 193 #[.pointer (some ⟨b, 0, none⟩), .int .u8 x] w fun e w' => e = .returned .nilIface ∧ ∃ v', WrU b v' (l ++ [c]) w' ∧ Ch b v w w' v' := by
  subst hx; exact wbyte_prog b v l c w h hlen

set_option maxHeartbeats 1000000 in
set_option maxRecDepth 100000 in
theorem wnum_prog (b : Nat) (v : Value) (l : List UInt8) (n : Nat) (w : World) (h : Wr b v l w) (hl : l.length ≤ 9000000000) (hn : n < m64) :
    Calls Tryz.prog 174 #[.pointer (some ⟨b, 0, none⟩), .int .u64 (n : Int)] w fun e w' => e = .returned (.tuple #[]) ∧ ∃ v', Wr b v' (l ++ numL n) w' ∧ Ch b v w w' v' := by
  have H := Lib.hid h
  have hn2 : (n : Int) ≤ 18446744073709551615 := by unfold m64 at hn; omega
  have hn0 : (0 : Int) ≤ (n : Int) := by omega
  clear h hn
  go_enter Tryz.func174, Tryz.ntmps174
  go_wp2_with fail
  go_loopw [4] (fun i wr => ∃ (k : Nat) (u : Value), k ≤ 8 ∧ i = .int .i64 (56 - 8 * (k : Int)) ∧ Hid (Wr b u (l ++ (numL n).take k) wr) ∧ Hid (Ch b v w wr u)) (fun i _ => (intOf i + 8).toNat)
  case atStart => exact ⟨0, v, by omega, rfl, Lib.hid (by simpa using H.out), Lib.hid (Ch.refl _ _ _)⟩
  case round =>
    obtain ⟨k, u, hk, rfl, HW, HF⟩ := hrel
    by_cases hlt : k < 8
    · have h1 : (0 : Int) ≤ 56 - 8 * (k : Int) := by omega
      have h2 : 56 - 8 * (k : Int) < 64 := by omega
      have hlen : (l ++ (numL n).take k).length ≤ 10000000000 := by rw [List.length_append, List.length_take, numL_len]; omega
      have HC := Lib.hid (wbyte_at b u _ _ (nByte n k) wr.drew (nByte_wrap n k hlt) (HW.out.drewN 1) hlen)
      rw [List.append_assoc, ← numL_take n k hlt] at HC
      have HF1 := Lib.hid (HF.out.trans (Ch.drewN (b := b) u wr 1))
      clear hlen
      go_wp2_with fail
      go_region_with ((refine HC.out.mono ?_); rintro e w1 ⟨rfl, u1, hw1, hf1⟩)
      all_goals
        have HW1 := Lib.hid hw1.wr
        have HF2 := Lib.hid (HF1.out.trans hf1)
        clear hw1 hf1
        go_wp2_with fail
        go_roundw
        case rel => exact ⟨k + 1, u1, by omega, by (congr 1; omega), HW1, HF2⟩
        case measure => simp [intOf]; omega
    · have hk8 : k = 8 := by omega
      subst hk8
      go_wp2_with fail
      go_end0
      exact ⟨rfl, u, HW.out, HF.out⟩

set_option maxRecDepth 100000 in
theorem wtext_prog (b : Nat) (v : Value) (l : List UInt8) (s : ByteArray) (w : World) (h : Wr b v l w) (hl : l.length + s.size ≤ 8000000000) :
    Calls Tryz.prog 191 #[.pointer (some ⟨b, 0, none⟩), .string s] w fun e w' => e = .returned (.tuple #[]) ∧ ∃ v', Wr b v' (l ++ textL s) w' ∧ Ch b v w w' v' := by
  have hs : (s.size : Int) ≤ 8000000000 := by omega
  have H := Lib.hid (wnum_prog b v l s.size w h (by omega) (by unfold m64; omega))
  have HL := Lib.hid hl
  clear h hl
  go_enter Tryz.func191, Tryz.ntmps191
  go_wp2_with fail
  refine H.out.mono ?_
  rintro e w1 ⟨rfl, v1, hw1, hf1⟩
  have H2 := Lib.hid (wstring_prog b v1 _ s w1 hw1 (by have := HL.out; rw [List.length_append, numL_len]; omega))
  have HF1 := Lib.hid hf1
  clear hw1 hf1
  go_wp2_with fail
  refine H2.out.mono ?_
  rintro e w2 ⟨rfl, v2, hw2, hf2⟩
  have HW2 := Lib.hid hw2
  have HF2 := Lib.hid hf2
  clear hw2 hf2
  go_wp2_with fail
  go_end0
  refine ⟨rfl, v2, ?_, HF1.out.trans HF2.out⟩
  have := HW2.out.wr
  rw [List.append_assoc] at this
  exact this

/-- The slice's cells lie in another block than b and u's. -/
def Apart (b : Nat) (u v : Value) : Prop := ∀ k, v.ownBlock = some k → k ≠ b ∧ u.ownBlock ≠ some k
theorem ESl.ch {w w' : World} {b : Nat} {u u' v : Value} {l : List Ent} (h : ESl w v l) (hv : l ≠ [] → Apart b u v) (hf : Ch b u w w' u') : ESl w' v l ∧ (l ≠ [] → Apart b u' v) := by
  obtain ⟨a, c, h1, h2, h3⟩ := h
  refine ⟨⟨a, c, h1, h2, fun hne => ?_⟩, fun hne k hk => ?_⟩
  · obtain ⟨g, o, ha, hg, hc⟩ := h3 hne
    obtain ⟨q1, q2⟩ := hv hne g (by rw [h1, ha]; rfl)
    have e := hf.block g hg q1 q2
    refine ⟨g, o, ha, Nat.lt_of_lt_of_le hg hf.size, fun i x hx => ?_⟩
    have := hc i x hx
    exact ⟨by rw [World.cell?_of_block (w := w) (a := ⟨g, o + i * 2, none⟩) e]; exact this.1, by rw [World.cell?_of_block (w := w) (a := ⟨g, o + i * 2 + 1, none⟩) e]; exact this.2⟩
  · obtain ⟨g, o, ha, hg, _⟩ := h3 hne
    obtain rfl : g = k := by rw [h1, ha] at hk; simpa [Value.ownBlock] using hk
    obtain ⟨q1, q2⟩ := hv hne g hk
    refine ⟨q1, fun e => ?_⟩
    rcases hf.loc g e with e | e
    · exact q2 e
    · omega
theorem entsL_append (a b : List Ent) : entsL (a ++ b) = entsL a ++ entsL b := List.flatMap_append ..
theorem entsL_take (E : List Ent) (k : Nat) (x : Ent) (h : E[k]? = some x) : entsL (E.take (k + 1)) = entsL (E.take k) ++ (numL x.1 ++ textL x.2) := by
  have hk := (List.getElem?_eq_some_iff.1 h).1
  have hx := (List.getElem?_eq_some_iff.1 h).2
  rw [List.take_succ_eq_append_getElem hk, hx, entsL_append]
  simp [entsL]
theorem entsL_part (E : List Ent) (k : Nat) : (entsL (E.take k)).length ≤ (entsL E).length := by
  have e : entsL E = entsL (E.take k) ++ entsL (E.drop k) := by rw [← entsL_append, List.take_append_drop]
  rw [e, List.length_append]; omega

set_option maxHeartbeats 1000000 in
set_option maxRecDepth 100000 in
theorem wents_prog (b : Nat) (u : Value) (l : List UInt8) (v : Value) (E : List Ent) (w : World) (h : Wr b u l w) (hv : ESl w v E) (ha : E ≠ [] → Apart b u v) (hE : EntsOk E) (hl : l.length + (entsL E).length ≤ 7000000000) :
    Calls Tryz.prog 176 #[.pointer (some ⟨b, 0, none⟩), v] w fun e w' => e = .returned (.tuple #[]) ∧ ∃ u', Wr b u' (l ++ entsL E) w' ∧ Ch b u w w' u' := by
  obtain ⟨a, c, rfl, hc, _⟩ := id hv
  have hEl : E.length ≤ 7000000000 := by have := entsL_len E; omega
  have H := Lib.hid h
  have HV := Lib.hid hv
  have HA := Lib.hid ha
  have HE := Lib.hid hE
  have HL := Lib.hid hl
  have HC := Lib.hid hc
  clear h hv ha hE hl hc
  go_enter Tryz.func176, Tryz.ntmps176
  go_wp2_with fail
  go_loopw [8] (fun i wr => ∃ (k : Nat) (u' : Value), k ≤ E.length ∧ i = .int .i64 (k : Int) ∧ Hid (Wr b u' (l ++ entsL (E.take k)) wr) ∧ Hid (Ch b u w wr u')) (fun i _ => E.length - (intOf i).toNat)
  case atStart => exact ⟨0, u, by omega, rfl, Lib.hid (by simpa [entsL] using H.out), Lib.hid (Ch.refl _ _ _)⟩
  case round =>
    obtain ⟨k, u1, hk, rfl, HW, HF⟩ := hrel
    by_cases hlt : k < E.length
    · obtain ⟨⟨t, s⟩, hx⟩ : ∃ x, E[k]? = some x := ⟨_, List.getElem?_eq_getElem hlt⟩
      obtain ⟨a', c', e0, _, hcells⟩ := (HV.out.ch HA.out HF.out).1
      injection e0 with e1 e2 e3
      subst e1
      obtain ⟨g, o, rfl, hg, hcs⟩ := hcells (fun e => by rw [e] at hlt; simp at hlt)
      obtain ⟨c0, c1⟩ := hcs k _ hx
      have hxo := HE.out _ (List.mem_of_getElem? hx)
      have hpart := entsL_part E (k + 1)
      have htake := entsL_take E k _ hx
      have hlen : (l ++ entsL (E.take k)).length + 8 + (8 + s.size) ≤ 7000000000 := by
        rw [htake] at hpart
        have := HL.out
        simp only [List.length_append, textL, numL_len, data_len] at hpart ⊢
        omega
      have h1 : (0 : Int) ≤ (k : Int) := by omega
      have h2 : (k : Int) < (E.length : Int) := by omega
      have HT := Lib.hid htake
      have HX := Lib.hid hxo
      have HLN := Lib.hid hlen
      clear hcells hcs hx hxo hpart htake hlen e2 e3
      go_wp2_with fail
      have hwn : Wr b u1 (l ++ entsL (E.take k)) (wr.alloc (.cells #[.int .u64 (t : Int), .string s] 70)) := HW.out.later ((Below.refl _ _).alloc (Nat.le_refl _) _)
      have hfn : Ch b u w (wr.alloc (.cells #[.int .u64 (t : Int), .string s] 70)) u1 := HF.out.trans (Ch.alloc u1 wr _)
      refine (wnum_prog b u1 _ t _ hwn (by have := HLN.out; omega) HX.out.1).mono ?_
      rintro e w1 ⟨rfl, u2, hw1, hf1⟩
      have hlt2 : wr.heap.size < w1.heap.size := by have := hf1.size; simp at this; omega
      have hblk : w1.heap[wr.heap.size]? = some (.cells #[.int .u64 (t : Int), .string s] 70 (0, 0)) := by
        rw [hf1.block _ (by simp) (by have := HW.out.lt; omega) (fun e => by have := HW.out.vlt _ e; omega)]
        exact heap_alloc_new _ _
      have hd1 : w1.cell? ⟨wr.heap.size, 1, none⟩ = some (.string s) := by simp [World.cell?, hblk]
      have HW1 := Lib.hid hw1
      have HF1 := Lib.hid (hfn.trans hf1)
      clear hw1 hf1 hwn hfn hblk
      go_wp2_with fail
      refine (wtext_prog b u2 _ s w1 HW1.out (by have := HLN.out; rw [List.length_append, numL_len]; omega)).mono ?_
      rintro e w2 ⟨rfl, u3, hw2, hf2⟩
      rw [List.append_assoc, List.append_assoc, ← HT.out] at hw2
      have HW2 := Lib.hid hw2
      have HF2 := Lib.hid (HF1.out.trans hf2)
      clear hw2 hf2
      go_wp2_with fail
      go_roundw
      case rel => exact ⟨k + 1, u3, by omega, by go_num, HW2, HF2⟩
      case measure => simp [intOf]; omega
    · have hke : k = E.length := by omega
      subst hke
      have h2 : ¬ (E.length : Int) < (E.length : Int) := by omega
      go_wp2_with fail
      go_end0
      refine ⟨rfl, u1, ?_, HF.out⟩
      have := HW.out
      rw [List.take_length] at this
      exact this
end Go.Proofs.YtflkdgghpmhbgaaGreat
namespace Go.Proofs.YtflkdgghpmhbgaaGreat
open Go.RowKit

theorem Ch.keep {b j : Nat} {u u' : Value} {w w' : World} {o : Obj} (hf : Ch b u w w' u') (hj : w.heap[j]? = some o) (h1 : j ≠ b) (h2 : u.ownBlock ≠ some j) : w'.heap[j]? = some o := by
  rw [hf.block j (Array.getElem?_eq_some_iff.1 hj).1 h1 h2]; exact hj
/-- u's block, if it has one, is not j. -/
theorem Ch.away {b j : Nat} {u u' : Value} {w w' : World} (hf : Ch b u w w' u') (hj : j < w.heap.size) (h2 : u.ownBlock ≠ some j) : u'.ownBlock ≠ some j := fun e => by
  rcases hf.loc j e with e | e
  · exact h2 e
  · omega
theorem Ch.lowB {b H : Nat} {u u' : Value} {w w' : World} (hf : Ch b u w w' u') (h : ∀ k, u.ownBlock = some k → H ≤ k) (hw : H ≤ w.heap.size) : ∀ k, u'.ownBlock = some k → H ≤ k := hf.low h hw

set_option maxRecDepth 100000 in
theorem wsealed_prog (b : Nat) (v : Value) (l : List UInt8) (s : ByteArray) (w : World) (h : Wr b v l w) (hl : l.length + s.size ≤ 8000000000) :
    Calls Tryz.prog 194 #[.pointer (some ⟨b, 0, none⟩), .string s] w fun e w' => e = .returned (.tuple #[]) ∧ ∃ v', Wr b v' (l ++ sealL s) w' ∧ Ch b v w w' v' := by
  have H := Lib.hid (wstring_prog b v l s w h (by omega))
  have HL := Lib.hid hl
  have HS := Lib.hid (fun W => sum_prog s W (by omega))
  clear h hl
  go_enter Tryz.func194, Tryz.ntmps194
  go_wp2_with fail
  refine H.out.mono ?_
  rintro e w1 ⟨rfl, v1, hw1, hf1⟩
  have H2 := Lib.hid (wnum_prog b v1 _ (fnv s) w1 hw1.wr (by have := HL.out; rw [List.length_append, data_len]; omega) (fnv_lt s))
  have HF1 := Lib.hid hf1
  clear hw1 hf1
  go_wp2_with fail
  refine (HS.out w1).mono ?_
  rintro e w2 ⟨rfl, rfl⟩
  go_wp2_with fail
  refine H2.out.mono ?_
  rintro e w2 ⟨rfl, v2, hw2, hf2⟩
  have HW2 := Lib.hid hw2
  have HF2 := Lib.hid hf2
  clear hw2 hf2
  go_wp2_with fail
  go_end0
  refine ⟨rfl, v2, ?_, HF1.out.trans HF2.out⟩
  have := HW2.out
  rw [List.append_assoc] at this
  exact this

theorem recB_eq (k : UInt8) (body : ByteArray) : (⟨([] ++ sealL (headB k body.size) ++ sealL body).toArray⟩ : ByteArray) = recB k body := by
  unfold recB recL ofL
  rw [List.nil_append]
theorem headB_eq (k : UInt8) (n : Nat) : (⟨([] ++ [k] ++ numL n).toArray⟩ : ByteArray) = headB k n := by
  unfold headB ofL
  rw [List.nil_append, List.singleton_append]
theorem app_ne (a : List UInt8) (s : ByteArray) : a ++ sealL s ≠ [] := fun h => by
  have := congrArg List.length h
  rw [List.length_append, sealL_len, List.length_nil] at this
  omega
theorem num_ne (a : List UInt8) (n : Nat) : a ++ numL n ≠ [] := fun h => by
  have := congrArg List.length h
  rw [List.length_append, numL_len, List.length_nil] at this
  omega
set_option maxHeartbeats 1000000 in
set_option maxRecDepth 100000 in
theorem record_prog (k : UInt8) (body : ByteArray) (w : World) (hl : body.size ≤ 7000000000) :
    Calls Tryz.prog 173 #[.int .u8 (k.toNat : Int), .string body] w fun e w' => e = .returned (.string (recB k body)) ∧ Below w.heap.size w w' := by
  have hs : (body.size : Int) ≤ 7000000000 := by omega
  have HL := Lib.hid hl
  clear hl
  go_enter Tryz.func173, Tryz.ntmps173
  go_wp2_with fail
  obtain ⟨H, hH⟩ : ∃ H, w.heap.size = H := ⟨_, rfl⟩
  obtain ⟨W0, hW0⟩ : ∃ W0, W0 = (w.alloc (.cells #[.pointer none, .slice none 0 0] 233)).alloc (.cells #[.pointer none, .slice none 0 0] 233) := ⟨_, rfl⟩
  have h1 : Wr H (.slice none 0 0) [] W0 := Wr.fresh (by rw [hW0, ← hH]; rw [Lib.alloc_old _ _ _ (by simp)]; exact heap_alloc_new _ _)
  have h2 : W0.heap[H + 1]? = some (.cells #[.pointer none, .slice none 0 0] 233 (0, 0)) := by
    have := heap_alloc_new (w.alloc (.cells #[.pointer none, .slice none 0 0] 233)) (.cells #[.pointer none, .slice none 0 0] 233)
    rw [hW0, ← hH]; simpa using this
  have hb0 : Below w.heap.size w W0 := by rw [hW0]; exact ((Below.refl _ _).alloc (Nat.le_refl _) _).alloc (by simp) _
  have hsz : W0.heap.size = H + 2 := by rw [hW0, ← hH]; simp
  rw [← hW0]
  simp only [hH]
  rw [hH] at hb0
  clear hW0
  have HB0 := Lib.hid hb0
  have HSZ := Lib.hid hsz
  have HH := Lib.hid hH
  have K1 := Lib.hid (wbyte_prog H _ [] k W0 h1 (by decide))
  have HZ := Lib.hid h2
  clear h1 h2 hb0 hsz hH
  refine K1.out.mono ?_
  rintro e w1 ⟨rfl, v1, hw1, hf1⟩
  have K2 := Lib.hid (wnum_prog H v1 _ body.size w1 hw1.wr (by simp) (by have := HL.out; unfold m64; omega))
  have HF1 := Lib.hid hf1
  clear hw1 hf1 K1
  go_wp2_with fail
  refine K2.out.mono ?_
  rintro e w2 ⟨rfl, v2, hw2, hf2⟩
  have K3 := Lib.hid (bstring_prog H v2 _ w2 hw2 (num_ne _ _))
  have HF2 := Lib.hid (HF1.out.trans hf2)
  clear hw2 hf2 K2
  go_wp2_with fail
  refine K3.out.mono ?_
  rintro e w3 ⟨rfl, hf3⟩
  have hF3 := HF2.out.trans hf3
  have hz3 := hF3.keep HZ.out (by omega) (by simp [Value.ownBlock])
  have hb3 : Below H w w3 := HB0.out.trans (hF3.below (Nat.le_refl _) (fun j hj => by simp [Value.ownBlock] at hj) (by have := HSZ.out; omega))
  rw [headB_eq]
  have K4 := Lib.hid (wsealed_prog (H + 1) _ [] (headB k body.size) w3 (Wr.fresh hz3) (by rw [headB_size]; simp))
  have HB3 := Lib.hid hb3
  have HS3 := Lib.hid hf3.size
  have HS3' := Lib.hid hF3.size
  clear K3 hf3 hF3 hz3 hb3 HF1 HF2
  go_wp2_with fail
  refine K4.out.mono ?_
  rintro e w4 ⟨rfl, v4, hw4, hf4⟩
  have K5 := Lib.hid (wsealed_prog (H + 1) v4 _ body w4 hw4 (by have := HL.out; rw [List.length_append, sealL_len, headB_size]; simp; omega))
  have HF4 := Lib.hid hf4
  clear K4 hw4 hf4
  go_wp2_with fail
  refine K5.out.mono ?_
  rintro e w5 ⟨rfl, v5, hw5, hf5⟩
  have K6 := Lib.hid (bstring_prog (H + 1) v5 _ w5 hw5 (app_ne _ _))
  have HF5 := Lib.hid (HF4.out.trans hf5)
  clear K5 hw5 hf5 HF4
  go_wp2_with fail
  refine K6.out.mono ?_
  rintro e w6 ⟨rfl, hf6⟩
  have HF6 := Lib.hid (HF5.out.trans hf6)
  clear K6 hf6 HF5
  rw [recB_eq]
  go_wp2_with fail
  go_ret
  rw [HH.out]
  exact ⟨rfl, HB3.out.trans (HF6.out.below (by omega) (fun j hj => by simp [Value.ownBlock] at hj) (by have := HSZ.out; have := HS3'.out; omega))⟩

set_option maxRecDepth 100000 in
theorem addBody_prog (behind : Nat) (v : Value) (E : List Ent) (w : World) (hb : behind < m64) (hv : ESl w v E) (hE : EntsOk E) (hl : (entsL E).length ≤ 6000000000) :
    Calls Tryz.prog 157 #[.int .u64 (behind : Int), v] w fun e w' => e = .returned (.string (addB behind E)) ∧ Below w.heap.size w w' := by
  have HV := Lib.hid hv
  have HE := Lib.hid hE
  have HL := Lib.hid hl
  have HBb := Lib.hid hb
  obtain ⟨a, c, rfl, hc, _⟩ := id hv
  clear hv hE hl hb hc
  go_enter Tryz.func157, Tryz.ntmps157
  go_wp2_with fail
  obtain ⟨W0, hW0⟩ : ∃ W0, W0 = w.alloc (.cells #[.pointer none, .slice none 0 0] 233) := ⟨_, rfl⟩
  have h1 : Wr w.heap.size (.slice none 0 0) [] W0 := Wr.fresh (by rw [hW0]; exact heap_alloc_new _ _)
  have hb0 : Below w.heap.size w W0 := by rw [hW0]; exact (Below.refl _ _).alloc (Nat.le_refl _) _
  rw [← hW0]
  clear hW0
  have K1 := Lib.hid (wnum_prog w.heap.size _ [] behind W0 h1 (by simp) HBb.out)
  have HB0 := Lib.hid hb0
  clear h1 hb0
  refine K1.out.mono ?_
  rintro e w1 ⟨rfl, v1, hw1, hf1⟩
  have hv0 := HV.out.later HB0.out
  have hap : E ≠ [] → Apart w.heap.size (.slice none 0 0) (.slice a E.length c) := fun hne k hk => by
    obtain ⟨a', c', e0, _, h3⟩ := HV.out
    obtain ⟨g, o, ha, hg, _⟩ := h3 hne
    injection e0 with e1 _ _
    subst e1
    subst ha
    obtain rfl : g = k := by simpa [Value.ownBlock] using hk
    exact ⟨by omega, by simp [Value.ownBlock]⟩
  obtain ⟨hv1, hap1⟩ := hv0.ch hap hf1
  have K2 := Lib.hid (wents_prog w.heap.size v1 _ _ E w1 hw1 hv1 hap1 HE.out (by have := HL.out; rw [List.length_append, numL_len]; simp; omega))
  have HF1 := Lib.hid hf1
  clear hw1 hf1 K1 hv0 hap hv1 hap1
  go_wp2_with fail
  refine K2.out.mono ?_
  rintro e w2 ⟨rfl, v2, hw2, hf2⟩
  have K3 := Lib.hid (bstring_prog w.heap.size v2 _ w2 hw2 (by simp [numL]))
  have HF2 := Lib.hid (HF1.out.trans hf2)
  clear K2 hw2 hf2 HF1
  go_wp2_with fail
  refine K3.out.mono ?_
  rintro e w3 ⟨rfl, hf3⟩
  have HF3 := Lib.hid (HF2.out.trans hf3)
  clear K3 hf3 HF2
  go_wp2_with fail
  go_ret
  exact ⟨rfl, HB0.out.trans (HF3.out.below (Nat.le_refl _) (fun j hj => by simp [Value.ownBlock] at hj) HB0.out.size)⟩

set_option maxRecDepth 100000 in
theorem voteBody_prog (t : Nat) (v : Int) (w : World) (ht : t < m64) :
    Calls Tryz.prog 154 #[.int .u64 (t : Int), .int .i64 v] w fun e w' => e = .returned (.string (voteB t v)) ∧ Below w.heap.size w w' := by
  have HT := Lib.hid ht
  have hvn : IntKind.u64.wrap v = (voteN v : Int) := by unfold voteN; have := u64_range v; omega
  have HVN := Lib.hid (voteN_lt v)
  clear ht
  go_enter Tryz.func154, Tryz.ntmps154
  go_wp2_with fail
  obtain ⟨W0, hW0⟩ : ∃ W0, W0 = w.alloc (.cells #[.pointer none, .slice none 0 0] 233) := ⟨_, rfl⟩
  have h1 : Wr w.heap.size (.slice none 0 0) [] W0 := Wr.fresh (by rw [hW0]; exact heap_alloc_new _ _)
  have hb0 : Below w.heap.size w W0 := by rw [hW0]; exact (Below.refl _ _).alloc (Nat.le_refl _) _
  rw [← hW0]
  clear hW0
  have K1 := Lib.hid (wnum_prog w.heap.size _ [] t W0 h1 (by simp) HT.out)
  have HB0 := Lib.hid hb0
  clear h1 hb0
  refine K1.out.mono ?_
  rintro e w1 ⟨rfl, v1, hw1, hf1⟩
  have K2 := Lib.hid (wnum_prog w.heap.size v1 _ (voteN v) w1 hw1 (by simp [numL]) HVN.out)
  have HF1 := Lib.hid hf1
  clear hw1 hf1 K1
  go_wp2_with fail
  refine K2.out.mono ?_
  rintro e w2 ⟨rfl, v2, hw2, hf2⟩
  have K3 := Lib.hid (bstring_prog w.heap.size v2 _ w2 hw2 (by simp [numL]))
  have HF2 := Lib.hid (HF1.out.trans hf2)
  clear K2 hw2 hf2 HF1
  go_wp2_with fail
  refine K3.out.mono ?_
  rintro e w3 ⟨rfl, hf3⟩
  have HF3 := Lib.hid (HF2.out.trans hf3)
  clear K3 hf3 HF2
  go_wp2_with fail
  go_ret
  exact ⟨rfl, HB0.out.trans (HF3.out.below (Nat.le_refl _) (fun j hj => by simp [Value.ownBlock] at hj) HB0.out.size)⟩
end Go.Proofs.YtflkdgghpmhbgaaGreat
namespace Go.Proofs.YtflkdgghpmhbgaaGreat
open Go.RowKit

/-- A content as cells. -/
def ctC (c : CT) (v : Value) : Array Value := #[.int .u64 (c.term : Int), .int .i64 c.vote, .int .u64 (c.base : Int), .int .u64 (c.bterm : Int), .string c.state, v]
theorem bodyL_eq (c : CT) : [] ++ numL c.term ++ numL (voteN c.vote) ++ numL c.base ++ numL c.bterm ++ textL c.state ++ entsL c.ents = bodyL c := by
  unfold bodyL
  rw [List.nil_append, List.append_assoc, List.append_assoc, List.append_assoc, List.append_assoc]
theorem bodyL_len (c : CT) : (bodyL c).length = 40 + c.state.size + (entsL c.ents).length := by
  simp only [bodyL, List.length_append, numL_len, textL, data_len]; omega
theorem body_ne (c : CT) : bodyL c ≠ [] := fun h => by
  have := congrArg List.length h
  rw [bodyL_len, List.length_nil] at this
  omega
theorem voteN_int (v : Int) : IntKind.u64.wrap v = (voteN v : Int) := by unfold voteN; have := u64_range v; omega

set_option maxHeartbeats 2000000 in
set_option maxRecDepth 100000 in
theorem whole_prog (c : CT) (v : Value) (w : World) (hc : c.Ok) (hv : ESl w v c.ents) (hl : c.state.size + (entsL c.ents).length ≤ 5000000000) :
    Calls Tryz.prog 171 #[.agg (ctC c v)] w fun e w' => e = .returned (.string (wholeB c)) ∧ Below w.heap.size w w' := by
  obtain ⟨a, cc, hve, hcc, _⟩ := id hv
  have HV := Lib.hid hv
  have HO := Lib.hid hc
  have HL := Lib.hid hl
  have HVN := Lib.hid (voteN_lt c.vote)
  have hvn := voteN_int c.vote
  clear hv hc hl hcc
  unfold ctC
  rw [hve]
  rw [hve] at HV
  clear hve
  go_enter Tryz.func171, Tryz.ntmps171
  go_wp2_with fail
  obtain ⟨H, hH⟩ : ∃ H, w.heap.size = H := ⟨_, rfl⟩
  obtain ⟨W0, hW0⟩ : ∃ W0, W0 = (w.alloc (.cells #[.int .u64 (c.term : Int), .int .i64 c.vote, .int .u64 (c.base : Int), .int .u64 (c.bterm : Int), .string c.state, .slice a c.ents.length cc] 116)).alloc (.cells #[.pointer none, .slice none 0 0] 233) := ⟨_, rfl⟩
  have h1 : Wr (H + 1) (.slice none 0 0) [] W0 := Wr.fresh (by
    have := heap_alloc_new (w.alloc (.cells #[.int .u64 (c.term : Int), .int .i64 c.vote, .int .u64 (c.base : Int), .int .u64 (c.bterm : Int), .string c.state, .slice a c.ents.length cc] 116)) (.cells #[.pointer none, .slice none 0 0] 233)
    rw [hW0, ← hH]; simpa using this)
  have h2 : W0.heap[H]? = some (.cells #[.int .u64 (c.term : Int), .int .i64 c.vote, .int .u64 (c.base : Int), .int .u64 (c.bterm : Int), .string c.state, .slice a c.ents.length cc] 116 (0, 0)) := by
    rw [hW0, ← hH]; rw [Lib.alloc_old _ _ _ (by simp)]; exact heap_alloc_new _ _
  have hb0 : Below w.heap.size w W0 := by rw [hW0]; exact ((Below.refl _ _).alloc (Nat.le_refl _) _).alloc (by simp) _
  have hsz : W0.heap.size = H + 2 := by rw [hW0, ← hH]; simp
  have hv0 := HV.out.later hb0
  have hap : c.ents ≠ [] → Apart (H + 1) (.slice none 0 0) (.slice a c.ents.length cc) := fun hne k hk => by
    obtain ⟨a', c', e0, _, h3⟩ := HV.out
    obtain ⟨g, o, ha, hg, _⟩ := h3 hne
    injection e0 with e1 _ _
    subst e1
    subst ha
    obtain rfl : g = k := by simpa [Value.ownBlock] using hk
    exact ⟨by omega, by simp [Value.ownBlock]⟩
  rw [← hW0]
  simp only [hH]
  rw [hH] at hb0
  clear hW0
  have HB0 := Lib.hid hb0
  have HSZ := Lib.hid hsz
  have HH := Lib.hid hH
  have HZ := Lib.hid h2
  have HV0 := Lib.hid hv0
  have HAP := Lib.hid hap
  have K1 := Lib.hid (wnum_prog (H + 1) _ [] c.term W0 h1 (by simp) HO.out.term)
  have d0 : W0.cell? ⟨H, 0, none⟩ = some (.int .u64 (c.term : Int)) := by simp [World.cell?, h2]
  clear h1 h2 hb0 hsz hH hv0 hap
  try go_wp2_with fail
  refine K1.out.mono ?_
  rintro e w1 ⟨rfl, v1, hw1, hf1⟩
  have hz1 := hf1.keep HZ.out (by omega) (by simp [Value.ownBlock])
  have d1 : w1.cell? ⟨H, 1, none⟩ = some (.int .i64 c.vote) := by simp [World.cell?, hz1]
  have hav1 := hf1.away (j := H) (by have := HSZ.out; omega) (by simp [Value.ownBlock])
  have K2 := Lib.hid (wnum_prog (H + 1) v1 _ (voteN c.vote) w1 hw1 (by simp [numL]) HVN.out)
  have HF1 := Lib.hid hf1
  have HZ1 := Lib.hid hz1
  have HA1 := Lib.hid hav1
  have HS1 := Lib.hid hf1.size
  clear hw1 hf1 K1 hz1 hav1 d0
  go_wp2_with fail
  refine K2.out.mono ?_
  rintro e w2 ⟨rfl, v2, hw2, hf2⟩
  have hz2 := hf2.keep HZ1.out (by omega) HA1.out
  have d2 : w2.cell? ⟨H, 2, none⟩ = some (.int .u64 (c.base : Int)) := by simp [World.cell?, hz2]
  have hav2 := hf2.away (j := H) (by have := HSZ.out; have := HS1.out; omega) HA1.out
  have K3 := Lib.hid (wnum_prog (H + 1) v2 _ c.base w2 hw2 (by simp [numL]) (by have := HO.out.base; omega))
  have HF2 := Lib.hid (HF1.out.trans hf2)
  have HZ2 := Lib.hid hz2
  have HA2 := Lib.hid hav2
  have HS2 := Lib.hid (Nat.le_trans HS1.out hf2.size)
  clear hw2 hf2 K2 hz2 hav2 d1 HF1 HZ1 HA1 HS1
  go_wp2_with fail
  refine K3.out.mono ?_
  rintro e w3 ⟨rfl, v3, hw3, hf3⟩
  have hz3 := hf3.keep HZ2.out (by omega) HA2.out
  have d3 : w3.cell? ⟨H, 3, none⟩ = some (.int .u64 (c.bterm : Int)) := by simp [World.cell?, hz3]
  have hav3 := hf3.away (j := H) (by have := HSZ.out; have := HS2.out; omega) HA2.out
  have K4 := Lib.hid (wnum_prog (H + 1) v3 _ c.bterm w3 hw3 (by simp [numL]) HO.out.bterm)
  have HF3 := Lib.hid (HF2.out.trans hf3)
  have HZ3 := Lib.hid hz3
  have HA3 := Lib.hid hav3
  have HS3 := Lib.hid (Nat.le_trans HS2.out hf3.size)
  clear hw3 hf3 K3 hz3 hav3 d2 HF2 HZ2 HA2 HS2
  go_wp2_with fail
  refine K4.out.mono ?_
  rintro e w4 ⟨rfl, v4, hw4, hf4⟩
  have hz4 := hf4.keep HZ3.out (by omega) HA3.out
  have d4 : w4.cell? ⟨H, 4, none⟩ = some (.string c.state) := by simp [World.cell?, hz4]
  have hav4 := hf4.away (j := H) (by have := HSZ.out; have := HS3.out; omega) HA3.out
  have hlen4 : ([] ++ numL c.term ++ numL (voteN c.vote) ++ numL c.base ++ numL c.bterm).length = 32 := by simp only [List.length_append, numL_len]; rfl
  have K5 := Lib.hid (wtext_prog (H + 1) v4 _ c.state w4 hw4 (by rw [hlen4]; have := HL.out; omega))
  have HF4 := Lib.hid (HF3.out.trans hf4)
  have HZ4 := Lib.hid hz4
  have HA4 := Lib.hid hav4
  have HS4 := Lib.hid (Nat.le_trans HS3.out hf4.size)
  have HL4 := Lib.hid hlen4
  clear hw4 hf4 K4 hz4 hav4 d3 HF3 HZ3 HA3 HS3 hlen4
  go_wp2_with fail
  refine K5.out.mono ?_
  rintro e w5 ⟨rfl, v5, hw5, hf5⟩
  have hz5 := hf5.keep HZ4.out (by omega) HA4.out
  have d5 : w5.cell? ⟨H, 5, none⟩ = some (.slice a c.ents.length cc) := by simp [World.cell?, hz5]
  have hf05 := HF4.out.trans hf5
  obtain ⟨hv5, hap5⟩ := HV0.out.ch HAP.out hf05
  have K6 := Lib.hid (wents_prog (H + 1) v5 _ _ c.ents w5 hw5 hv5 hap5 HO.out.ents (by have := HL.out; have h4 := HL4.out; rw [List.length_append, h4]; simp only [textL, List.length_append, numL_len, data_len]; omega))
  have HF5 := Lib.hid hf05
  have HS5 := Lib.hid (Nat.le_trans HS4.out hf5.size)
  rw [bodyL_eq] at K6
  clear hw5 hf5 hf05 K5 hz5 d4 HF4 HZ4 HA4 HS4 hv5 hap5 HL4
  go_wp2_with fail
  refine K6.out.mono ?_
  rintro e w6 ⟨rfl, v6, hw6, hf6⟩
  have K7 := Lib.hid (bstring_prog (H + 1) v6 _ w6 hw6 (body_ne c))
  have HF6 := Lib.hid (HF5.out.trans hf6)
  have HS6 := Lib.hid (Nat.le_trans HS5.out hf6.size)
  clear hw6 hf6 K6 d5 HF5 HS5
  go_wp2_with fail
  refine K7.out.mono ?_
  rintro e w7 ⟨rfl, hf7⟩
  have HF7 := Lib.hid (HF6.out.trans hf7)
  have HS7 := Lib.hid (Nat.le_trans HS6.out hf7.size)
  have K8 := Lib.hid (record_prog 248 (ofL (bodyL c)) w7 (by rw [ofL_size, bodyL_len]; have := HL.out; omega))
  clear hf7 K7 HF6 HS6
  go_wp2_with fail
  refine K8.out.mono ?_
  rintro e w8 ⟨rfl, hb8⟩
  have HB8 := Lib.hid hb8
  clear hb8 K8
  go_wp2_with fail
  go_ret
  rw [HH.out]
  have hlt : H ≤ W0.heap.size := by have := HSZ.out; omega
  exact ⟨rfl, (HB0.out.trans (HF7.out.below (by omega) (fun j hj => by simp [Value.ownBlock] at hj) hlt)).trans (HB8.out.mono (Nat.le_trans hlt HS7.out))⟩
end Go.Proofs.YtflkdgghpmhbgaaGreat
namespace Go.Proofs.YtflkdgghpmhbgaaGreat
open Go.RowKit

set_option maxHeartbeats 4000000 in
set_option maxRecDepth 100000 in
theorem lclone_prog (s : ByteArray) (w : World) (hlim : s.size ≤ 281474976710656) :
    Calls Tryz.prog 188 #[.string s] w fun e w' => e = .returned (.string s) ∧ Below w.heap.size w w' := by
  by_cases h0 : s.size = 0
  · have hs : s = ⟨#[]⟩ := ByteArray.ext (Array.eq_empty_of_size_eq_zero h0)
    subst hs
    go_enter Tryz.func188, Tryz.ntmps188
    go_wp2
    go_ret
    exact ⟨rfl, Below.refl _ _⟩
  · have info5 : (Tryz.prog.info? 5).map (fun i => (i.zero, i.size, i.bytes)) = some (some (.int .u8 0), 1, 1) := by kernel_rfl
    obtain ⟨i0, hi, hz0, hz1, hz2⟩ := info_parts info5
    have hinfo : (Tryz.prog.info? 5).map (·.size) = some 1 := by rw [hi]; simp [hz1]
    have hco : Tryz.prog.cellsOf 5 = 1 := by simp [Program.cellsOf, hi, hz1]
    obtain ⟨M, hM⟩ : ∃ M, M = madeCells (Value.int .u8 0).cells (((s.size : Nat) : Int).toNat * i0.size) := ⟨_, rfl⟩
    have hMs : M.size = s.size := by rw [hM, size_madeCells, hz1]; simp
    have hmk : ∀ W : World, (Instr.makeSlice 122 (.int .i64 (s.size : Int)) (.int .i64 (s.size : Int))).run Tryz.prog W = .ok (.slice (some ⟨W.heap.size, 0, none⟩) s.size s.size) (W.alloc (.cells M 5)) := fun W => by
      have h := run_make (P := Tryz.prog) W 122 5 i0 (.int .u8 0) Tryz.underlying122 hi hz0 .i64 .i64 (s.size : Int) (s.size : Int) (by omega) (by omega) (by rw [hz2]; omega) (by omega)
      rw [← hM] at h
      simpa using h
    clear hM
    have hcp := Lib.run_copy_row_string (P := Tryz.prog) (w.alloc (.cells M 5)) 122 9 3 5 w.heap.size 0 s.size s.size s M 5 Tryz.underlying122 hinfo (heap_alloc_new w _) (Nat.le_refl _) (by omega)
    obtain ⟨Y, hY⟩ : ∃ Y, Y = (M.toList.take 0 ++ Lib.byteCells s.data.toList ++ M.toList.drop (0 + s.size)).toArray := ⟨_, rfl⟩
    rw [← hY] at hcp
    have hYl : Y.toList = Lib.byteCells s.data.toList := by
      rw [hY, List.toList_toArray, List.take_zero, List.nil_append, List.drop_of_length_le (by rw [Array.length_toList]; omega), List.append_nil]
    have hYs : Y.size = s.size := by rw [← Array.length_toList, hYl, Lib.byteCells_length, ← Lib.size_eq]
    have hgY : ((w.alloc (.cells M 5)).setRow w.heap.size Y).heap[w.heap.size]? = some (.cells Y 5 (0, 0)) := setRow_heap _ _ M _ 5 (0, 0) (heap_alloc_new w _)
    have hne : s.data.toList ≠ [] := fun e => h0 (by rw [Lib.size_eq, e]; rfl)
    have hUS := Lib.run_unsafeString_row (P := Tryz.prog) ((w.alloc (.cells M 5)).setRow w.heap.size Y) 251 3 9 5 Tryz.underlying251 hco w.heap.size Y.size (by unfold World.shape?; rw [hgY]) s.data.toList hne (by rw [← Lib.size_eq]; omega) (by rw [← Lib.size_eq]; omega)
      (fun j x hx => Lib.cells_of_row hgY Y.size j _ (by rw [List.take_of_length_le (by rw [Array.length_toList]; exact Nat.le_refl _), hYl]; simp [Lib.byteCells, hx]))
    rw [← Lib.size_eq] at hUS
    clear hY
    go_enter Tryz.func188, Tryz.ntmps188
    go_wp2
    go_ret
    have hb1 : Below w.heap.size w (w.alloc (.cells M 5)) := (Below.refl _ w).alloc (Nat.le_refl _) _
    have hb2 : Below w.heap.size (w.alloc (.cells M 5)) ((w.alloc (.cells M 5)).setRow w.heap.size Y) := ⟨rfl, rfl, rfl, by simp, fun k hk => setRow_other _ _ _ _ (by omega)⟩
    exact ⟨rfl, Lib.below_freeze (hb1.trans hb2) (p := ⟨w.heap.size, 0, none⟩) (Nat.le_refl _) _⟩

theorem clone_prog (s : ByteArray) (w : World) (hlim : s.size ≤ 281474976710656) :
    Calls Tryz.prog 164 #[.string s] w fun e w' => e = .returned (.string s) ∧ Below w.heap.size w w' := by
  have H := Lib.hid (lclone_prog s w hlim)
  go_enter Tryz.func164, Tryz.ntmps164
  go_wp2_with fail
  refine H.out.mono ?_
  rintro e w1 ⟨rfl, hb⟩
  go_wp2
  go_ret
  exact ⟨rfl, hb⟩
end Go.Proofs.YtflkdgghpmhbgaaGreat
