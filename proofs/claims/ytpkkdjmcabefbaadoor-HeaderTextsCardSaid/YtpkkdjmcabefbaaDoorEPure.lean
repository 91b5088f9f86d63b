/- Headers and signed ones as values, their bytes, hashes and seals: plain mathematics, over no program. -/
import Derived.Test.YtpkkdjmcabefbaaDoorDCod
import Derived.Test.YtpkkdjmcabefbaaDoorDShaR
namespace Go.Proofs.YtpkkdjmcabefbaaDoor
open Go.RowKit
open Cod (F Nd nodeL numL szL)

structure Hd where
  shard : Int
  seq : Int
  prev : ByteArray
  root : ByteArray
  who : Int
  stamp : Int
structure Sg where
  h : Hd
  mac : ByteArray
def U64 (n : Int) : Prop := 0 ≤ n ∧ n < 18446744073709551616
/-- The numbers are of 64 bits, the texts no longer than so many bytes. -/
def Hd.Ok (h : Hd) (m : Nat) : Prop := U64 h.shard ∧ U64 h.seq ∧ h.prev.size ≤ m ∧ h.root.size ≤ m ∧ U64 h.who ∧ U64 h.stamp
def Sg.Ok (s : Sg) (m : Nat) : Prop := s.h.Ok m ∧ s.mac.size ≤ m
def noB : ByteArray := ⟨#[]⟩
def zeroH : Hd := ⟨0, 0, ⟨#[]⟩, ⟨#[]⟩, 0, 0⟩
def zeroS : Sg := ⟨zeroH, ⟨#[]⟩⟩
def Hd.is (h : Hd) : Bool := decide (h.prev.size = 32) && decide (h.root.size = 32)
theorem Hd.is_iff (h : Hd) : h.is = true ↔ h.prev.size = 32 ∧ h.root.size = 32 := by simp [Hd.is]
theorem Hd.Ok.mono {h : Hd} {m n : Nat} (k : h.Ok m) (e : m ≤ n) : h.Ok n := ⟨k.1, k.2.1, Nat.le_trans k.2.2.1 e, Nat.le_trans k.2.2.2.1 e, k.2.2.2.2⟩
theorem Sg.Ok.mono {s : Sg} {m n : Nat} (k : s.Ok m) (e : m ≤ n) : s.Ok n := ⟨k.1.mono e, Nat.le_trans k.2 e⟩

def hdR (h : Hd) (r : F) : F := .cons 0 h.shard ⟨#[]⟩ .nil (.cons 0 h.seq ⟨#[]⟩ .nil (.cons 1 0 h.prev .nil (.cons 1 0 h.root .nil (.cons 0 h.who ⟨#[]⟩ .nil (.cons 0 h.stamp ⟨#[]⟩ .nil r)))))
def hdF (h : Hd) : F := hdR h .nil
def sgF (s : Sg) : F := hdR s.h (.cons 1 0 s.mac .nil .nil)
def hdB (h : Hd) : List UInt8 := nodeL 2 0 ⟨#[]⟩ 6 (hdF h).bytes
def sgB (s : Sg) : List UInt8 := nodeL 2 0 ⟨#[]⟩ 7 (sgF s).bytes
def sgsF : List Sg → F
  | [] => .nil
  | s :: l => .cons 2 0 ⟨#[]⟩ (sgF s) (sgsF l)
def textB (l : List Sg) : List UInt8 := nodeL 2 0 ⟨#[]⟩ l.length (sgsF l).bytes
theorem hdF_len (h : Hd) : (hdF h).len = 6 := rfl
theorem sgF_len (s : Sg) : (sgF s).len = 7 := rfl
theorem sgsF_len : ∀ l : List Sg, (sgsF l).len = l.length
  | [] => rfl
  | s :: l => by simp [sgsF, F.len, sgsF_len l]
theorem sgsF_app : ∀ a b : List Sg, (sgsF (a ++ b)).len = (sgsF a).len + (sgsF b).len := fun a b => by simp [sgsF_len]
theorem sgsF_bytes : ∀ l : List Sg, (sgsF l).bytes = (l.map sgB).flatten
  | [] => rfl
  | s :: l => by rw [sgsF, F.bytes, sgsF_bytes l, sgF_len]; rfl

theorem empty_size : (⟨#[]⟩ : ByteArray).size = 0 := rfl
theorem hdF_right (h : Hd) (d : Nat) : (hdF h).right (d + 1) = true := by simp [hdF, hdR, F.right, Cod.plainB, F.len, empty_size]
theorem sgF_right (s : Sg) (d : Nat) : (sgF s).right (d + 1) = true := by simp [sgF, hdR, F.right, Cod.plainB, F.len, empty_size]
theorem sgsF_right : ∀ (l : List Sg) (d : Nat), (sgsF l).right (d + 2) = true
  | [], _ => rfl
  | s :: l, d => by
    rw [sgsF, F.right, sgsF_right l d, show d + 2 - 1 = d + 1 by omega, sgF_right]
    simp [Cod.plainB, empty_size]
theorem hd_right (h : Hd) : Nd.right ⟨2, 0, ⟨#[]⟩, hdF h⟩ 20 = true := by
  rw [Nd.right, show 20 - 1 = 18 + 1 from rfl, hdF_right]; simp [Cod.plainB, empty_size]
theorem sg_right (s : Sg) : Nd.right ⟨2, 0, ⟨#[]⟩, sgF s⟩ 20 = true := by
  rw [Nd.right, show 20 - 1 = 18 + 1 from rfl, sgF_right]; simp [Cod.plainB, empty_size]
theorem text_right (l : List Sg) : Nd.right ⟨2, 0, ⟨#[]⟩, sgsF l⟩ 20 = true := by
  rw [Nd.right, show 20 - 1 = 17 + 2 from rfl, sgsF_right]; simp [Cod.plainB, empty_size]
theorem Hd.Ok.f {h : Hd} {m : Nat} (k : h.Ok m) (hm : m < 268435456) (r : F) (hr : r.ok) : (hdR h r).ok :=
  ⟨k.1, by simp [empty_size], by simp [F.len], trivial, k.2.1, by simp [empty_size], by simp [F.len], trivial, ⟨by decide, by decide⟩, Nat.lt_of_le_of_lt k.2.2.1 hm, by simp [F.len], trivial, ⟨by decide, by decide⟩, Nat.lt_of_le_of_lt k.2.2.2.1 hm, by simp [F.len], trivial,
    k.2.2.2.2.1, by simp [empty_size], by simp [F.len], trivial, k.2.2.2.2.2, by simp [empty_size], by simp [F.len], trivial, hr⟩
theorem Hd.Ok.nd {h : Hd} {m : Nat} (k : h.Ok m) (hm : m < 268435456) : Nd.ok ⟨2, 0, ⟨#[]⟩, hdF h⟩ :=
  ⟨⟨by simp, by simp⟩, by simp [empty_size], by simp [hdF_len], k.f hm .nil trivial⟩
theorem Sg.Ok.f {s : Sg} {m : Nat} (k : s.Ok m) (hm : m < 268435456) : (sgF s).ok :=
  k.1.f hm _ ⟨⟨by decide, by decide⟩, Nat.lt_of_le_of_lt k.2 hm, by simp [F.len], trivial, trivial⟩
theorem Sg.Ok.nd {s : Sg} {m : Nat} (k : s.Ok m) (hm : m < 268435456) : Nd.ok ⟨2, 0, ⟨#[]⟩, sgF s⟩ :=
  ⟨⟨by simp, by simp⟩, by simp [empty_size], by simp [sgF_len], k.f hm⟩
theorem sgsF_ok {m : Nat} (hm : m < 268435456) : ∀ l : List Sg, (∀ s ∈ l, s.Ok m) → (sgsF l).ok
  | [], _ => trivial
  | s :: l, h => ⟨⟨by simp, by simp⟩, by simp [empty_size], by simp [sgF_len], (h s (by simp)).f hm, sgsF_ok hm l (fun x hx => h x (by simp [hx]))⟩
theorem text_ok {m : Nat} (hm : m < 268435456) (l : List Sg) (h : ∀ s ∈ l, s.Ok m) (hl : l.length < 268435456) : Nd.ok ⟨2, 0, ⟨#[]⟩, sgsF l⟩ :=
  ⟨⟨by simp, by simp⟩, by simp [empty_size], by simp only; rw [sgsF_len]; exact hl, sgsF_ok hm l h⟩

/-! ### lengths -/
theorem num_len {n : Int} (h : U64 n) : (nodeL 0 n ⟨#[]⟩ 0 []).length ≤ 10 := by
  unfold nodeL
  rw [if_pos rfl]
  have h8 := Cod.numL_len n.toNat 8 (by have : (256 : Nat) ^ 8 = 18446744073709551616 := by decide
                                        have := h.1; have := h.2; omega)
  rw [Cod.szL_lt (by omega)]
  simp; omega
theorem str_len (s : ByteArray) (h : s.size < 16384) : (nodeL 1 0 s 0 []).length ≤ s.size + 3 := by
  unfold nodeL
  rw [if_neg (by decide), if_pos rfl]
  by_cases h1 : s.size < 128
  · rw [Cod.szL_lt h1]; simp
  · rw [Cod.szL_ge (by omega), Cod.szL_lt (by omega)]; simp
theorem Hd.Ok.blen {h : Hd} {m : Nat} (k : h.Ok m) (hm : m < 16384) (r : F) : (hdR h r).bytes.length ≤ 2 * m + 46 + r.bytes.length := by
  have a := num_len k.1
  have b := num_len k.2.1
  have c := str_len h.prev (by have := k.2.2.1; omega)
  have d := str_len h.root (by have := k.2.2.2.1; omega)
  have e := num_len k.2.2.2.2.1
  have f := num_len k.2.2.2.2.2
  have g1 := k.2.2.1
  have g2 := k.2.2.2.1
  simp only [hdR, F.bytes, F.len, List.length_append]
  omega
theorem Hd.Ok.hlen {h : Hd} {m : Nat} (k : h.Ok m) (hm : m < 16384) : (hdB h).length ≤ 2 * m + 48 := by
  have := k.blen hm .nil
  unfold hdB nodeL
  rw [if_neg (by decide), if_neg (by decide), Cod.szL_lt (by decide)]
  simp only [F.bytes, List.length_nil] at this
  unfold hdF
  simp; omega
theorem Sg.Ok.slen {s : Sg} {m : Nat} (k : s.Ok m) (hm : m < 16384) : (sgB s).length ≤ 3 * m + 51 := by
  have := k.1.blen hm (.cons 1 0 s.mac .nil .nil)
  have c := str_len s.mac (by have := k.2; omega)
  have := k.2
  unfold sgB nodeL
  rw [if_neg (by decide), if_neg (by decide), Cod.szL_lt (by decide)]
  simp only [F.bytes, F.len, List.length_append, List.length_nil] at *
  unfold sgF
  simp; omega
theorem sgs_len {m : Nat} (hm : m < 16384) : ∀ l : List Sg, (∀ s ∈ l, s.Ok m) → (sgsF l).bytes.length ≤ l.length * (3 * m + 51)
  | [], _ => by simp [sgsF, F.bytes]
  | s :: l, h => by
    have h1 := (h s (by simp)).slen hm
    have h2 := sgs_len hm l (fun x hx => h x (by simp [hx]))
    have e : (sgsF (s :: l)).bytes = sgB s ++ (sgsF l).bytes := by rw [sgsF, F.bytes, sgF_len]; rfl
    rw [e, List.length_append, List.length_cons, Nat.add_mul]
    omega

/-! ### unlike headers have unlike bytes -/
theorem hdR_inj {a b : Hd} {r t : F} (h : hdR a r = hdR b t) : a = b ∧ r = t := by
  cases a; cases b
  simp only [hdR, F.cons.injEq, true_and] at h
  obtain ⟨h1, h2, h3, h4, h5, h6, h7⟩ := h
  subst h1 h2 h3 h4 h5 h6
  exact ⟨rfl, h7⟩
theorem hdB_inj {a b : Hd} {m : Nat} (ha : a.Ok m) (hb : b.Ok m) (hm : m < 268435456) (h : hdB a = hdB b) : a = b := by
  have e1 := Cod.parse_app 20 2 0 ⟨#[]⟩ (hdF a) [] (hd_right a) (ha.nd hm)
  have e2 := Cod.parse_app 20 2 0 ⟨#[]⟩ (hdF b) [] (hd_right b) (hb.nd hm)
  rw [hdF_len, List.append_nil] at e1 e2
  rw [show nodeL 2 0 ⟨#[]⟩ 6 (hdF a).bytes = hdB a from rfl, h] at e1
  rw [show nodeL 2 0 ⟨#[]⟩ 6 (hdF b).bytes = hdB b from rfl, e1] at e2
  injection e2 with e2
  injection e2 with e2 _
  injection e2 with _ _ _ e2
  exact (hdR_inj e2).1

/-! ### hashes, seals, chains -/
def Hd.bytes (h : Hd) : ByteArray := ⟨(hdB h).toArray⟩
def Hd.hash (h : Hd) : ByteArray := if h.is then ⟨(sumL (hdB h)).toArray⟩ else ⟨#[]⟩
def Hd.sealB (key : ByteArray) (h : Hd) : ByteArray := ⟨(macL key.data.toList (hdB h)).toArray⟩
def signS (key : ByteArray) (h : Hd) : Sg := if h.is then ⟨h, h.sealB key⟩ else zeroS
def Sg.by (key : ByteArray) (s : Sg) : Bool := s.h.is && decide (s.mac = s.h.sealB key)
def firstH (shard : Int) : Hd := ⟨shard, 0, ⟨(List.replicate 32 0).toArray⟩, ⟨(List.replicate 32 0).toArray⟩, 0, 0⟩
def firstS (key : ByteArray) (shard : Int) : Sg := ⟨firstH shard, (firstH shard).sealB key⟩
def nextOk (h : Hd) (root : ByteArray) : Bool := h.is && (decide (root.size = 32) && !decide (h.seq = 18446744073709551615))
def nextH (h : Hd) (root : ByteArray) (who stamp : Int) : Hd := ⟨h.shard, h.seq + 1, h.hash, root, who, stamp⟩
def nextS (key : ByteArray) (s : Sg) (root : ByteArray) (who stamp : Int) : Sg :=
  if nextOk s.h root then ⟨nextH s.h root who stamp, (nextH s.h root who stamp).sealB key⟩ else zeroS
def up64 (n : Int) : Int := IntKind.u64.wrap (n + 1)
def follB (a b : Hd) : Bool := a.is && (b.is && (decide (b.shard = a.shard) && (!decide (b.seq = 0) && (decide (b.seq = up64 a.seq) && decide (b.prev = a.hash)))))
def chainO (key : ByteArray) : Sg → List Sg → Option Sg
  | f, [] => some f
  | f, s :: l => if follB f.h s.h && s.by key then chainO key s l else none
def chainS (key : ByteArray) (f : Sg) (l : List Sg) : Sg := (chainO key f l).getD zeroS
theorem sum_size (l : List UInt8) : (⟨(sumL l).toArray⟩ : ByteArray).size = 32 := by rw [mk_size, sumL, sumBy_length]
theorem seal_size (key : ByteArray) (h : Hd) : (h.sealB key).size = 32 := by unfold Hd.sealB macL; exact sum_size _
theorem hash_size {h : Hd} (k : h.is = true) : h.hash.size = 32 := by unfold Hd.hash; rw [if_pos k]; exact sum_size _
theorem hash_le (h : Hd) : h.hash.size ≤ 32 := by
  unfold Hd.hash; split
  · exact Nat.le_of_eq (sum_size _)
  · exact Nat.zero_le _
theorem zeros32 : (⟨(List.replicate 32 (0 : UInt8)).toArray⟩ : ByteArray).size = 32 := by rw [mk_size]; simp
theorem first_is (n : Int) : (firstH n).is = true := by rw [Hd.is_iff]; exact ⟨zeros32, zeros32⟩
theorem up64_u (n : Int) : U64 (up64 n) := by
  unfold up64; rw [IntKind.wrap_u64]; unfold U64; omega
theorem up64_in {n : Int} (h : U64 n) (h2 : n ≠ 18446744073709551615) : up64 n = n + 1 := by
  unfold up64; rw [IntKind.wrap_u64]; unfold U64 at h; omega
theorem next_is {h : Hd} {root : ByteArray} (who stamp : Int) (k : nextOk h root = true) : (nextH h root who stamp).is = true := by
  unfold nextOk at k
  simp only [Bool.and_eq_true, decide_eq_true_eq] at k
  rw [Hd.is_iff]; exact ⟨hash_size k.1, k.2.1⟩
/-- A right header, with the numbers as they may be. -/
theorem Hd.Ok.of_is {h : Hd} {m n : Nat} (k : h.Ok m) (i : h.is = true) (hn : 32 ≤ n) : h.Ok n := by
  rw [Hd.is_iff] at i
  exact ⟨k.1, k.2.1, by omega, by omega, k.2.2.2.2⟩
end Go.Proofs.YtpkkdjmcabefbaaDoor
