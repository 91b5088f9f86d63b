/- The law's agrees: it answers; where the part is one of the map, it answers true. -/
import Derived.Test.YtmpjpaomgifpcaaGreatDoorPRefO
import Derived.Test.YtmpjpaomgifpcaaGreatDoorPSound
import Derived.Test.YtmpjpaomgifpcaaGreatDoorPKeys
import Derived.Test.YtmpjpaomgifpcaaGreatDoorBTopU
import Derived.Test.YtmpjpaomgifpcaaGreatDoorBRefU
namespace Go.Proofs.YtmpjpaomgifpcaaGreatDoor
open Go.RowKit

/-- A part of the map, or a hash alone. -/
def SoundM (X : Option PT) (M : Option Tr) : Prop := PruneM X M ∨ ∃ h, X = some (.stub h)
theorem right_256 {k : ByteArray} (hk : k.size = 32) : rightB k 256 = true := decide_eq_true ⟨hk, by decide, by decide⟩
theorem stub_und (k : ByteArray) (h : ByteArray) (hk : k.size = 32) : MP.und k 256 (some (.stub h)) = none := by rw [und_right (right_256 hk)]; rfl
theorem SoundM.und {X : Option PT} {M : Option Tr} (h : SoundM X M) (hm : MT.wf M) (k : ByteArray) (n : Int) {a : List Pr} (ha : MP.und k n X = some a) : a = undL k n (MT.pairs M) := by
  rcases h with h | ⟨u, rfl⟩
  · exact und_sound h hm k n ha
  · cases hr : rightB k n with
    | true => rw [und_right hr] at ha; cases ha
    | false =>
      rw [und_wrong hr] at ha
      unfold undL
      rw [if_neg (of_decide_eq_false hr)]
      simpa using ha.symm
theorem SoundM.get {X : Option PT} {M : Option Tr} (h : SoundM X M) (hm : MT.wf M) (k : ByteArray) (hk : k.size = 32) (hn : MP.und k 256 X ≠ none) :
    gtV (MP.und k 256 X) = .tuple #[.string ((getL k (MT.pairs M)).getD ⟨#[]⟩), .bool (getL k (MT.pairs M)).isSome, .bool true] := by
  rcases h with h | ⟨u, rfl⟩
  · exact gtV_sound h hm k hk hn
  · exact absurd (stub_und k u hk) hn
theorem SoundM.put {X Y : Option PT} {M : Option Tr} (h : SoundM X M) (hm : MT.wf M) (k v : ByteArray) (hp : putO k v X = some Y) : MP.root Y = MT.root (MT.put k v M) := by
  rcases h with h | ⟨u, rfl⟩
  · exact pruneM_root (put_sound h hm k v hp).1
  · unfold putO at hp
    by_cases hk : k.size = 32
    · rw [if_pos hk, stub_und k u hk] at hp; simp at hp
    · rw [if_neg hk] at hp; cases hp
theorem SoundM.del {X Y : Option PT} {M : Option Tr} (h : SoundM X M) (hm : MT.wf M) (k : ByteArray) (hp : delO k X = some Y) : MP.root Y = MT.root (MT.del k M) := by
  rcases h with h | ⟨u, rfl⟩
  · exact pruneM_root (del_sound h hm k hp).1
  · unfold delO at hp
    by_cases hk : k.size = 32
    · rw [if_pos hk, stub_und k u hk] at hp; simp at hp
    · rw [if_neg hk] at hp; cases hp
/-- What the law asks of a key, and of a prefix. -/
def GProp (X : Option PT) (M : Option Tr) (k : ByteArray) : Prop := ∀ (v : ByteArray) (f : Bool), gtV (MP.und k 256 X) = .tuple #[.string v, .bool f, .bool true] → v = (getL k (MT.pairs M)).getD ⟨#[]⟩ ∧ f = (getL k (MT.pairs M)).isSome
def PProp (X : Option PT) (M : Option Tr) (k : ByteArray) : Prop := ∀ Y, putO k ⟨#[110, 101, 119]⟩ X = some Y → MP.root Y = MT.root (MT.put k ⟨#[110, 101, 119]⟩ M)
def DProp (X : Option PT) (M : Option Tr) (k : ByteArray) : Prop := ∀ Y, delO k X = some Y → MP.root Y = MT.root (MT.del k M)
def UProp (X : Option PT) (M : Option Tr) (k : ByteArray) (n : Int) : Prop := ∀ a, MP.und k n X = some a → a = undL k n (MT.pairs M)
def KProp (X : Option PT) (M : Option Tr) (k : ByteArray) : Prop := GProp X M k ∧ PProp X M k ∧ DProp X M k
def Agree (KK : List ByteArray) (UU : List AI) (X : Option PT) (M : Option Tr) : Prop := (∀ q ∈ KK, KProp X M q) ∧ ∀ q ∈ UU, UProp X M q.1 q.2
theorem gt_eq {v v' : ByteArray} {f f' b b' : Bool} (h : Value.tuple #[.string v, .bool f, .bool b] = .tuple #[.string v', .bool f', .bool b']) : v = v' ∧ f = f' ∧ b = b' := by
  injection h with h
  simp only [Array.mk.injEq, List.cons.injEq, Value.string.injEq, Value.bool.injEq, and_true] at h
  exact h
theorem sound_agree {KK : List ByteArray} {UU : List AI} {X : Option PT} {M : Option Tr} (h : SoundM X M) (hm : MT.wf M) (hk : ∀ k ∈ KK, k.size = 32) : Agree KK UU X M :=
  ⟨fun q hq => ⟨fun v f e => by
      have h2 := SoundM.get h hm q (hk q hq) (by intro e2; rw [e2] at e; unfold gtV at e; have := (gt_eq e).2.2; cases this)
      rw [e] at h2
      exact ⟨(gt_eq h2).1, (gt_eq h2).2.1⟩, fun Y e => SoundM.put h hm q _ e, fun Y e => SoundM.del h hm q e⟩, fun q _ a e => SoundM.und h hm q.1 q.2 e⟩
/-- What Get tells, in three. -/
theorem gt_three {X : Option PT} {M : Option Tr} (k : ByteArray) : ∃ (v : ByteArray) (f kn : Bool), gtV (MP.und k 256 X) = .tuple #[.string v, .bool f, .bool kn] ∧ (kn = false → v = ⟨#[]⟩ ∧ f = false) ∧
    (GProp X M k ↔ (kn = true → v = (getL k (MT.pairs M)).getD ⟨#[]⟩ ∧ f = (getL k (MT.pairs M)).isSome)) := by
  unfold GProp
  cases MP.und k 256 X with
  | none => exact ⟨⟨#[]⟩, false, false, rfl, fun _ => ⟨rfl, rfl⟩, ⟨fun _ h => (by cases h), fun _ (v : ByteArray) (f : Bool) (e : Value.tuple #[.string ⟨#[]⟩, .bool false, .bool false] = .tuple #[.string v, .bool f, .bool true]) => by have := (gt_eq e).2.2; cases this⟩⟩
  | some a =>
    have key : ∀ (v : ByteArray) (f : Bool), gtV (some a) = .tuple #[.string v, .bool f, .bool true] → ((∀ (v : ByteArray) (f : Bool), gtV (some a) = .tuple #[.string v, .bool f, .bool true] → v = (getL k (MT.pairs M)).getD ⟨#[]⟩ ∧ f = (getL k (MT.pairs M)).isSome) ↔
        (true = true → v = (getL k (MT.pairs M)).getD ⟨#[]⟩ ∧ f = (getL k (MT.pairs M)).isSome)) := fun v f e => ⟨fun h _ => h v f e, fun h v' f' e' => by
      rw [e] at e'
      obtain ⟨rfl, rfl, _⟩ := gt_eq e'
      exact h rfl⟩
    cases a with
    | nil => exact ⟨⟨#[]⟩, false, true, rfl, fun h => (by cases h), key _ _ rfl⟩
    | cons q r => exact ⟨q.2, true, true, rfl, fun h => (by cases h), key _ _ rfl⟩
theorem und_len {X : Option PT} {k : ByteArray} {n : Int} {a : List Pr} (hf : MP.fit X) (h : MP.und k n X = some a) : a.length ≤ 50000 := by
  match X, hf, h with
  | none, _, h =>
    obtain rfl : [] = a := by simpa [MP.und] using h
    exact Nat.zero_le _
  | some x, hf, h =>
    cases hr : rightB k n with
    | true => rw [und_right hr] at h; exact Nat.le_trans (undP_len _ _ x a h) hf.2
    | false =>
      rw [und_wrong hr] at h
      obtain rfl : [] = a := by simpa using h
      exact Nat.zero_le _
def AgRes (P : Prop) (w : World) (e : Ending) (w' : World) : Prop := ∃ b, e = .returned (.bool b) ∧ (b = true ↔ P) ∧ Below w.heap.size w w'
def AgRel {α : Type} (L : List α) (P : α → Prop) (w : World) (i : Value) (wr : World) : Prop := ∃ j : Nat, i = .int .i64 j ∧ j ≤ L.length ∧ (∀ m q, m < j → L[m]? = some q → P q) ∧ Below w.heap.size w wr
theorem AgRel.all {α : Type} {L : List α} {P : α → Prop} {j : Nat} (h : ∀ m q, m < j → L[m]? = some q → P q) (hj : L.length ≤ j) : ∀ q ∈ L, P q := fun q hq => by
  obtain ⟨m, hm, e⟩ := List.getElem_of_mem hq
  exact h m q (by omega) (by rw [List.getElem?_eq_getElem hm, e])
theorem AgRel.more {α : Type} {L : List α} {P : α → Prop} {j : Nat} {q : α} (h : ∀ m q, m < j → L[m]? = some q → P q) (hq : L[j]? = some q) (hp : P q) : ∀ m q, m < j + 1 → L[m]? = some q → P q := fun m q' hm e => by
  by_cases hlt : m < j
  · exact h m q' hlt e
  · obtain rfl : m = j := by omega
    rw [hq] at e
    obtain rfl : q = q' := by simpa using e
    exact hp

set_option maxRecDepth 30000 in
set_option maxHeartbeats 8000000 in
theorem agrees_prog (KK : List ByteArray) (UU : List AI) (X : Option PT) (M : Option Tr) (d : Nat) (tvv kv uv : Value) (w : World) (hK : KK.length ≤ 8) (hU : UU.length ≤ 4) (hks : ∀ k ∈ KK, k.size = 32) (hus : ∀ q ∈ UU, q.1.size = 32)
    (hfit : MP.fit X) (hwf : MT.wf M) (hl : (MT.pairs M).length ≤ 100) (hst : Start w) (h1 : PAt w X (pp d)) (h2 : MAt w M tvv) (h3 : StrSl w kv KK) (h4 : ASl w uv UU) :
    Calls Tryz.prog 21 #[pp d, tvv, kv, uv] w (AgRes (Agree KK UU X M) w) := by
  have HGP := Lib.hid (fun (k : ByteArray) (W : World) (hb : Below w.heap.size w W) => get_part k X (pp d) W hfit (h1.later hb))
  have HGT := Lib.hid (fun (k : ByteArray) (W : World) (hk : k.size = 32) (hb : Below w.heap.size w W) => get_prog k M tvv W (by omega) hwf (MAt.later h2 hb))
  have HPP := Lib.hid (fun (k v : ByteArray) (W : World) (hv : v.size ≤ 5000) (hb : Below w.heap.size w W) => put_part k v X (pp d) W hv hfit (h1.later hb) (hst.later hb))
  have HPT := Lib.hid (fun (k v : ByteArray) (W : World) (hk : k.size = 32) (hv : v.size ≤ 5000) (hb : Below w.heap.size w W) => put_prog k v M tvv W (by omega) hv hwf (by omega) (MAt.later h2 hb) (hst.later hb))
  have HDP := Lib.hid (fun (k : ByteArray) (W : World) (hb : Below w.heap.size w W) => del_part k X (pp d) W hfit (h1.later hb) (hst.later hb))
  have HDT := Lib.hid (fun (k : ByteArray) (W : World) (hk : k.size = 32) (hb : Below w.heap.size w W) => del_prog k M tvv W (by omega) hwf (by omega) (MAt.later h2 hb) (hst.later hb))
  have HUP := Lib.hid (fun (k : ByteArray) (n : Int) (W : World) (hb : Below w.heap.size w W) => under_part k n X (pp d) W hfit (h1.later hb))
  have HUT := Lib.hid (fun (k : ByteArray) (n : Int) (W : World) (hk : k.size = 32) (hb : Below w.heap.size w W) => under_prog k n M tvv W (by omega) hwf (by omega) (MAt.later h2 hb))
  have HRP := Lib.hid (fun (Y : Option PT) (y : Value) (W : World) (h : PAt W Y y) => root_part h)
  have HRT := Lib.hid (fun (Y : Option Tr) (y : Value) (W : World) (h : MAt W Y y) => root_prog h)
  have HSM := Lib.hid (fun (a b : List Pr) (va vb : Value) (W : World) (h1 : PSl W va a) (h2 : PSl W vb b) (hl : a.length ≤ 50000) => same_ref a b va vb W hl h1 h2)
  have HG3 := Lib.hid (fun (k : ByteArray) => gt_three (X := X) (M := M) k)
  have HUL := Lib.hid (fun (k : ByteArray) (n : Int) (a : List Pr) (h : MP.und k n X = some a) => und_len hfit h)
  have HK1 := Lib.hid h3
  have HU1 := Lib.hid h4
  have HKS := Lib.hid hks
  have HUSZ := Lib.hid hus
  obtain ⟨ka, kc, rfl, _⟩ := h3
  obtain ⟨ua, uc, rfl, _, _⟩ := h4
  have hk0 : (0 : Int) ≤ (KK.length : Int) := by omega
  have hu0 : (0 : Int) ≤ (UU.length : Int) := by omega
  have hnew : (⟨#[110, 101, 119]⟩ : ByteArray).size ≤ 5000 := by decide
  have HNEW := Lib.hid hnew
  clear hks hus hfit hwf hl hst h1 h2 hnew
  unfold pp at *
  go_enter Tryz.func21, Tryz.ntmps21
  go_wp2_with fail
  go_loopw [26] (AgRel KK (KProp X M) w) (fun i _ => 9 - (intOf i).toNat)
  case atStart => exact ⟨0, rfl, by omega, fun m q hm => absurd hm (by omega), Below.refl _ _⟩
  case round =>
    obtain ⟨j, rfl, hj, hall, hb⟩ := hrel
    have HALL := Lib.hid hall
    clear hall
    have hj0 : (0 : Int) ≤ (j : Int) := by omega
    have hj1 : (j : Int) ≤ 8 := by omega
    have HB := Lib.hid hb
    by_cases hlt : j < KK.length
    · have hltI : (j : Int) < (KK.length : Int) := by omega
      obtain ⟨q, hq⟩ : ∃ q, q = KK[j] := ⟨_, rfl⟩
      have hqj : KK[j]? = some q := by rw [hq]; exact List.getElem?_eq_getElem hlt
      have hqs := HKS.out q (by rw [hq]; exact List.getElem_mem hlt)
      obtain ⟨a2, c2, he2, hne2⟩ := HK1.out
      injection he2 with ee1 _ ee3
      subst ee1 ee3
      obtain ⟨g, o, rfl, hg, hcs⟩ := hne2 (by intro e; rw [e] at hlt; simp at hlt)
      have x0 : wr.cell? ⟨g, o + j, none⟩ = some (.string q) := cellB hb (hcs j q hqj)
      have HQS := Lib.hid hqs
      obtain ⟨v, f, kn, hgv, hkn, hpr⟩ := HG3.out q
      have HMORE := Lib.hid (fun hp : KProp X M q => AgRel.more HALL.out hqj hp)
      have HIN : Hid (q ∈ KK) := Lib.hid (by rw [hq]; exact List.getElem_mem hlt)
      have HKN := Lib.hid hkn
      have HPR := Lib.hid hpr
      clear hq hqj hcs hne2 hb hqs hkn hpr
      go_wp2_with fail
      refine (HGP.out q wr HB.out).mono ?_
      rintro e w1 ⟨rfl, hb1⟩
      have B1 := Lib.hid (HB.out.trans (hb1.mono HB.out.size))
      rw [hgv]
      clear hb1 x0 hgv
      go_wp2_with fail
      refine (HGT.out q w1 HQS.out B1.out).mono ?_
      rintro e w2 ⟨rfl, hs2⟩
      have B2 := Lib.hid (B1.out.trans ((hs2.below w1.heap.size).mono B1.out.size))
      obtain ⟨u, hu⟩ : ∃ u, u = (getL q (MT.pairs M)).getD ⟨#[]⟩ := ⟨_, rfl⟩
      obtain ⟨th, hth⟩ : ∃ th, th = (getL q (MT.pairs M)).isSome := ⟨_, rfl⟩
      rw [← hu, ← hth] at HPR ⊢
      clear hs2 hu hth


      have Bc := Lib.hid B2.out
      cases kn with
      | false =>
        obtain ⟨rfl, rfl⟩ := HKN.out rfl
        have HNG := Lib.hid (HPR.out.2 (fun h => by cases h))
        clear HKN HPR
        have HEP := Lib.hid (HPP.out q _ _ HNEW.out Bc.out)
        cases ho : putO q ⟨#[110, 101, 119]⟩ X with
        | none =>
          rw [ho] at HEP
          unfold EdRes at HEP
          have HNP : Hid (PProp X M q) := Lib.hid (fun Y h => by rw [ho] at h; cases h)
          clear ho
          go_wp2_with fail
          (with_reducible refine HEP.out.mono ?_)
          rintro e wn ⟨rfl, hbn⟩
          have Bc := Lib.hid (Bc.out.trans (hbn.mono Bc.out.size))
          clear hbn HEP
          have HED := Lib.hid (HDP.out q _ Bc.out)
          cases ho : delO q X with
          | none =>
            rw [ho] at HED
            unfold EdRes at HED
            have HND : Hid (DProp X M q) := Lib.hid (fun Y h => by rw [ho] at h; cases h)
            clear ho
            go_wp2_with fail
            (with_reducible refine HED.out.mono ?_)
            rintro e wn ⟨rfl, hbn⟩
            have Bc := Lib.hid (Bc.out.trans (hbn.mono Bc.out.size))
            clear hbn HED
            go_wp2_with fail
            go_roundw
            case rel => exact ⟨j + 1, by go_num, by omega, HMORE.out ⟨HNG.out, HNP.out, HND.out⟩, Bc.out⟩
            case measure => simp [intOf]; omega
          | some Y =>
            rw [ho] at HED
            unfold EdRes at HED
            obtain ⟨R1, hR1⟩ : ∃ R, R = MP.root Y := ⟨_, rfl⟩
            obtain ⟨R2, hR2⟩ : ∃ R, R = MT.root (MT.del q M) := ⟨_, rfl⟩
            have HQ : Hid (DProp X M q ↔ R1 = R2) := Lib.hid ⟨fun hp => by rw [hR1, hR2]; exact hp Y ho, fun e Y' h => by
              rw [ho] at h
              obtain rfl : Y = Y' := by simpa using h
              rw [hR1, hR2] at e; exact e⟩
            have HRY := Lib.hid (fun (y : Value) (W : World) (h : PAt W Y y) => HRP.out Y y W h)
            have HRM := Lib.hid (fun (y : Value) (W : World) (h : MAt W (MT.del q M) y) => HRT.out _ y W h)
            rw [← hR1] at HRY
            rw [← hR2] at HRM
            clear ho hR1 hR2
            go_wp2_with fail
            (with_reducible refine HED.out.mono ?_)
            rintro e wn ⟨y, rfl, hy, hbn⟩
            have HY := Lib.hid hy
            have Bn := Lib.hid (Bc.out.trans (hbn.mono Bc.out.size))
            obtain ⟨yd, _, rfl, _, _⟩ := hy
            unfold pp at HY ⊢
            clear hbn HED
            go_wp2_with fail
            (with_reducible refine (HRY.out _ wn HY.out).mono ?_)
            rintro e wp ⟨rfl, hbp⟩
            have Bq := Lib.hid (Bn.out.trans (hbp.mono Bn.out.size))
            clear hbp
            go_wp2_with fail
            (with_reducible refine (HDT.out q _ HQS.out Bq.out).mono ?_)
            rintro e ws ⟨z, rfl, hz, hbs⟩
            have HZ := Lib.hid hz
            have Bs := Lib.hid (Bq.out.trans (hbs.mono Bq.out.size))
            clear hbs hz
            by_cases hR : R1 = R2
            · have hI : R1.toList = R2.toList := by rw [hR]
              have HND := Lib.hid (HQ.out.2 hR)
              clear hR HQ
              go_wp2_with fail
              (with_reducible refine (HRM.out _ ws HZ.out).mono ?_)
              rintro e wt ⟨rfl, hbt⟩
              have Bc := Lib.hid (Bs.out.trans (hbt.mono Bs.out.size))
              clear hbt
              go_wp2_with fail
              go_roundw
              case rel => exact ⟨j + 1, by go_num, by omega, HMORE.out ⟨HNG.out, HNP.out, HND.out⟩, Bc.out⟩
              case measure => simp [intOf]; omega
            · have hI : (R1.toList == R2.toList) = false := str_ne hR
              have hNO : ¬ Agree KK UU X M := fun hp => hR (HQ.out.1 (hp.1 q HIN.out).2.2)
              have HNO := Lib.hid hNO
              clear hR HQ hNO
              go_wp2_with fail
              (with_reducible refine (HRM.out _ ws HZ.out).mono ?_)
              rintro e wt ⟨rfl, hbt⟩
              have Bt := Lib.hid (Bs.out.trans (hbt.mono Bs.out.size))
              clear hbt
              go_wp2_with fail
              go_ret
              exact ⟨false, rfl, ⟨fun h => (by cases h), fun hp => absurd hp HNO.out⟩, Bt.out⟩
        | some Y =>
          rw [ho] at HEP
          unfold EdRes at HEP
          obtain ⟨R1, hR1⟩ : ∃ R, R = MP.root Y := ⟨_, rfl⟩
          obtain ⟨R2, hR2⟩ : ∃ R, R = MT.root (MT.put q ⟨#[110, 101, 119]⟩ M) := ⟨_, rfl⟩
          have HQ : Hid (PProp X M q ↔ R1 = R2) := Lib.hid ⟨fun hp => by rw [hR1, hR2]; exact hp Y ho, fun e Y' h => by
            rw [ho] at h
            obtain rfl : Y = Y' := by simpa using h
            rw [hR1, hR2] at e; exact e⟩
          have HRY := Lib.hid (fun (y : Value) (W : World) (h : PAt W Y y) => HRP.out Y y W h)
          have HRM := Lib.hid (fun (y : Value) (W : World) (h : MAt W (MT.put q ⟨#[110, 101, 119]⟩ M) y) => HRT.out _ y W h)
          rw [← hR1] at HRY
          rw [← hR2] at HRM
          clear ho hR1 hR2
          go_wp2_with fail
          (with_reducible refine HEP.out.mono ?_)
          rintro e wn ⟨y, rfl, hy, hbn⟩
          have HY := Lib.hid hy
          have Bn := Lib.hid (Bc.out.trans (hbn.mono Bc.out.size))
          obtain ⟨yd, _, rfl, _, _⟩ := hy
          unfold pp at HY ⊢
          clear hbn HEP
          go_wp2_with fail
          (with_reducible refine (HRY.out _ wn HY.out).mono ?_)
          rintro e wp ⟨rfl, hbp⟩
          have Bq := Lib.hid (Bn.out.trans (hbp.mono Bn.out.size))
          clear hbp
          go_wp2_with fail
          (with_reducible refine (HPT.out q _ _ HQS.out HNEW.out Bq.out).mono ?_)
          rintro e ws ⟨z, rfl, hz, hbs⟩
          have HZ := Lib.hid hz
          have Bs := Lib.hid (Bq.out.trans (hbs.mono Bq.out.size))
          clear hbs hz
          by_cases hR : R1 = R2
          · have hI : R1.toList = R2.toList := by rw [hR]
            have HNP := Lib.hid (HQ.out.2 hR)
            clear hR HQ
            go_wp2_with fail
            (with_reducible refine (HRM.out _ ws HZ.out).mono ?_)
            rintro e wt ⟨rfl, hbt⟩
            have Bc := Lib.hid (Bs.out.trans (hbt.mono Bs.out.size))
            clear hbt
            have HED := Lib.hid (HDP.out q _ Bc.out)
            cases ho : delO q X with
            | none =>
              rw [ho] at HED
              unfold EdRes at HED
              have HND : Hid (DProp X M q) := Lib.hid (fun Y h => by rw [ho] at h; cases h)
              clear ho
              go_wp2_with fail
              (with_reducible refine HED.out.mono ?_)
              rintro e wn ⟨rfl, hbn⟩
              have Bc := Lib.hid (Bc.out.trans (hbn.mono Bc.out.size))
              clear hbn HED
              go_wp2_with fail
              go_roundw
              case rel => exact ⟨j + 1, by go_num, by omega, HMORE.out ⟨HNG.out, HNP.out, HND.out⟩, Bc.out⟩
              case measure => simp [intOf]; omega
            | some Y =>
              rw [ho] at HED
              unfold EdRes at HED
              obtain ⟨R1, hR1⟩ : ∃ R, R = MP.root Y := ⟨_, rfl⟩
              obtain ⟨R2, hR2⟩ : ∃ R, R = MT.root (MT.del q M) := ⟨_, rfl⟩
              have HQ : Hid (DProp X M q ↔ R1 = R2) := Lib.hid ⟨fun hp => by rw [hR1, hR2]; exact hp Y ho, fun e Y' h => by
                rw [ho] at h
                obtain rfl : Y = Y' := by simpa using h
                rw [hR1, hR2] at e; exact e⟩
              have HRY := Lib.hid (fun (y : Value) (W : World) (h : PAt W Y y) => HRP.out Y y W h)
              have HRM := Lib.hid (fun (y : Value) (W : World) (h : MAt W (MT.del q M) y) => HRT.out _ y W h)
              rw [← hR1] at HRY
              rw [← hR2] at HRM
              clear ho hR1 hR2
              go_wp2_with fail
              (with_reducible refine HED.out.mono ?_)
              rintro e wn ⟨y, rfl, hy, hbn⟩
              have HY := Lib.hid hy
              have Bn := Lib.hid (Bc.out.trans (hbn.mono Bc.out.size))
              obtain ⟨yd, _, rfl, _, _⟩ := hy
              unfold pp at HY ⊢
              clear hbn HED
              go_wp2_with fail
              (with_reducible refine (HRY.out _ wn HY.out).mono ?_)
              rintro e wp ⟨rfl, hbp⟩
              have Bq := Lib.hid (Bn.out.trans (hbp.mono Bn.out.size))
              clear hbp
              go_wp2_with fail
              (with_reducible refine (HDT.out q _ HQS.out Bq.out).mono ?_)
              rintro e ws ⟨z, rfl, hz, hbs⟩
              have HZ := Lib.hid hz
              have Bs := Lib.hid (Bq.out.trans (hbs.mono Bq.out.size))
              clear hbs hz
              by_cases hR : R1 = R2
              · have hI : R1.toList = R2.toList := by rw [hR]
                have HND := Lib.hid (HQ.out.2 hR)
                clear hR HQ
                go_wp2_with fail
                (with_reducible refine (HRM.out _ ws HZ.out).mono ?_)
                rintro e wt ⟨rfl, hbt⟩
                have Bc := Lib.hid (Bs.out.trans (hbt.mono Bs.out.size))
                clear hbt
                go_wp2_with fail
                go_roundw
                case rel => exact ⟨j + 1, by go_num, by omega, HMORE.out ⟨HNG.out, HNP.out, HND.out⟩, Bc.out⟩
                case measure => simp [intOf]; omega
              · have hI : (R1.toList == R2.toList) = false := str_ne hR
                have hNO : ¬ Agree KK UU X M := fun hp => hR (HQ.out.1 (hp.1 q HIN.out).2.2)
                have HNO := Lib.hid hNO
                clear hR HQ hNO
                go_wp2_with fail
                (with_reducible refine (HRM.out _ ws HZ.out).mono ?_)
                rintro e wt ⟨rfl, hbt⟩
                have Bt := Lib.hid (Bs.out.trans (hbt.mono Bs.out.size))
                clear hbt
                go_wp2_with fail
                go_ret
                exact ⟨false, rfl, ⟨fun h => (by cases h), fun hp => absurd hp HNO.out⟩, Bt.out⟩
          · have hI : (R1.toList == R2.toList) = false := str_ne hR
            have hNO : ¬ Agree KK UU X M := fun hp => hR (HQ.out.1 (hp.1 q HIN.out).2.1)
            have HNO := Lib.hid hNO
            clear hR HQ hNO
            go_wp2_with fail
            (with_reducible refine (HRM.out _ ws HZ.out).mono ?_)
            rintro e wt ⟨rfl, hbt⟩
            have Bt := Lib.hid (Bs.out.trans (hbt.mono Bs.out.size))
            clear hbt
            go_wp2_with fail
            go_ret
            exact ⟨false, rfl, ⟨fun h => (by cases h), fun hp => absurd hp HNO.out⟩, Bt.out⟩
      | true =>
        by_cases hv : v = u
        · by_cases hf : f = th
          · have HNG := Lib.hid (HPR.out.2 (fun _ => ⟨hv, hf⟩))
            subst hv hf
            clear HKN HPR
            have HEP := Lib.hid (HPP.out q _ _ HNEW.out Bc.out)
            cases ho : putO q ⟨#[110, 101, 119]⟩ X with
            | none =>
              rw [ho] at HEP
              unfold EdRes at HEP
              have HNP : Hid (PProp X M q) := Lib.hid (fun Y h => by rw [ho] at h; cases h)
              clear ho
              go_wp2_with fail
              (with_reducible refine HEP.out.mono ?_)
              rintro e wn ⟨rfl, hbn⟩
              have Bc := Lib.hid (Bc.out.trans (hbn.mono Bc.out.size))
              clear hbn HEP
              have HED := Lib.hid (HDP.out q _ Bc.out)
              cases ho : delO q X with
              | none =>
                rw [ho] at HED
                unfold EdRes at HED
                have HND : Hid (DProp X M q) := Lib.hid (fun Y h => by rw [ho] at h; cases h)
                clear ho
                go_wp2_with fail
                (with_reducible refine HED.out.mono ?_)
                rintro e wn ⟨rfl, hbn⟩
                have Bc := Lib.hid (Bc.out.trans (hbn.mono Bc.out.size))
                clear hbn HED
                go_wp2_with fail
                go_roundw
                case rel => exact ⟨j + 1, by go_num, by omega, HMORE.out ⟨HNG.out, HNP.out, HND.out⟩, Bc.out⟩
                case measure => simp [intOf]; omega
              | some Y =>
                rw [ho] at HED
                unfold EdRes at HED
                obtain ⟨R1, hR1⟩ : ∃ R, R = MP.root Y := ⟨_, rfl⟩
                obtain ⟨R2, hR2⟩ : ∃ R, R = MT.root (MT.del q M) := ⟨_, rfl⟩
                have HQ : Hid (DProp X M q ↔ R1 = R2) := Lib.hid ⟨fun hp => by rw [hR1, hR2]; exact hp Y ho, fun e Y' h => by
                  rw [ho] at h
                  obtain rfl : Y = Y' := by simpa using h
                  rw [hR1, hR2] at e; exact e⟩
                have HRY := Lib.hid (fun (y : Value) (W : World) (h : PAt W Y y) => HRP.out Y y W h)
                have HRM := Lib.hid (fun (y : Value) (W : World) (h : MAt W (MT.del q M) y) => HRT.out _ y W h)
                rw [← hR1] at HRY
                rw [← hR2] at HRM
                clear ho hR1 hR2
                go_wp2_with fail
                (with_reducible refine HED.out.mono ?_)
                rintro e wn ⟨y, rfl, hy, hbn⟩
                have HY := Lib.hid hy
                have Bn := Lib.hid (Bc.out.trans (hbn.mono Bc.out.size))
                obtain ⟨yd, _, rfl, _, _⟩ := hy
                unfold pp at HY ⊢
                clear hbn HED
                go_wp2_with fail
                (with_reducible refine (HRY.out _ wn HY.out).mono ?_)
                rintro e wp ⟨rfl, hbp⟩
                have Bq := Lib.hid (Bn.out.trans (hbp.mono Bn.out.size))
                clear hbp
                go_wp2_with fail
                (with_reducible refine (HDT.out q _ HQS.out Bq.out).mono ?_)
                rintro e ws ⟨z, rfl, hz, hbs⟩
                have HZ := Lib.hid hz
                have Bs := Lib.hid (Bq.out.trans (hbs.mono Bq.out.size))
                clear hbs hz
                by_cases hR : R1 = R2
                · have hI : R1.toList = R2.toList := by rw [hR]
                  have HND := Lib.hid (HQ.out.2 hR)
                  clear hR HQ
                  go_wp2_with fail
                  (with_reducible refine (HRM.out _ ws HZ.out).mono ?_)
                  rintro e wt ⟨rfl, hbt⟩
                  have Bc := Lib.hid (Bs.out.trans (hbt.mono Bs.out.size))
                  clear hbt
                  go_wp2_with fail
                  go_roundw
                  case rel => exact ⟨j + 1, by go_num, by omega, HMORE.out ⟨HNG.out, HNP.out, HND.out⟩, Bc.out⟩
                  case measure => simp [intOf]; omega
                · have hI : (R1.toList == R2.toList) = false := str_ne hR
                  have hNO : ¬ Agree KK UU X M := fun hp => hR (HQ.out.1 (hp.1 q HIN.out).2.2)
                  have HNO := Lib.hid hNO
                  clear hR HQ hNO
                  go_wp2_with fail
                  (with_reducible refine (HRM.out _ ws HZ.out).mono ?_)
                  rintro e wt ⟨rfl, hbt⟩
                  have Bt := Lib.hid (Bs.out.trans (hbt.mono Bs.out.size))
                  clear hbt
                  go_wp2_with fail
                  go_ret
                  exact ⟨false, rfl, ⟨fun h => (by cases h), fun hp => absurd hp HNO.out⟩, Bt.out⟩
            | some Y =>
              rw [ho] at HEP
              unfold EdRes at HEP
              obtain ⟨R1, hR1⟩ : ∃ R, R = MP.root Y := ⟨_, rfl⟩
              obtain ⟨R2, hR2⟩ : ∃ R, R = MT.root (MT.put q ⟨#[110, 101, 119]⟩ M) := ⟨_, rfl⟩
              have HQ : Hid (PProp X M q ↔ R1 = R2) := Lib.hid ⟨fun hp => by rw [hR1, hR2]; exact hp Y ho, fun e Y' h => by
                rw [ho] at h
                obtain rfl : Y = Y' := by simpa using h
                rw [hR1, hR2] at e; exact e⟩
              have HRY := Lib.hid (fun (y : Value) (W : World) (h : PAt W Y y) => HRP.out Y y W h)
              have HRM := Lib.hid (fun (y : Value) (W : World) (h : MAt W (MT.put q ⟨#[110, 101, 119]⟩ M) y) => HRT.out _ y W h)
              rw [← hR1] at HRY
              rw [← hR2] at HRM
              clear ho hR1 hR2
              go_wp2_with fail
              (with_reducible refine HEP.out.mono ?_)
              rintro e wn ⟨y, rfl, hy, hbn⟩
              have HY := Lib.hid hy
              have Bn := Lib.hid (Bc.out.trans (hbn.mono Bc.out.size))
              obtain ⟨yd, _, rfl, _, _⟩ := hy
              unfold pp at HY ⊢
              clear hbn HEP
              go_wp2_with fail
              (with_reducible refine (HRY.out _ wn HY.out).mono ?_)
              rintro e wp ⟨rfl, hbp⟩
              have Bq := Lib.hid (Bn.out.trans (hbp.mono Bn.out.size))
              clear hbp
              go_wp2_with fail
              (with_reducible refine (HPT.out q _ _ HQS.out HNEW.out Bq.out).mono ?_)
              rintro e ws ⟨z, rfl, hz, hbs⟩
              have HZ := Lib.hid hz
              have Bs := Lib.hid (Bq.out.trans (hbs.mono Bq.out.size))
              clear hbs hz
              by_cases hR : R1 = R2
              · have hI : R1.toList = R2.toList := by rw [hR]
                have HNP := Lib.hid (HQ.out.2 hR)
                clear hR HQ
                go_wp2_with fail
                (with_reducible refine (HRM.out _ ws HZ.out).mono ?_)
                rintro e wt ⟨rfl, hbt⟩
                have Bc := Lib.hid (Bs.out.trans (hbt.mono Bs.out.size))
                clear hbt
                have HED := Lib.hid (HDP.out q _ Bc.out)
                cases ho : delO q X with
                | none =>
                  rw [ho] at HED
                  unfold EdRes at HED
                  have HND : Hid (DProp X M q) := Lib.hid (fun Y h => by rw [ho] at h; cases h)
                  clear ho
                  go_wp2_with fail
                  (with_reducible refine HED.out.mono ?_)
                  rintro e wn ⟨rfl, hbn⟩
                  have Bc := Lib.hid (Bc.out.trans (hbn.mono Bc.out.size))
                  clear hbn HED
                  go_wp2_with fail
                  go_roundw
                  case rel => exact ⟨j + 1, by go_num, by omega, HMORE.out ⟨HNG.out, HNP.out, HND.out⟩, Bc.out⟩
                  case measure => simp [intOf]; omega
                | some Y =>
                  rw [ho] at HED
                  unfold EdRes at HED
                  obtain ⟨R1, hR1⟩ : ∃ R, R = MP.root Y := ⟨_, rfl⟩
                  obtain ⟨R2, hR2⟩ : ∃ R, R = MT.root (MT.del q M) := ⟨_, rfl⟩
                  have HQ : Hid (DProp X M q ↔ R1 = R2) := Lib.hid ⟨fun hp => by rw [hR1, hR2]; exact hp Y ho, fun e Y' h => by
                    rw [ho] at h
                    obtain rfl : Y = Y' := by simpa using h
                    rw [hR1, hR2] at e; exact e⟩
                  have HRY := Lib.hid (fun (y : Value) (W : World) (h : PAt W Y y) => HRP.out Y y W h)
                  have HRM := Lib.hid (fun (y : Value) (W : World) (h : MAt W (MT.del q M) y) => HRT.out _ y W h)
                  rw [← hR1] at HRY
                  rw [← hR2] at HRM
                  clear ho hR1 hR2
                  go_wp2_with fail
                  (with_reducible refine HED.out.mono ?_)
                  rintro e wn ⟨y, rfl, hy, hbn⟩
                  have HY := Lib.hid hy
                  have Bn := Lib.hid (Bc.out.trans (hbn.mono Bc.out.size))
                  obtain ⟨yd, _, rfl, _, _⟩ := hy
                  unfold pp at HY ⊢
                  clear hbn HED
                  go_wp2_with fail
                  (with_reducible refine (HRY.out _ wn HY.out).mono ?_)
                  rintro e wp ⟨rfl, hbp⟩
                  have Bq := Lib.hid (Bn.out.trans (hbp.mono Bn.out.size))
                  clear hbp
                  go_wp2_with fail
                  (with_reducible refine (HDT.out q _ HQS.out Bq.out).mono ?_)
                  rintro e ws ⟨z, rfl, hz, hbs⟩
                  have HZ := Lib.hid hz
                  have Bs := Lib.hid (Bq.out.trans (hbs.mono Bq.out.size))
                  clear hbs hz
                  by_cases hR : R1 = R2
                  · have hI : R1.toList = R2.toList := by rw [hR]
                    have HND := Lib.hid (HQ.out.2 hR)
                    clear hR HQ
                    go_wp2_with fail
                    (with_reducible refine (HRM.out _ ws HZ.out).mono ?_)
                    rintro e wt ⟨rfl, hbt⟩
                    have Bc := Lib.hid (Bs.out.trans (hbt.mono Bs.out.size))
                    clear hbt
                    go_wp2_with fail
                    go_roundw
                    case rel => exact ⟨j + 1, by go_num, by omega, HMORE.out ⟨HNG.out, HNP.out, HND.out⟩, Bc.out⟩
                    case measure => simp [intOf]; omega
                  · have hI : (R1.toList == R2.toList) = false := str_ne hR
                    have hNO : ¬ Agree KK UU X M := fun hp => hR (HQ.out.1 (hp.1 q HIN.out).2.2)
                    have HNO := Lib.hid hNO
                    clear hR HQ hNO
                    go_wp2_with fail
                    (with_reducible refine (HRM.out _ ws HZ.out).mono ?_)
                    rintro e wt ⟨rfl, hbt⟩
                    have Bt := Lib.hid (Bs.out.trans (hbt.mono Bs.out.size))
                    clear hbt
                    go_wp2_with fail
                    go_ret
                    exact ⟨false, rfl, ⟨fun h => (by cases h), fun hp => absurd hp HNO.out⟩, Bt.out⟩
              · have hI : (R1.toList == R2.toList) = false := str_ne hR
                have hNO : ¬ Agree KK UU X M := fun hp => hR (HQ.out.1 (hp.1 q HIN.out).2.1)
                have HNO := Lib.hid hNO
                clear hR HQ hNO
                go_wp2_with fail
                (with_reducible refine (HRM.out _ ws HZ.out).mono ?_)
                rintro e wt ⟨rfl, hbt⟩
                have Bt := Lib.hid (Bs.out.trans (hbt.mono Bs.out.size))
                clear hbt
                go_wp2_with fail
                go_ret
                exact ⟨false, rfl, ⟨fun h => (by cases h), fun hp => absurd hp HNO.out⟩, Bt.out⟩
          · have hNO : ¬ Agree KK UU X M := fun hp => hf (HPR.out.1 (hp.1 q HIN.out).1 rfl).2
            have HNO := Lib.hid hNO
            have hfI : (f == th) = false := by simpa using hf
            have hfI2 : (f != th) = true := by simpa using hf
            subst hv
            clear HKN HPR hNO hf
            go_wp2_with fail
            go_ret
            exact ⟨false, rfl, ⟨fun h => (by cases h), fun hp => absurd hp HNO.out⟩, B2.out⟩
        · have hNO : ¬ Agree KK UU X M := fun hp => hv (HPR.out.1 (hp.1 q HIN.out).1 rfl).1
          have HNO := Lib.hid hNO
          have hvI : (v.toList == u.toList) = false := str_ne hv
          clear HKN HPR hNO hv
          go_wp2_with fail
          go_ret
          exact ⟨false, rfl, ⟨fun h => (by cases h), fun hp => absurd hp HNO.out⟩, B2.out⟩
    · have hltI : ¬ (j : Int) < (KK.length : Int) := by omega
      have HAK := Lib.hid (AgRel.all HALL.out (by omega))
      clear hlt hj hb
      have hj2 : j ≤ 8 := by omega
      obtain ⟨wo, hwo⟩ : ∃ x, x = wr := ⟨_, rfl⟩
      subst hwo
      go_wp2_with fail
      clear hltI hj0 hj1 hj2
      go_loopw [100] (AgRel UU (fun q => UProp X M q.1 q.2) wo) (fun i _ => 5 - (intOf i).toNat)
      case atStart => exact ⟨0, rfl, by omega, fun m q hm => absurd hm (by omega), Below.refl _ _⟩
      case round =>
        obtain ⟨i, rfl, hi, hall, hb⟩ := hrel
        have HALL2 := Lib.hid hall
        clear hall
        have hi0 : (0 : Int) ≤ (i : Int) := by omega
        have hi1 : (i : Int) ≤ 4 := by omega
        have HB2 := Lib.hid (HB.out.trans (hb.mono HB.out.size))
        have HBo := Lib.hid hb
        by_cases hlt : i < UU.length
        · have hltI : (i : Int) < (UU.length : Int) := by omega
          obtain ⟨q, hq⟩ : ∃ q, q = UU[i] := ⟨_, rfl⟩
          have hqj : UU[i]? = some q := by rw [hq]; exact List.getElem?_eq_getElem hlt
          have hqs := HUSZ.out q (by rw [hq]; exact List.getElem_mem hlt)
          obtain ⟨a2, c2, he2, _, hne2⟩ := HU1.out
          injection he2 with ee1 _ ee3
          subst ee1 ee3
          obtain ⟨g, o, rfl, hg, hcs⟩ := hne2 (by intro e; rw [e] at hlt; simp at hlt)
          obtain ⟨d0, d1⟩ := hcs i q hqj
          have HMORE := Lib.hid (fun hp : UProp X M q.1 q.2 => AgRel.more (P := fun q => UProp X M q.1 q.2) HALL2.out hqj hp)
          have HIN : Hid (q ∈ UU) := Lib.hid (by rw [hq]; exact List.getElem_mem hlt)
          obtain ⟨qk, qn⟩ := q
          have x0 : wr.cell? ⟨g, o + i * 2, none⟩ = some (.string qk) := cellB HB2.out d0
          have x1 : wr.cell? ⟨g, o + i * 2 + 1, none⟩ = some (.int .i64 qn) := cellB HB2.out d1
          obtain ⟨W1, hW1⟩ : ∃ W1, W1 = wr.alloc (.cells #[.string qk, .int .i64 qn] 46) := ⟨_, rfl⟩
          have hb1 : Below wr.heap.size wr W1 := by rw [hW1]; exact (Below.refl _ _).alloc (Nat.le_refl _) _
          obtain ⟨q0, q1⟩ := ask_cells (w := W1) (b := wr.heap.size) (k := qk) (n := qn) (by rw [hW1]; exact heap_alloc_new _ _)
          have t0 := q0
          have t1 := q1
          rw [hW1] at t0 t1
          have B1 := Lib.hid (HB2.out.trans (hb1.mono HB2.out.size))
          have Bo1 := Lib.hid (HBo.out.trans (hb1.mono HBo.out.size))
          have hqs' : qk.size = 32 := hqs
          have HQS := Lib.hid hqs'
          have HW1 := Lib.hid hW1
          clear hq hqj hcs hne2 hb d0 d1 hb1 hW1 hqs hqs'
          go_wp2_with fail
          rw [← HW1.out]
          refine (HUP.out qk qn W1 B1.out).mono ?_
          rintro e w3 ⟨lv, rfl, hgp, hb3⟩
          have B3 := Lib.hid (B1.out.trans (hb3.mono B1.out.size))
          have Bo3 := Lib.hid (Bo1.out.trans (hb3.mono Bo1.out.size))
          have r0 := cellB hb3 q0
          have r1 := cellB hb3 q1
          clear hb3 q0 q1 t0 t1 x0 x1
          cases ho : MP.und qk qn X with
          | none =>
            rw [ho] at hgp
            obtain rfl : lv = .slice none 0 0 := hgp
            have HNX := Lib.hid (HMORE.out (fun a h => by rw [ho] at h; cases h))
            clear ho
            go_wp2_with fail
            go_roundw
            case rel => exact ⟨i + 1, by go_num, by omega, HNX.out, Bo3.out⟩
            case measure => simp [intOf]; omega
          | some a =>
            rw [ho] at hgp
            have HSL := Lib.hid (POwn.sl (show POwn w3 W1.heap.size lv ([] ++ a) from hgp))
            rw [List.nil_append] at HSL
            have HUSQ : Hid (UProp X M qk qn ↔ a = undL qk qn (MT.pairs M)) := Lib.hid ⟨fun h => h a ho, fun h a' h' => by
              rw [ho] at h'
              obtain rfl : a = a' := by simpa using h'
              exact h⟩
            have hal : a.length ≤ 50000 := HUL.out qk qn a ho
            have HAL := Lib.hid hal
            clear ho hgp hal
            go_wp2_with fail
            refine (HUT.out qk qn w3 HQS.out B3.out).mono ?_
            rintro e w4 ⟨mv, rfl, hm4, hb4⟩
            have HSL4 := Lib.hid (HSL.out.later hb4)
            have HSM4 := Lib.hid (POwn.sl hm4)
            have B4 := Lib.hid (B3.out.trans (hb4.mono B3.out.size))
            have Bo4 := Lib.hid (Bo3.out.trans (hb4.mono Bo3.out.size))
            clear hb4 hm4 r0 r1
            cases hs : sameB a (undL qk qn (MT.pairs M)) with
            | true =>
              have HS4 := Lib.hid (HSM.out a _ lv mv w4 HSL4.out HSM4.out HAL.out)
              have HNX := Lib.hid (HMORE.out (HUSQ.out.2 (of_decide_eq_true hs)))
              rw [hs] at HS4
              clear hs
              go_wp2_with fail
              refine HS4.out.mono ?_
              rintro e w5 ⟨rfl, hs5⟩
              have Bo5 := Lib.hid (Bo4.out.trans ((hs5.below w4.heap.size).mono Bo4.out.size))
              clear hs5
              go_wp2_with fail
              go_roundw
              case rel => exact ⟨i + 1, by go_num, by omega, HNX.out, Bo5.out⟩
              case measure => simp [intOf]; omega
            | false =>
              have HS4 := Lib.hid (HSM.out a _ lv mv w4 HSL4.out HSM4.out HAL.out)
              have HNO : Hid (¬ Agree KK UU X M) := Lib.hid (fun hp => by
                have e := HUSQ.out.1 (hp.2 _ HIN.out)
                rw [← e] at hs
                simp [sameB] at hs)
              rw [hs] at HS4
              clear hs
              go_wp2_with fail
              refine HS4.out.mono ?_
              rintro e w5 ⟨rfl, hs5⟩
              have B5 := Lib.hid (B4.out.trans ((hs5.below w4.heap.size).mono B4.out.size))
              clear hs5
              go_wp2_with fail
              go_ret
              exact ⟨false, rfl, ⟨fun h => (by cases h), fun hp => absurd hp HNO.out⟩, B5.out⟩
        · have hltI : ¬ (i : Int) < (UU.length : Int) := by omega
          clear hb
          go_wp2_with fail
          go_ret
          exact ⟨true, rfl, ⟨fun _ => ⟨HAK.out, AgRel.all (L := UU) (P := fun q => UProp X M q.1 q.2) HALL2.out (by omega)⟩, fun _ => rfl⟩, HB2.out⟩
end Go.Proofs.YtmpjpaomgifpcaaGreatDoor
