/- codec.written. -/
import Derived.Test.YtgdlnjhbencjkaaCNum
import Derived.Test.YtgdlnjhbencjkaaCPlain
import Derived.Deep.RegionHeld3
import Derived.Deep.DeepCutAuto
import Derived.Deep.CutBlock
namespace Go.Proofs.Ytgdlnjhbencjkaa
open Go.RowKit

def Fits (m : Nat) : Prop := m ≤ 16777216
theorem Fits.le {a b : Nat} (h : Fits b) (hab : a ≤ b) : Fits a := Nat.le_trans hab h
theorem Fits.room {a b : Nat} (h : Fits b) (hab : a ≤ b + 1000) : Room a := by unfold Fits at h; unfold Room; omega

theorem Grew.toNil (w : World) (v : Value) : Grew w v w (.slice none 0 0) := ⟨⟨rfl, rfl, rfl, Nat.le_refl _, fun _ _ _ => rfl⟩, (fun _ h => by cases h)⟩

theorem step_app_strB {ops : Array Oper} {o : Oper} {a : Act} {K : Act → World → Prop} {Q : Exit → Act → World → Prop} {E : Prop} {w : World} (hgd : o.guard = none) (sl x : Operand)
    (ho : o.op = .call { callee := .builtin .append, args := #[sl, x], argTypes := #[90, 9] })
    (B : Nat) (v : Value) (xs : List UInt8) (hs : a.eval sl = v) (hown : OwnsB w B v xs) (s : ByteArray) (hx : a.eval x = .string s) (hr : Room (xs.length + s.size)) (hbase : B ≤ w.heap.size)
    (h : ∀ v' w', OwnsB w' B v' (xs ++ s.data.toList) → Grew w v w' v' → K (a.put o.dst v') w') : if Region.wanted o (yielded ops a.tmps) = true then Oper.wp Try.prog o a w K Q else E := by
  have hw : Region.wanted o (yielded ops a.tmps) = true := by simp [Region.wanted, hgd]
  rw [if_pos hw]
  unfold Room at hr
  refine wp_app_str sl x _ _ ho B _ Try.bytesSlN Try.underlying9 v xs.length _ hs hown s hx (by unfold maxLen; omega) (by omega) hbase ?_
  intro v' w' h2 h3
  refine h v' w' ?_ h3
  unfold OwnsB
  rw [List.length_append, List.map_append]
  exact h2

theorem OwnsB.shape {w : World} {B : Nat} {v : Value} {xs : List UInt8} (h : OwnsB w B v xs) : ∃ a cap, v = .slice a xs.length cap := by
  obtain ⟨a, cap, e⟩ := h.owns.shape
  exact ⟨a, cap, by simpa using e⟩

theorem szL_len (n : Nat) (h : n < 268435456) : (szL n).length ≤ 4 := by
  have H : ∀ (k n : Nat), n < 128 ^ (k + 1) → (szL n).length ≤ k + 1 := by
    intro k
    induction k with
    | zero => intro n h; rw [szL_lt (by simpa using h)]; simp
    | succ k ih =>
      intro n h
      by_cases h1 : n < 128
      · rw [szL_lt h1]; simp
      · rw [szL_ge (by omega)]
        have := ih (n / 128) (by rw [Nat.pow_succ] at h; omega)
        simp; omega
  exact H 3 n (by simpa using h)

/-- A node's bytes without its kids'. -/
def headL (k n : Int) (s : ByteArray) (len : Nat) : List UInt8 :=
  if k = 0 then 110 :: (szL (numL n.toNat).length ++ numL n.toNat) else if k = 1 then 115 :: (szL s.size ++ s.data.toList) else 108 :: szL len
theorem nodeL_head {k n : Int} {s : ByteArray} {c : F} (h : plainB k n s c.len = true) : nodeL k n s c.len c.bytes = headL k n s c.len ++ c.bytes := by
  unfold plainB at h
  unfold nodeL headL
  split
  · rename_i hk; rw [if_pos hk] at h
    simp at h
    rw [F.len_zero h.2]; simp [F.bytes]
  · rename_i hk; rw [if_neg hk] at h
    split
    · rename_i hk1; rw [if_pos hk1] at h
      simp at h
      rw [F.len_zero h.2]; simp [F.bytes]
    · simp

def WrRes (B : Nat) (w : World) (v : Value) (zs : List UInt8) (r : Bool) (e : Ending) (w' : World) : Prop :=
  ∃ v', e = .returned (.tuple #[v', .bool r]) ∧ Grew w v w' v' ∧ (r = true → OwnsB w' B v' zs) ∧ (r = false → v' = .slice none 0 0)

def WrLoop (B : Nat) (w1 : World) (v : Value) (zs : List UInt8) (c : F) (d : Nat) (rb : Bool) (s0 s8 s9 : Value) (wr : World) : Prop :=
  ∃ (i : Nat) (ok : Bool), s8 = .bool ok ∧ s9 = .int .i64 i ∧ i ≤ c.len ∧ Grew w1 v wr s0 ∧
    (ok = true → Hid ((c.drop i).right d = rb) ∧ ∃ ys, OwnsB wr B s0 ys ∧ Hid (ys ++ (c.drop i).bytes = zs)) ∧ (ok = false → rb = false)

def WrOk (D : Nat) : Prop := ∀ (k n : Int) (s : ByteArray) (c : F) (kv : Value) (d : Nat) (lv : Int) (B : Nat) (v : Value) (xs : List UInt8) (w : World), c.deep < D → Nd.ok ⟨k, n, s, c⟩ → lv = 21 - (d : Int) → d ≤ 20 →
  KidsAt w (· < B) c kv → OwnsB w B v xs → B ≤ w.heap.size → Fits (xs.length + (nodeL k n s c.len c.bytes).length) →
  Calls Try.prog 44 #[v, nodeV k n s kv, .int .i64 lv] w (WrRes B w v (xs ++ nodeL k n s c.len c.bytes) (Nd.right ⟨k, n, s, c⟩ d))

set_option maxRecDepth 30000 in
set_option maxHeartbeats 1000000 in
theorem written_step (D : Nat) (IH : WrOk D) : WrOk (D + 1) := by
  intro k n s c kv d lv B v xs w hD hok hlv hd hk hown hB hfit
  have HIH := Lib.hid IH
  have HOWN := Lib.hid hown
  have HK := Lib.hid hk
  obtain ⟨ka, kc, rfl⟩ := hk.shape
  have HOK := Lib.hid hok
  clear IH hown hk hok
  rcases Nat.eq_zero_or_pos d with h0 | h0
  · subst h0
    obtain rfl : lv = 21 := by omega
    have hr : Nd.right ⟨k, n, s, c⟩ 0 = false := by simp [Nd.right]
    rw [hr]
    clear hr hlv
    unfold nodeV
    go_enter Try.func44, Try.ntmps44
    go_wp2_with fail
    go_ret2
    exact ⟨_, rfl, (Grew.alloc _ _ _).trans (Grew.toNil _ _), (fun h => by cases h), (fun _ => rfl)⟩
  · have hlv20 : lv ≤ 20 := by omega
    have HPL := Lib.hid (fun w => plain_prog k n s ka c.len kc w)
    obtain ⟨pb, hpb⟩ : ∃ pb, plainB k n s c.len = pb := ⟨_, rfl⟩
    cases pb with
    | false =>
      have hr : Nd.right ⟨k, n, s, c⟩ d = false := by simp [Nd.right, hpb]
      rw [hr]
      rw [hpb] at HPL
      clear hr hlv hpb
      unfold nodeV at HPL ⊢
      go_enter Try.func44, Try.ntmps44
      go_wp2_with fail
      refine (HPL.out _).mono ?_
      rintro e w1 ⟨rfl, hb1⟩
      go_wp2_with fail
      go_ret2
      exact ⟨_, rfl, ((Grew.alloc _ _ v).trans (Grew.ofBelow v hb1)).trans (Grew.toNil _ _), (fun h => by cases h), (fun _ => rfl)⟩
    | true =>
      rw [hpb] at HPL
      have hnl := nodeL_head (n := n) hpb
      rw [hnl] at hfit ⊢
      obtain ⟨rb, hrb⟩ : ∃ rb, c.right (d - 1) = rb := ⟨_, rfl⟩
      have hr : Nd.right ⟨k, n, s, c⟩ d = rb := by simp [Nd.right, hpb, h0, hrb]
      rw [hr]
      have HRB := Lib.hid hrb
      have hok2 := HOK.out
      obtain ⟨⟨hn0, hn1⟩, hs28, hc28, hck⟩ := hok2
      simp only at hn0 hn1 hs28 hc28 hck
      have hs24 : (s.size : Int) ≤ 16777216 := by
        unfold plainB at hpb
        by_cases k1 : k = 1
        · subst k1
          rw [if_neg (by decide), if_pos rfl] at hpb
          unfold Fits headL at hfit
          simp at hfit
          omega
        · by_cases k0 : k = 0
          · rw [if_pos k0] at hpb; simp at hpb; rw [hpb.1]; simp
          · rw [if_neg k0, if_neg k1] at hpb; simp at hpb; rw [hpb.2]; simp
      have HN1 := Lib.hid hn1
      have HS28 := Lib.hid hs28
      have HC28 := Lib.hid hc28
      have HCK := Lib.hid hck
      have HPB := Lib.hid hpb
      have HFIT := Lib.hid hfit
      have HNL := Lib.hid hnl
      have HLV := Lib.hid hlv
      clear hn1 hs28 hc28 hck hpb hfit hr hnl hrb hlv
      unfold nodeV at HPL ⊢
      go_enter Try.func44, Try.ntmps44
      go_wp2_with fail
      refine (HPL.out _).mono ?_
      rintro e w1 ⟨rfl, hb1⟩
      have g1 : Grew w v w1 v := (Grew.alloc _ _ v).trans (Grew.ofBelow v hb1)
      have cc : ∀ (o : Nat) (x : Value), (w.alloc (.cells #[.int .i64 k, .int .u64 n, .string s, .slice ka c.len kc] 76)).cell? ⟨w.heap.size, o, none⟩ = some x → w1.cell? ⟨w.heap.size, o, none⟩ = some x :=
        fun o x h => by rw [hb1.cell (p := ⟨w.heap.size, o, none⟩) (by simp)]; exact h
      have c0 := cc 0 (.int .i64 k) (by simp [World.cell?_alloc_new])
      have c1 := cc 1 (.int .u64 n) (by simp [World.cell?_alloc_new])
      have c2 := cc 2 (.string s) (by simp [World.cell?_alloc_new])
      have c3 := cc 3 (.slice ka c.len kc) (by simp [World.cell?_alloc_new])
      have hgt : w.heap.size < w1.heap.size := by have := hb1.size; simp at this; omega
      have H1 : Hid (OwnsB w1 B v xs) := Lib.hid (OwnsB.of ((HOWN.out.owns.alloc _).later hb1))
      have hne := HOWN.out.ne (Nat.le_refl _)
      have HG1 := Lib.hid g1
      have HNE := Lib.hid hne
      clear cc hb1 g1 hne
      go_upto_block 0 with (fail)
      go_cut [0] (fun s0 wx => OwnsB wx B s0 (xs ++ headL k n s c.len) ∧ Grew w1 v wx s0)
      case first =>
        have c2H := Lib.hid c2
        by_cases k0 : k = 0
        · subst k0
          go_wp2_with fail
          have hh : headL 0 n s c.len = 110 :: (szL (numL n.toNat).length ++ numL n.toNat) := by simp [headL]
          refine (withNumber_prog xs n B v w1 H1.out (by omega) hn0 HN1.out (HFIT.out.room (by rw [hh]; simp; omega))).mono ?_
          rintro e w2 ⟨v2, rfl, h2, g2⟩
          go_wp2_with fail
          go_meet
          rw [hh]
          exact ⟨h2, g2⟩
        · by_cases k1 : k = 1
          · subst k1
            have hh : headL 1 n s c.len = 115 :: (szL s.size ++ s.data.toList) := by simp [headL]
            have hsz := szL_len s.size HS28.out
            have hroom : Hid (Room (xs.length + 1 + (szL s.size).length + s.size + 100)) := Lib.hid (HFIT.out.room (by rw [hh]; simp; omega))
            have HSZ := Lib.hid hsz
            have HH := Lib.hid hh
            clear hsz hh
            go_wp2_with fail
            go_region_held3 (fun w' => w'.cell? ⟨w.heap.size, 2, none⟩ = some (.string s))
              (first
                | exact c2H.out
                | (exact (Grew.alloc _ _ (.slice none 0 0)).cell c2H.out (by simp [Value.ownBlock]))
                | exact G4.cell c2H.out HNE.out
                | exact G3.cell c2H.out HNE.out
                | exact G2.cell c2H.out HNE.out)
              (first
                | (refine step_app1 rfl _ _ (by rfl) B _ xs (by rfl) ((H1.out.alloc _).drew) w1.heap.size 1 _ 115 (by rfl) (heap_at_alloc w1 _) rfl (hroom.out.le (by omega)) (by simp [World.drew]; omega) ?_; intro v2 w2 hown2 hb2; have G2 : Grew w1 v w2 v2 := ((Grew.alloc _ _ _).trans (Grew.drew _ _)).trans hb2)
                | (go_at_call 51; refine (withSize_prog (xs ++ [115]) s.size B v2 w2 hown2 (by have := G2.size; omega) HS28.out (hroom.out.le (by simp <;> omega))).mono ?_; rintro e w3 ⟨v3, rfl, hown3, hb3⟩; have G3 : Grew w1 v w3 v3 := G2.trans hb3)
                | (refine step_app_strB rfl _ _ (by rfl) B _ _ (by rfl) hown3 s (by rfl) (hroom.out.le (by simp; omega)) (by have := G3.size; omega) ?_; intro v4 w4 hown4 hb4; have G4 : Grew w1 v w4 v4 := G3.trans hb4))
            go_wp2_with fail
            go_meet
            rw [HH.out]
            exact ⟨by simpa using hown4, G4⟩
          · have k2 : k = 2 := by
              have := HPB.out
              unfold plainB at this
              rw [if_neg k0, if_neg k1] at this
              simp at this; exact this.1.1
            subst k2
            have hh : headL 2 n s c.len = 108 :: szL c.len := by simp [headL]
            have hsz := szL_len c.len HC28.out
            have hroom : Hid (Room (xs.length + 1 + (szL c.len).length + 100)) := Lib.hid (HFIT.out.room (by rw [hh]; simp; omega))
            have HSZ := Lib.hid hsz
            have HH := Lib.hid hh
            have c3H := Lib.hid c3
            clear hsz hh
            go_wp2_with fail
            go_region_held3 (fun w' => w'.cell? ⟨w.heap.size, 3, none⟩ = some (.slice ka c.len kc))
              (first
                | exact c3H.out
                | (exact (Grew.alloc _ _ (.slice none 0 0)).cell c3H.out (by simp [Value.ownBlock]))
                | exact G3.cell c3H.out HNE.out
                | exact G2.cell c3H.out HNE.out)
              (first
                | (refine step_app1 rfl _ _ (by rfl) B _ xs (by rfl) ((H1.out.alloc _).drew) w1.heap.size 1 _ 108 (by rfl) (heap_at_alloc w1 _) rfl (hroom.out.le (by omega)) (by simp [World.drew]; omega) ?_; intro v2 w2 hown2 hb2; have G2 : Grew w1 v w2 v2 := ((Grew.alloc _ _ _).trans (Grew.drew _ _)).trans hb2)
                | (go_at_call 51; refine (withSize_prog (xs ++ [108]) c.len B v2 w2 hown2 (by have := G2.size; omega) HC28.out (hroom.out.le (by simp <;> omega))).mono ?_; rintro e w3 ⟨v3, rfl, hown3, hb3⟩; have G3 : Grew w1 v w3 v3 := G2.trans hb3))
            go_wp2_with fail
            go_meet
            rw [HH.out]
            exact ⟨by simpa using hown3, G3⟩
      case rest =>
        obtain ⟨ho, hg⟩ := hcut
        have hc3 : wc.cell? ⟨w.heap.size, 3, none⟩ = some (.slice ka c.len kc) := hg.cell c3 HNE.out
        obtain ⟨oa, ocap, rfl⟩ := ho.shape
        obtain ⟨N, hN⟩ : ∃ N, (xs ++ headL k n s c.len).length = N := ⟨_, rfl⟩
        have hN24 : (N : Int) ≤ 16777216 := by have := HFIT.out; unfold Fits at this; rw [← hN]; simp at this ⊢; omega
        rw [hN] at hg ⊢
        have HO := Lib.hid ho
        rw [hN] at HO
        clear ho hN
        go_wp2_with fail
        go_loopw [0, 8, 9] (WrLoop B w1 v (xs ++ (headL k n s c.len ++ c.bytes)) c (d - 1) rb) (fun _ _ i _ => c.len - (intOf i).toNat)
        case atStart =>
          exact ⟨0, true, rfl, rfl, by omega, hg, fun _ => ⟨by simpa [F.drop] using HRB, xs ++ headL k n s c.len, HO.out, Lib.hid (by simp [F.drop])⟩, (fun h => by cases h)⟩
        case round =>
          clear hc3
          obtain ⟨i, ok, rfl, rfl, hi, hg, h1, h2⟩ := hrel
          have hc3 := hg.cell c3 HNE.out
          have hBr : B ≤ wr.heap.size := by have := hg.size; omega
          cases ok with
          | false =>
            obtain rfl := h2 rfl
            clear h1 h2
            go_wp2_with fail
            go_ret2
            exact ⟨_, rfl, (HG1.out.trans hg).trans (Grew.toNil _ _), (fun h => by cases h), (fun _ => rfl)⟩
          | true =>
            obtain ⟨hri, ys, hys, hyz⟩ := h1 rfl
            have HYS := Lib.hid hys
            clear h1 h2 hys
            by_cases hlt : i < c.len
            · obtain ⟨g, o, cap, hkv, hgB, hl⟩ := HK.out.lies (by omega)
              injection hkv with e1 _ e2
              subst e1 e2
              have hbel : Below B w wr := (HG1.out.trans hg).belowB hB HOWN.out
              obtain ⟨k', n', s', c', hdrop⟩ := F.drop_at c i hlt
              have hli := (Lies.drop i c g o hl).below hgB hbel
              rw [hdrop] at hli
              obtain ⟨⟨kv', l0, l1, l2, l3, hk'⟩, _⟩ := lies_cons.1 hli
              obtain ⟨ka', kc', rfl⟩ := hk'.shape
              have HK' := Lib.hid hk'
              have HD := Lib.hid hdrop
              clear hdrop hli hl hk'
              have hi0 : (0 : Int) ≤ (i : Int) := by omega
              have hi1 : (i : Int) ≤ 268435456 := by have := HC28.out; omega
              have hlv1 : wrap64 (lv + 1) = lv + 1 := IntWalk.wrap64_in _ (by have := HLV.out; omega)
              have hdeep : c'.deep < D := by
                have e1 := F.drop_deep c i
                rw [HD.out] at e1
                simp only [F.deep] at e1
                omega
              have hok' : Hid (F.ok (.cons k' n' s' c' (c.drop (i + 1)))) := Lib.hid (by rw [← HD.out]; exact F.drop_ok c i HCK.out)
              have hyz' : Hid ((ys ++ nodeL k' n' s' c'.len c'.bytes) ++ (c.drop (i + 1)).bytes = xs ++ (headL k n s c.len ++ c.bytes)) := Lib.hid (by
                have := hyz.out
                rw [HD.out, F.bytes] at this
                rw [← this]; simp)
              have hri' : Hid ((Nd.right ⟨k', n', s', c'⟩ (d - 1) && (c.drop (i + 1)).right (d - 1)) = rb) := Lib.hid (by
                have := hri.out
                rw [HD.out, F.right] at this
                rw [← this, Nd.right]; simp [Bool.and_assoc])
              have hfit' : Hid (Fits (ys.length + (nodeL k' n' s' c'.len c'.bytes).length)) := Lib.hid (HFIT.out.le (by
                have := congrArg List.length hyz'.out
                simp at this ⊢; omega))
              have hlvd : Hid (lv + 1 = 21 - ((d - 1 : Nat) : Int)) := Lib.hid (by have := HLV.out; omega)
              have HBEL := Lib.hid hbel
              clear hbel
              go_wp2_with fail
              have hcall := HIH.out k' n' s' c' _ (d - 1) (lv + 1) B u0 ys wr hdeep ⟨hok'.out.1, hok'.out.2.1, hok'.out.2.2.1, hok'.out.2.2.2.1⟩ hlvd.out (by omega) HK'.out HYS.out hBr hfit'.out
              obtain ⟨rk, hrk⟩ : ∃ rk, Nd.right ⟨k', n', s', c'⟩ (d - 1) = rk := ⟨_, rfl⟩
              rw [hrk] at hcall hri'
              have HCALL := Lib.hid hcall
              clear hcall hrk
              refine HCALL.out.mono ?_
              rintro e w4 ⟨v4, rfl, g4, t4, f4⟩
              have HT := Lib.hid t4
              have HF := Lib.hid f4
              clear t4 f4 HCALL
              go_wp2
              clear hlv1
              go_roundw
              case rel =>
                refine ⟨i + 1, rk, rfl, by go_num, by omega, hg.trans g4, fun h => ?_, fun h => ?_⟩
                · subst h
                  exact ⟨Lib.hid (by simpa using hri'.out), _, HT.out rfl, hyz'⟩
                · subst h
                  simpa using hri'.out.symm
              case measure => rw [intOf_int, intOf_int]; omega
            · obtain rfl : i = c.len := by omega
              go_wp2_with fail
              go_ret2
              have e1 := hri.out
              have e2 := hyz.out
              rw [F.drop_end] at e1 e2
              obtain rfl : rb = true := by rw [← e1]; rfl
              refine ⟨_, rfl, HG1.out.trans hg, fun _ => ?_, (fun h => by cases h)⟩
              rw [← e2]; simpa [F.bytes] using HYS.out

theorem written_ok : ∀ D, WrOk D
  | 0 => fun _ _ _ _ _ _ _ _ _ _ _ h => by omega
  | D + 1 => written_step D (written_ok D)

set_option maxRecDepth 30000 in
set_option maxHeartbeats 1000000 in
theorem write_prog (k n : Int) (s : ByteArray) (c : F) (kv : Value) (w : World) (hok : Nd.ok ⟨k, n, s, c⟩) (hk : KidsAt w (· < w.heap.size) c kv) (hfit : Fits (nodeL k n s c.len c.bytes).length)
    (r : Bool) (S : ByteArray) (hr : Nd.right ⟨k, n, s, c⟩ 20 = r) (hS : S = if r then ⟨(nodeL k n s c.len c.bytes).toArray⟩ else ⟨#[]⟩) :
    Calls Try.prog 29 #[nodeV k n s kv] w fun e w' => e = .returned (.tuple #[.string S, .bool r]) ∧ Below w.heap.size w w' := by
  obtain ⟨ka, kc, rfl⟩ := hk.shape
  have hcall := written_ok (c.deep + 1) k n s c (.slice ka c.len kc) 20 1 w.heap.size (.slice none 0 0) [] (w.alloc (.cells #[.int .i64 k, .int .u64 n, .string s, .slice ka c.len kc] 76)) (by omega) hok (by omega) (by omega)
    (hk.below ((Below.refl _ _).alloc (Nat.le_refl _) _)) (OwnsB.nil _ _) (by simp) (by simpa using hfit)
  rw [hr] at hcall
  have HS := Lib.hid hS
  unfold nodeV at hcall
  have HC := Lib.hid hcall
  unfold nodeV
  clear hcall hS hr hok hk hfit
  go_enter Try.func29, Try.ntmps29
  go_wp2_with fail
  refine HC.out.mono ?_
  rintro e w1 ⟨v1, rfl, g1, t1, f1⟩
  have hb : Below w.heap.size w w1 := ((Below.refl _ _).alloc (Nat.le_refl _) _).trans (g1.below (by simp) (fun k h => by cases h))
  cases r with
  | false =>
    obtain rfl := f1 rfl
    have hcv : (convert 90 9 (.slice none 0 0)).run Try.prog w1 = .ok (.string ⟨#[]⟩) w1 := run_string_owned (l := []) Try.underlying90 Try.underlying5 Try.underlying9 (Owns.nil w1 0 5)
    clear t1 f1
    go_wp2
    go_ret2
    exact ⟨by rw [HS.out]; rfl, hb⟩
  | true =>
    have ho := (t1 rfl).owns
    have hcv := run_string_owned (src := 90) (dst := 9) Try.underlying90 Try.underlying5 Try.underlying9 ho
    simp only [List.nil_append] at hcv
    clear t1 f1 ho
    go_wp2
    go_ret2
    exact ⟨by rw [HS.out]; rfl, hb⟩
end Go.Proofs.Ytgdlnjhbencjkaa
