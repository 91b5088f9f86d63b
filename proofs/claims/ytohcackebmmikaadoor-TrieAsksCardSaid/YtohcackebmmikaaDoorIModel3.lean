/- Maps: what is put and taken away again; the pure part. -/
import Derived.Test.YtohcackebmmikaaDoorIMade
namespace Go.Proofs.YtohcackebmmikaaDoor

theorem MT.val_ok {m : Option Tr} (hm : MT.wf m) {k v : ByteArray} (h : getL k (MT.pairs m) = some v) : v.size ≤ 100 := by
  match m with
  | none => cases h
  | some t => exact (Tr.pairs_ok hm _ (getL_some k v _ h)).2.1
theorem back_none (k v : ByteArray) (hk : k.size = 32) (hv : v.size ≤ 100) (m : Option Tr) (hm : MT.wf m) (h : getL k (MT.pairs m) = none) : MT.del k (MT.put k v m) = m := by
  obtain ⟨a1, a2⟩ := MT.put_ok k v hk hv m hm
  obtain ⟨b1, b2⟩ := MT.del_ok k hk _ a1
  refine MT.one b1 hm ?_
  rw [b2, a2, del_put, delL_ne k _ (getL_isNone k _ h)]
theorem back_some (k v u : ByteArray) (hk : k.size = 32) (hv : v.size ≤ 100) (m : Option Tr) (hm : MT.wf m) (h : getL k (MT.pairs m) = some u) : MT.put k u (MT.put k v m) = m := by
  obtain ⟨a1, a2⟩ := MT.put_ok k v hk hv m hm
  obtain ⟨b1, b2⟩ := MT.put_ok k u hk (MT.val_ok hm h) _ a1
  refine MT.one b1 hm ?_
  rw [b2, a2, putL_twice, putL_same k u _ (MT.sorted hm) h]
theorem put_again (k v : ByteArray) (hk : k.size = 32) (hv : v.size ≤ 100) (m : Option Tr) (hm : MT.wf m) : MT.put k v (MT.put k v m) = MT.put k v m := by
  obtain ⟨a1, a2⟩ := MT.put_ok k v hk hv m hm
  obtain ⟨b1, b2⟩ := MT.put_ok k v hk hv _ a1
  refine MT.one b1 a1 ?_
  rw [b2, a2, putL_twice]
theorem del_again (k : ByteArray) (hk : k.size = 32) (m : Option Tr) (hm : MT.wf m) : MT.del k (MT.del k m) = MT.del k m := by
  obtain ⟨a1, a2⟩ := MT.del_ok k hk m hm
  have h : getL k (MT.pairs (MT.del k m)) = none := by rw [a2]; exact get_del k _
  generalize MT.del k m = n at h
  unfold MT.del
  rw [if_pos hk, if_pos h]
theorem put_get (k v : ByteArray) (hk : k.size = 32) (hv : v.size ≤ 100) (m : Option Tr) (hm : MT.wf m) : getL k (MT.pairs (MT.put k v m)) = some v := by
  rw [(MT.put_ok k v hk hv m hm).2]; exact get_put k v _
theorem put_length (k v : ByteArray) (hk : k.size = 32) (hv : v.size ≤ 100) (m : Option Tr) (hm : MT.wf m) : (MT.pairs (MT.put k v m)).length ≤ (MT.pairs m).length + 1 := by
  rw [(MT.put_ok k v hk hv m hm).2, length_put _ _ _ (MT.sorted hm)]
  split <;> omega
theorem del_length (k : ByteArray) (hk : k.size = 32) (m : Option Tr) (hm : MT.wf m) : (MT.pairs (MT.del k m)).length ≤ (MT.pairs m).length := by
  rw [(MT.del_ok k hk m hm).2]; exact List.length_filter_le ..
end Go.Proofs.YtohcackebmmikaaDoor
