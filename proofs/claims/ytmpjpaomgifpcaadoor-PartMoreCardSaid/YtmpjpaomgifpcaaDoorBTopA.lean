/- trie's All. -/
import Derived.Test.YtmpjpaomgifpcaaDoorBTop
namespace Go.Proofs.YtmpjpaomgifpcaaDoor
open Go.RowKit

theorem all_prog {w : World} {m : Option Tr} {x : Value} (h : MAt w m x) (hl : (MT.pairs m).length ≤ 100000) : Calls Tryd.prog 30 #[x] w (PRes w (MT.pairs m)) := by
  have HT := Lib.hid (top_prog h)
  clear h
  go_enter Tryd.func30, Tryd.ntmps30
  go_wp2_with fail
  refine HT.out.mono ?_
  rintro e w1 ⟨tv, rfl, hr, rfl⟩
  have HR := Lib.hid hr
  clear hr
  go_wp2_with fail
  refine (gathered_any HR.out hl).mono ?_
  rintro e w2 ⟨v, rfl, h1, h2⟩
  have H1 := Lib.hid h1
  clear h1
  go_wp2
  go_ret
  exact ⟨_, rfl, H1.out, h2⟩
end Go.Proofs.YtmpjpaomgifpcaaDoor
