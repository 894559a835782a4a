/- Law 8's awake: the document's example. -/
import Derived.Test.YtagibmgbjhemkaaGreatWkThrough
import Derived.Test.YtagibmgbjhemkaaGreatStLive
import Derived.Test.YtagibmgbjhemkaaGreatRefFree
import Derived.Test.YtagibmgbjhemkaaGreatRefDropV
namespace Go.Proofs.YtagibmgbjhemkaaGreat
open Go.RowKit Go.Maps

/-- So many records more were read. -/
def Gr.plus (g : Gr) (k : Int) : Gr := { g with rd := g.rd + k }
section
variable [Inhabited EntI] {B : Nat} {w0 w w' : World} {s : Nat} {g : Gr}

theorem LiveS.reads {X : Sto} {k : Nat} (h : LiveS B w0 s g w) (hs : X.s = s) (hg : Shows X g) (hl : ∀ b, X.L b ≠ none → B ≤ b) (hR : Rd w X k w') : LiveS B w0 s (g.plus k) w' :=
  h.later hs hl hR ⟨hg.V, hg.N, hg.ps, by show X.rd + (k : Int) = g.rd + (k : Int); rw [hg.rd], hg.wr, hg.n⟩
end
/-- The example's edge. -/
def x18 : EdgeV := (1, 5, 9, 1065353216)
theorem cost_x18 : costOf [x18] = 1065353216 := by
  show M.addC 0 (M.counts 1065353216) = 1065353216
  rw [counts_cost (by omega), M.addC_comm (by omega) (by omega), M.addC_zero (by omega)]
theorem kept_one8 : kept 1065353216 = some 1065353216 := by unfold kept; rw [if_neg (by omega), if_neg (by omega)]

end Go.Proofs.YtagibmgbjhemkaaGreat
