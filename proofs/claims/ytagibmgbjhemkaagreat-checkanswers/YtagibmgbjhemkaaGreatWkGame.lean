/- A store behind Built and the reference's graph, beside lists of numbers: the walks' calls. -/
import Derived.Test.YtagibmgbjhemkaaGreatWkAwake
import Derived.Test.YtagibmgbjhemkaaGreatWkWander
import Derived.Test.YtagibmgbjhemkaaGreatBuilt7
namespace Go.Proofs.YtagibmgbjhemkaaGreat
open Go.RowKit Go.Maps

theorem kept_lt {n : Int} (h0 : 0 ≤ n) (h : kept n = some n) : n < 2139095040 := by
  unfold kept at h
  by_cases h1 : n = 2147483648
  · rw [if_pos h1] at h; injection h with h; omega
  · rw [if_neg h1] at h
    by_cases h2 : 2139095040 ≤ n
    · rw [if_pos h2] at h; cases h
    · omega
theorem Game.wt [Inhabited EntI] {n : Nat} {w : World} {X : Sto} {g : Gr} {vv ev : Value} {vs : List Int} {es : List EdgeV} (h : Game n X g vv ev vs es w) (i : Nat) (x : EdgeV) (hx : X.ps[i]? = some (x, true)) : Wt x := by
  rw [h.sh.ps] at hx
  obtain ⟨h1, h2⟩ := h.bnd.wt x ((h.rel.mem x).2 ⟨i, hx⟩)
  exact ⟨h1, kept_lt h1 h2⟩
section
variable [Inhabited EntI] {w W W' : World} {s n : Nat} {ps : List (EdgeV × Bool)} {vv ev : Value} {rd wr : Int} {vs : List Int} {es : List EdgeV} {rows : List (Value × List Int)}

end
end Go.Proofs.YtagibmgbjhemkaaGreat
