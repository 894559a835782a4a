/- A part of a list of numbers, wherever it begins. -/
import Derived.Test.YtagibmgbjhemkaaGreatRefSame
namespace Go.Proofs.YtagibmgbjhemkaaGreat
open Go.RowKit Go.Maps

def SRow (w : World) (v : Value) (ks : List Int) : Prop := ∃ a c, v = .slice a ks.length c ∧ ∀ (j : Nat) (k : Int), ks[j]? = some k → ∃ g o, a = some ⟨g, o, none⟩ ∧ w.cell? ⟨g, o + j, none⟩ = some (.int .i64 k)
/-- The block in which a slice lies. -/
def blkOf : Value → Option Nat
  | .slice (some x) _ _ => some x.block
  | _ => none
theorem SRow.turned {S : Nat → Prop} {w w' : World} {v : Value} {ks : List Int} (h : SRow w v ks) (hT : Turned S w w') (hS : ∀ b, blkOf v = some b → b < w.heap.size → ¬ S b) : SRow w' v ks := by
  obtain ⟨a, c, rfl, h2⟩ := h
  refine ⟨a, c, rfl, fun j k hj => ?_⟩
  obtain ⟨g, o, rfl, hc⟩ := h2 j k hj
  have hl : g < w.heap.size := World.block_lt_of_cell? _ _ hc
  exact ⟨g, o, rfl, (cell_of_heap (x := ⟨g, o + j, none⟩) (hT.block g hl (hS g rfl hl))).trans hc⟩
theorem SRow.below {w w' : World} {v : Value} {ks : List Int} (h : SRow w v ks) (hb : Below w.heap.size w w') : SRow w' v ks := h.turned (S := fun _ => False) (turned_of_below hb) (fun _ _ _ h => h)
end Go.Proofs.YtagibmgbjhemkaaGreat
