/- walk.along: over a store, with any step. -/
import Derived.Test.YtagibmgbjhemkaaGreatWkMath
import Derived.Test.YtagibmgbjhemkaaGreatWkRow
import Derived.Handy
namespace Go.Proofs.YtagibmgbjhemkaaGreat
open Go.RowKit Go.Maps

/-- A step: of the records gone along it keeps a picture P, in blocks A of its own. -/
structure StepFn (fv : Value) (N : Nat) (Q : EdgeV → Prop) (P : List EdgeV → (Nat → Prop) → World → Prop) : Prop where
  fn : ∃ (g : Nat) (cb : Array Value), fv = .func (.func g) #[] cb ∧ (∀ args w, (callFunc g args).run Tryz.prog w = .ok (.enter g args) w) ∧
    ∀ (d : List EdgeV) (x : EdgeV) (A : Nat → Prop) (w : World), d.length < N → Q x → P d A w → Calls Tryz.prog g (#[.int .i64 x.1, .agg #[.int .i64 x.1, .int .i64 x.2.1, .int .i64 x.2.2.1, .int .u32 x.2.2.2]] ++ cb) w fun e w' => e = .returned (.tuple #[]) ∧ Hid (∃ A', P (d ++ [x]) A' w' ∧ Turned A w w' ∧ ∀ b, A' b → A b ∨ w.heap.size ≤ b)
  keep : ∀ d A w w', P d A w → (∀ b, A b → w'.heap[b]? = w.heap[b]?) → w.heap.size ≤ w'.heap.size → P d A w'
  lt : ∀ d A w b, P d A w → A b → b < w.heap.size

section
variable [Inhabited EntI] {P : List EdgeV → (Nat → Prop) → World → Prop} {w w' w2 : World} {X : Sto} {A A' : Nat → Prop} {n N : Nat} {d : List EdgeV} {Q : EdgeV → Prop} {fv : Value}

end
end Go.Proofs.YtagibmgbjhemkaaGreat
