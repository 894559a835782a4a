/- The reference's Check (made by mkref17.py). -/
import Derived.Test.YtagibmgbjhemkaaGreatCm17
import Derived.Test.YtagibmgbjhemkaaGreatRd16
import Derived.Test.YtagibmgbjhemkaaGreatWkRefC
namespace Go.Proofs.YtagibmgbjhemkaaGreat
open Go.RowKit Go.Maps
open W16 (WtV Lies u8v i64v dec decV DecAns decodeR)
theorem nrow_slice {w : World} {v : Value} {ks : List Int} (h : NRow w v ks) : ∃ a c, v = .slice a ks.length c := by
  rcases h.2 with ⟨q, h0⟩ | ⟨g, cap, cur, q, -⟩
  · exact ⟨none, 0, by rw [h0]; exact q⟩
  · exact ⟨_, _, q⟩
structure RK (w : World) (b0 b4 b7 : Nat) (vv gv : Value) (rd wr : Int) (vs : List Int) (gs : List EdgeV) (F T : Int) (u : Nat) (ev : Value) (es : List Int) (W : World) : Prop where
  g : W.heap[b0]? = some (oG vv gv rd wr)
  a : W.heap[b4]? = some (oWt 0 0 0 (.slice none 0 0))
  t : W.heap[b7]? = some (oWt F T u ev)
  vs : NRow W vv vs
  gs : GRow 0 W gv gs
  es : W16.NRow w.heap.size W ev es
  bel : Below w.heap.size w W
  b4 : w.heap.size ≤ b4 ∧ ∀ b, ev.ownBlock = some b → b ≠ b4
theorem RK.below {w : World} {b0 b4 b7 : Nat} {vv gv : Value} {rd wr : Int} {vs : List Int} {gs : List EdgeV} {F T : Int} {u : Nat} {ev : Value} {es : List Int} {W W' : World} (h : RK w b0 b4 b7 vv gv rd wr vs gs F T u ev es W) (hb : Below W.heap.size W W') : RK w b0 b4 b7 vv gv rd wr vs gs F T u ev es W' :=
  ⟨(hb.block _ (heap_lt h.g)).trans h.g, (hb.block _ (heap_lt h.a)).trans h.a, (hb.block _ (heap_lt h.t)).trans h.t, nrow_below h.vs hb, grow_below h.gs hb, W16.rrow_below h.es hb, h.bel.trans (hb.mono h.bel.size), h.b4⟩
theorem RK.done {w : World} {b0 b4 b7 : Nat} {vv gv : Value} {rd wr : Int} {vs : List Int} {gs : List EdgeV} {F T : Int} {u : Nat} {ev : Value} {es : List Int} {W : World} (h : RK w b0 b4 b7 vv gv rd wr vs gs F T u ev es W) (x0 x1 x2 x3 : Value) : Below w.heap.size w (Go.Proofs.YtagibmgbjhemkaaGreat.set4 W b4 x0 x1 x2 x3) ∧ W16.NRow w.heap.size (Go.Proofs.YtagibmgbjhemkaaGreat.set4 W b4 x0 x1 x2 x3) ev es :=
  ⟨set4_below h.bel h.b4.1 _ _ _ _, W16.rrow_kept h.es (fun b e => W16.set4_other (h.b4.2 b e) _ _ _ _)⟩
end Go.Proofs.YtagibmgbjhemkaaGreat
