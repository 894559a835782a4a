/- walk.Through over a store. -/
import Derived.Test.YtagibmgbjhemkaaGreatWkFollow
namespace Go.Proofs.YtagibmgbjhemkaaGreat
open Go.RowKit Go.Maps

/-- The vertices at which these records come by. -/
def stopsOf (a : Int) (d : List EdgeV) : List Int := a :: d.map (fun x => x.2.2.1)
theorem stopsOf_snoc (a : Int) (d : List EdgeV) (x : EdgeV) : stopsOf a (d ++ [x]) = stopsOf a d ++ [x.2.2.1] := by simp [stopsOf]
theorem stopsOf_len (a : Int) (d : List EdgeV) : (stopsOf a d).length = d.length + 1 := by simp [stopsOf]
theorem own_eq {g n c b : Nat} (e : (Value.slice (some ⟨g, 0, none⟩) n c).ownBlock = some b) : g = b := by injection e
/-- One number more: what stays, and where it lies. -/
theorem run_app8 {B : Nat} {w : World} {v : Value} {ks : List Int} (x : Int) (h : BRow B w v ks) (hB : B ≤ w.heap.size) (hl : ks.length ≤ 2000000) :
    ∃ a' n' c' w', (∀ ty, (Builtin.append_ #[25, 25] ty #[v, .slice (some ⟨w.heap.size, 0, none⟩) 1 1]).run Tryz.prog (w.alloc (.cells #[.int .i64 x] 3)) = .ok (.slice a' n' c') w') ∧ BRow B w' (.slice a' n' c') (ks ++ [x]) ∧ Turned (fun b => v.ownBlock = some b) w w' ∧ ∀ b, (Value.slice a' n' c').ownBlock = some b → v.ownBlock = some b ∨ w.heap.size ≤ b := by
  have hb1 := below_new w (.cells #[.int .i64 x] 3)
  have h2 : NRow (w.alloc (.cells #[.int .i64 x] 3)) (.slice (some ⟨w.heap.size, 0, none⟩) 1 1) [x] := ⟨rfl, .inr ⟨w.heap.size, 1, #[.int .i64 x], rfl, Nat.zero_le _, heap_alloc_new _ _, Nat.le_refl _, by unfold maxLen; omega, rfl, rfl⟩⟩
  have h1 : BRow B (w.alloc (.cells #[.int .i64 x] 3)) v ks := brow_kept h (fun b e => hb1.block b (h.lt b e).2)
  obtain ⟨ii, hi1, hz, hs, hb⟩ := info_parts info3
  obtain ⟨v', w', hr, g1, g2, -, g5⟩ := run_append_own_at (P := Tryz.prog) (w.alloc (.cells #[.int .i64 x] 3)) B 25 0 3 ii _ 1 8 Tryz.underlying25 hi1 hz hs hb rfl (by omega) v ks.length (ks.map (Value.int .i64)) h1 ⟨w.heap.size, 0, none⟩ 1 1 ([x].map (Value.int .i64)) (by simp)
      (h2.cells (g := w.heap.size) rfl) (ints_one [x]) (by unfold maxLen; omega) (by omega) (Nat.le_trans hB hb1.size)
  have e1 : ks.map (Value.int .i64) ++ [x].map (Value.int .i64) = (ks ++ [x]).map (Value.int .i64) := by simp
  have e2 : ks.length + 1 = (ks ++ [x]).length := by simp
  rw [e1, e2] at g1
  have g1' : BRow B w' v' (ks ++ [x]) := g1
  obtain ⟨a', c', e, -⟩ := brow_shape g1'
  subst e
  refine ⟨a', _, c', w', fun ty => hr, g1', (turned_of_below hb1).trans ⟨g2.os, g2.tape, g2.output, g2.size, fun k hk hn => g2.block k hk (fun e => hn e.symm)⟩, fun b eb => ?_⟩
  rcases g5 with q | q
  · exact .inl (by rw [← q]; exact eb)
  · rw [q] at eb; injection eb with eb; exact .inr (by have := hb1.size; omega)
end Go.Proofs.YtagibmgbjhemkaaGreat
