/- ahead. -/
import Derived.Test.YtfhpabcjbjmcmaaAtT
namespace Go.Proofs.Ytfhpabcjbjmcmaa
open Go.RowKit

set_option maxHeartbeats 1000000 in
set_option maxRecDepth 100000 in
theorem aheadCT (p b g n c i j : Nat) (cb : Array Value) (ri rj : Int × Int) (ti tj : Nat) (w : World) (hi : i < n) (hj : j < n)
    (eg : ∀ args w, (callFunc g args).run Try.prog w = .ok (.enter g args) w)
    (HL : Hid (∀ (x y : Int × Int) (w : World), Calls Try.prog g (#[.agg #[.int .i64 x.1, .int .i64 x.2], .agg #[.int .i64 y.1, .int .i64 y.2]] ++ cb) w fun e w' => e = .returned (.bool false) ∧ Below w.heap.size w w'))
    (c0 : w.cell? ⟨p, 0, none⟩ = some (.func (.func g) #[] cb)) (c1 : w.cell? ⟨p, 1, none⟩ = some (.slice (some ⟨b, 0, none⟩) n c))
    (ir : w.cell? ⟨b, i * 4 + 1, none⟩ = some (.int .i64 ri.1)) (ir2 : w.cell? ⟨b, i * 4 + 2, none⟩ = some (.int .i64 ri.2)) (it : w.cell? ⟨b, i * 4 + 3, none⟩ = some (.int .i64 ti))
    (jr : w.cell? ⟨b, j * 4 + 1, none⟩ = some (.int .i64 rj.1)) (jr2 : w.cell? ⟨b, j * 4 + 2, none⟩ = some (.int .i64 rj.2)) (jt : w.cell? ⟨b, j * 4 + 3, none⟩ = some (.int .i64 tj)) :
    Calls Try.prog 54 #[.pointer (some ⟨p, 0, none⟩), .int .i64 i, .int .i64 j] w fun e w' => e = .returned (.bool (if ti < tj then true else false)) ∧ Below w.heap.size w w' := by
  have hiz : (i : Int) < (n : Int) := by omega
  have hjz : (j : Int) < (n : Int) := by omega
  obtain ⟨ri1, ri2⟩ := ri
  obtain ⟨rj1, rj2⟩ := rj
  by_cases ht : ti < tj
  · have htz : (ti : Int) < (tj : Int) := by omega
    rw [if_pos ht]
    have HC := hide (unhide HL (rj1, rj2) (ri1, ri2))
    clear HL ht
    go_enter Try.func54, Try.ntmps54
    go_wp2_with fail
    go_quiet (fail)
    go_wp2_with fail
    go_quiet (fail)
    go_wp2_with fail
    refine region_still_tail 12 mixed (by kernel_rfl) ?_
    simp only [List.take_succ_cons, List.take_zero, List.drop_succ_cons, List.drop_zero]
    repeat still_step
    refine wpStill_nil ?_
    go_wp2_with fail
    refine (unhide HC _).mono ?_
    rintro e w' ⟨rfl, hb⟩
    go_wp2_with fail
    go_ret
    exact ⟨rfl, (below_drewN (Below.refl _ _) _).trans hb⟩
  · have htz : ¬ (ti : Int) < (tj : Int) := by omega
    rw [if_neg ht]
    have HC := hide (unhide HL (ri1, ri2) (rj1, rj2))
    clear HL
    go_enter Try.func54, Try.ntmps54
    go_wp2_with fail
    go_quiet (fail)
    go_wp2_with fail
    go_quiet (fail)
    go_wp2_with fail
    refine region_still_tail 12 mixed (by kernel_rfl) ?_
    simp only [List.take_succ_cons, List.take_zero, List.drop_succ_cons, List.drop_zero]
    repeat still_step
    refine wpStill_nil ?_
    go_wp2_with fail
    refine (unhide HC _).mono ?_
    rintro e w' ⟨rfl, hb⟩
    go_wp2_with fail
    go_ret
    exact ⟨rfl, (below_drewN (Below.refl _ _) _).trans hb⟩

theorem aheadT [Inhabited EntT] {p m : Nat} {lv v : Value} {es : List EntT} {n : Nat} (i j : Nat) (w : World) (h : HAtT w p m lv v es n) (hl : LessF lv) (hi : i < es.length) (hj : j < es.length) :
    Calls Try.prog 54 #[.pointer (some ⟨p, 0, none⟩), .int .i64 i, .int .i64 j] w fun e w' => e = .returned (.bool (aheadB g0 (at_ es i) (at_ es j))) ∧ Below w.heap.size w w' := by
  obtain ⟨g, cb, rfl, eg, HL⟩ := hl
  obtain ⟨b, c, rfl, -, -, -, -, -, hc⟩ := h.some_ (by omega)
  obtain ⟨c0, c1, -⟩ := h.cells
  have e : aheadB g0 (at_ es i) (at_ es j) = (if (at_ es i).turn < (at_ es j).turn then true else false) := by simp [aheadB, g0]
  rw [e]
  exact aheadCT p b g es.length c i j cb _ _ _ _ w hi hj eg HL c0 c1 (hc i hi).2.1 (hc i hi).2.2.1 (hc i hi).2.2.2 (hc j hj).2.1 (hc j hj).2.2.1 (hc j hj).2.2.2
end Go.Proofs.Ytfhpabcjbjmcmaa
