/- ahead. -/
import Derived.Test.YtagibmgbjhemkaaGreatAtI
namespace Go.Proofs.YtagibmgbjhemkaaGreat
open Go.RowKit

set_option maxHeartbeats 1000000 in
set_option maxRecDepth 100000 in
theorem aheadCI (p b g n c i j : Nat) (cb : Array Value) (ri rj : Int) (ti tj : Nat) (lt : Int → Int → Bool) (w : World) (hi : i < n) (hj : j < n)
    (eg : ∀ args w, (callFunc g args).run Tryz.prog w = .ok (.enter g args) w)
    (HL : Hid (∀ x y (w : World), Calls Tryz.prog g (#[.int .i64 x, .int .i64 y] ++ cb) w fun e w' => e = .returned (.bool (lt x y)) ∧ w' = w))
    (c0 : w.cell? ⟨p, 0, none⟩ = some (.func (.func g) #[] cb)) (c1 : w.cell? ⟨p, 1, none⟩ = some (.slice (some ⟨b, 0, none⟩) n c))
    (ir : w.cell? ⟨b, i * 3 + 1, none⟩ = some (.int .i64 ri)) (it : w.cell? ⟨b, i * 3 + 2, none⟩ = some (.int .i64 ti))
    (jr : w.cell? ⟨b, j * 3 + 1, none⟩ = some (.int .i64 rj)) (jt : w.cell? ⟨b, j * 3 + 2, none⟩ = some (.int .i64 tj)) :
    Calls Tryz.prog 133 #[.pointer (some ⟨p, 0, none⟩), .int .i64 i, .int .i64 j] w fun e w' => e = .returned (.bool (if ti < tj then !lt rj ri else lt ri rj)) ∧ ∃ q, w' = w.drewN q := by
  have hiz : (i : Int) < (n : Int) := by omega
  have hjz : (j : Int) < (n : Int) := by omega
  by_cases ht : ti < tj
  · have htz : (ti : Int) < (tj : Int) := by omega
    rw [if_pos ht]
    have HC := hide (unhide HL rj ri)
    generalize lt rj ri = r at *
    clear HL ht
    go_enter Tryz.func133, Tryz.ntmps133
    go_wp2_with fail
    go_quiet (fail)
    go_wp2_with fail
    go_quiet (fail)
    go_wp2_with fail
    go_quiet ((exact (unhide HC _).mono (fun _ _ h => ⟨h.1, _, h.2⟩)))
    go_wp2_with fail
    go_ret
    exact ⟨rfl, _, by rw [World.drewN_drewN, World.drewN_drewN]⟩
  · have htz : ¬ (ti : Int) < (tj : Int) := by omega
    rw [if_neg ht]
    have HC := hide (unhide HL ri rj)
    generalize lt ri rj = r at *
    clear HL
    go_enter Tryz.func133, Tryz.ntmps133
    go_wp2_with fail
    go_quiet (fail)
    go_wp2_with fail
    go_quiet (fail)
    go_wp2_with fail
    go_quiet ((exact (unhide HC _).mono (fun _ _ h => ⟨h.1, _, h.2⟩)))
    go_wp2_with fail
    go_ret
    exact ⟨rfl, _, by rw [World.drewN_drewN, World.drewN_drewN]⟩

theorem aheadI [Inhabited EntI] {p m : Nat} {lv v : Value} {es : List EntI} {n : Nat} {gg : Int → Int} (i j : Nat) (w : World) (h : HAtI w p m lv v es n) (hl : Less lv gg) (hi : i < es.length) (hj : j < es.length) :
    Calls Tryz.prog 133 #[.pointer (some ⟨p, 0, none⟩), .int .i64 i, .int .i64 j] w fun e w' => e = .returned (.bool (aheadB gg (at_ es i) (at_ es j))) ∧ ∃ q, w' = w.drewN q := by
  obtain ⟨g, cb, rfl, eg, HL⟩ := hl
  obtain ⟨b, c, rfl, -, -, -, -, -, hc⟩ := h.some_ (by omega)
  obtain ⟨c0, c1, -⟩ := h.cells
  exact aheadCI p b g es.length c i j cb _ _ _ _ (fun x y => decide (gg x < gg y)) w hi hj eg HL c0 c1 (hc i hi).2.1 (hc i hi).2.2 (hc j hj).2.1 (hc j hj).2.2
end Go.Proofs.YtagibmgbjhemkaaGreat
