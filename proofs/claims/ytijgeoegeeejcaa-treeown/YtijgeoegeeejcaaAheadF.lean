/- ahead. -/
import Derived.Test.YtijgeoegeeejcaaAtF
namespace Go.Proofs.Ytijgeoegeeejcaa
open Go.RowKit
attribute [local go_sem] run_storeF

set_option maxHeartbeats 1000000 in
set_option maxRecDepth 100000 in
theorem aheadCF (p b g n c i j : Nat) (cb : Array Value) (ri rj : Nat) (ti tj : Nat) (lt : Nat → Nat → Bool) (w : World) (hi : i < n) (hj : j < n)
    (eg : ∀ args w, (callFunc g args).run Try.prog w = .ok (.enter g args) w)
    (HL : Hid (∀ x y (w : World), Calls Try.prog g (#[.float .f32 (cfl x), .float .f32 (cfl y)] ++ cb) w fun e w' => e = .returned (.bool (lt x y)) ∧ w' = w))
    (c0 : w.cell? ⟨p, 0, none⟩ = some (.func (.func g) #[] cb)) (c1 : w.cell? ⟨p, 1, none⟩ = some (.slice (some ⟨b, 0, none⟩) n c))
    (ir : w.cell? ⟨b, i * 3 + 1, none⟩ = some (.float .f32 (cfl ri))) (it : w.cell? ⟨b, i * 3 + 2, none⟩ = some (.int .i64 ti))
    (jr : w.cell? ⟨b, j * 3 + 1, none⟩ = some (.float .f32 (cfl rj))) (jt : w.cell? ⟨b, j * 3 + 2, none⟩ = some (.int .i64 tj)) :
    Calls Try.prog 94 #[.pointer (some ⟨p, 0, none⟩), .int .i64 i, .int .i64 j] w fun e w' => e = .returned (.bool (if ti < tj then !lt rj ri else lt ri rj)) ∧ ∃ q, w' = w.drewN q := by
  have hiz : (i : Int) < (n : Int) := by omega
  have hjz : (j : Int) < (n : Int) := by omega
  by_cases ht : ti < tj
  · have htz : (ti : Int) < (tj : Int) := by omega
    rw [if_pos ht]
    have HC := hide (unhide HL rj ri)
    generalize lt rj ri = r at *
    clear HL ht
    go_enter Try.func94, Try.ntmps94
    go_wp2_with fail
    go_quiet (fail)
    go_wp2_with fail
    go_quiet (fail)
    go_wp2_with fail
    go_quiet ((exact (unhide HC _).mono (fun _ _ h => ⟨h.1, _, h.2⟩)))
    go_wp2_with fail
    go_ret
    exact ⟨rfl, _, by rw [World.drewN_drewN, World.drewN_drewN]⟩
  · have htz : ¬ (ti : Int) < (tj : Int) := by omega
    rw [if_neg ht]
    have HC := hide (unhide HL ri rj)
    generalize lt ri rj = r at *
    clear HL
    go_enter Try.func94, Try.ntmps94
    go_wp2_with fail
    go_quiet (fail)
    go_wp2_with fail
    go_quiet (fail)
    go_wp2_with fail
    go_quiet ((exact (unhide HC _).mono (fun _ _ h => ⟨h.1, _, h.2⟩)))
    go_wp2_with fail
    go_ret
    exact ⟨rfl, _, by rw [World.drewN_drewN, World.drewN_drewN]⟩

theorem aheadF [Inhabited EntF] {p m : Nat} {lv v : Value} {es : List EntF} {n : Nat} {gg : Nat → Int} (i j : Nat) (w : World) (h : HAtF w p m lv v es n) (hl : LessF lv gg) (hi : i < es.length) (hj : j < es.length) :
    Calls Try.prog 94 #[.pointer (some ⟨p, 0, none⟩), .int .i64 i, .int .i64 j] w fun e w' => e = .returned (.bool (aheadB gg (at_ es i) (at_ es j))) ∧ ∃ q, w' = w.drewN q := by
  obtain ⟨g, cb, rfl, eg, HL⟩ := hl
  obtain ⟨b, c, rfl, -, -, -, -, -, hc⟩ := h.some_ (by omega)
  obtain ⟨c0, c1, -⟩ := h.cells
  exact aheadCF p b g es.length c i j cb _ _ _ _ (fun x y => decide (gg x < gg y)) w hi hj eg HL c0 c1 (hc i hi).2.1 (hc i hi).2.2 (hc j hj).2.1 (hc j hj).2.2
end Go.Proofs.Ytijgeoegeeejcaa
