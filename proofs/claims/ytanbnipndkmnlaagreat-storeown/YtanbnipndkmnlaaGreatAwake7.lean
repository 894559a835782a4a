/- awake: the document's example. -/
import Derived.Test.YtanbnipndkmnlaaGreatStSet
namespace Go.Proofs.YtanbnipndkmnlaaGreat
open Go.RowKit Go.Maps

theorem least_nil : Least [] 0 := ⟨fun j hj => absurd hj (Nat.not_lt_zero _), fun a => by simp⟩
theorem kept_one : kept 1065353216 = some 1065353216 := by unfold kept; rw [if_neg (by omega), if_neg (by omega)]

theorem eqEx (w : World) : (binOp .eql 37 (.agg #[.int .i64 1, .int .i64 5, .int .i64 9, .int .u32 1065353216]) (.agg #[.int .i64 1, .int .i64 5, .int .i64 9, .int .u32 1065353216])).run Tryz.prog w = .ok (.bool true) w := by kernel_rfl

set_option maxHeartbeats 2000000 in
set_option maxRecDepth 100000 in
theorem awakeS [Inhabited EntI] (w : World) : Calls Tryz.prog 9 #[] w fun e w' => e = .returned (.bool true) ∧ Below w.heap.size w w' := by
  have CN := hide (newL w)
  go_enter Tryz.func9, Tryz.ntmps9
  go_wp2_with fail
  refine (unhide CN).mono ?_
  rintro e w1 ⟨s, rfl, h1⟩
  have C1 := hide (addVL 5 (unhide h1) (by omega) (by omega) rfl (by show 0 < 256; omega))
  clear CN h1
  go_wp2_with fail
  refine (unhide C1).mono ?_
  rintro e w2 ⟨rfl, h2⟩
  have C2 := hide (addVL 9 (unhide h2) (by omega) (by omega) rfl (by show 0 + 1 < 256; omega))
  clear C1 h2
  go_wp2_with fail
  refine (unhide C2).mono ?_
  rintro e w3 ⟨rfl, h3⟩
  have C3 := hide (addVTwiceL 5 (unhide h3) rfl)
  clear C2
  go_wp2_with fail
  refine (unhide C3).mono ?_
  rintro e w4 ⟨rfl, rfl⟩
  have C4 := hide (addEL 0 5 9 1065353216 (unhide h3) rfl rfl (by omega) kept_one least_nil (by omega) (by show 0 ≤ 900000000; omega) (by show (0 : Int) ≤ 0; omega) (by show (0 : Int) ≤ 1000000000; omega))
  clear C3 h3
  go_wp2_with fail
  refine (unhide C4).mono ?_
  rintro e w5 ⟨rfl, h5⟩
  have C5 := hide (edgeL (a := (1, 5, 9, 1065353216)) 0 (unhide h5) rfl (by show (0 : Int) ≤ 0; omega) (by show (0 : Int) ≤ 1000000000; omega))
  clear C4 h5
  go_wp2_with fail
  refine (unhide C5).mono ?_
  rintro e w6 ⟨rfl, h6⟩
  have h7 := hide ((unhide h6).step (w' := w6.alloc (oE (1, 5, 9, 1065353216))) ((Below.refl _ _).alloc (Nat.le_refl _) _))
  obtain ⟨x0, x1, x2, x3, -⟩ := box_cells (heap_alloc_new w6 (oE (1, 5, 9, 1065353216)))
  dsimp only at x0 x1 x2 x3
  clear C5 h6
  go_upto_region 6 with fail
  change Code.wp _ _ _ _ (w6.alloc (oE (1, 5, 9, 1065353216)))
  generalize w6.alloc (oE (1, 5, 9, 1065353216)) = w7 at *
  generalize w6.heap.size = b6 at *
  have C7 : Hid (Calls Tryz.prog 26 #[.pointer (some ⟨s, 0, none⟩)] w7 fun e w' => e = .returned (.int .i64 1) ∧ w' = w7) := readsL (unhide h7)
  have C8 : Hid (Calls Tryz.prog 27 #[.pointer (some ⟨s, 0, none⟩)] w7 fun e w' => e = .returned (.int .i64 1) ∧ w' = w7) := writesL (unhide h7)
  have hq := eqEx
  have HB := hide ((unhide h7).below)
  clear h7
  go_wp2_with fail
  refine (unhide C7).mono ?_
  rintro e w8 ⟨rfl, rfl⟩
  clear C7
  go_wp2_with fail
  refine (unhide C8).mono ?_
  rintro e w9 ⟨rfl, rfl⟩
  clear C8
  go_wp2_with fail
  go_ret
  exact ⟨rfl, unhide HB⟩
end Go.Proofs.YtanbnipndkmnlaaGreat
