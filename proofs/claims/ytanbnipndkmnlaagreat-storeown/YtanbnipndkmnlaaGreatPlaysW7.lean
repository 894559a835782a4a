/- StorePlays and StoreRefuses, walked. -/
import Derived.Test.YtanbnipndkmnlaaGreatBuilt7
import Derived.Test.YtanbnipndkmnlaaGreatAwake7
namespace Go.Proofs.YtanbnipndkmnlaaGreat
open Go.RowKit Go.Maps

set_option maxHeartbeats 2000000 in
set_option maxRecDepth 100000 in
theorem plays_any [Inhabited EntI] (a : Option Addr) (len cap : Nat) (o : Nat → OpV) (w : World) (h : IsOps w a len o) :
    Calls Tryz.prog 3 #[.slice a len cap] w fun e w' => e = .returned (.bool true) ∧ Below w.heap.size w w' := by
  have CB := hide (builtS a len cap o w h)
  have CW : Hid (∀ W, Calls Tryz.prog 9 #[] W fun e w' => e = .returned (.bool true) ∧ Below W.heap.size W w') := fun W => awakeS W
  clear h
  go_enter Tryz.func3, Tryz.ntmps3
  go_wp2_with fail
  refine (unhide CB).mono ?_
  rintro e w1 hh
  obtain ⟨s, a1, m1, q1, a2, m2, q2, rd, wr0, rfl, n, X, g, vs, es, hn, hG, hs, hL, hB, hrd, hwr⟩ := unhide hh
  have hb2 := below_new w1 (oG (.slice a1 m1 q1) (.slice a2 m2 q2) rd wr0)
  have CT : Hid (∀ W, Below (w1.alloc (oG (.slice a1 m1 q1) (.slice a2 m2 q2) rd wr0)).heap.size (w1.alloc (oG (.slice a1 m1 q1) (.slice a2 m2 q2) rd wr0)) W → (W.cell? ⟨w1.heap.size, 0, none⟩ = some (.slice a1 m1 q1) ∧ W.cell? ⟨w1.heap.size, 1, none⟩ = some (.slice a2 m2 q2) ∧ W.cell? ⟨w1.heap.size, 2, none⟩ = some (.int .i64 rd) ∧ W.cell? ⟨w1.heap.size, 3, none⟩ = some (.int .i64 wr0)) ∧ Calls Tryz.prog 10 #[.pointer (some ⟨s, 0, none⟩), .agg #[.slice a1 m1 q1, .slice a2 m2 q2, .int .i64 rd, .int .i64 wr0]] W fun e w' => e = .returned (.bool true) ∧ Hid (Below w.heap.size w w')) := fun W hW => by
    have hs1 : (w1.alloc (oG (.slice a1 m1 q1) (.slice a2 m2 q2) rd wr0)).heap.size = w1.heap.size + 1 := by simp
    have hx : W.heap[w1.heap.size]? = some (oG (.slice a1 m1 q1) (.slice a2 m2 q2) rd wr0) := (hW.block _ (by omega)).trans (heap_alloc_new _ _)
    obtain ⟨c0, c1, c2, c3, -⟩ := cellsG hx
    have hbW : Below w1.heap.size w1 W := hb2.trans (hW.mono (by omega))
    refine ⟨⟨c0, c1, c2, c3⟩, ?_⟩
    rw [← hs, ← hrd, ← hwr]
    refine (tellsS (hG.below hbW)).mono ?_
    rintro e w' ⟨rfl, hh⟩
    have h1 := hB.size
    have h2 := hbW.size
    exact ⟨rfl, (hB.trans (hbW.mono h1)).trans ((unhide hh).mono (by omega))⟩
  clear hh hG hs hL hB hrd hwr CB hn hb2
  go_upto_region 2 with fail
  change Code.wp _ _ _ _ (w1.alloc (oG (.slice a1 m1 q1) (.slice a2 m2 q2) rd wr0))
  generalize w1.alloc (oG (.slice a1 m1 q1) (.slice a2 m2 q2) rd wr0) = w2 at *
  generalize w1.heap.size = b1 at *
  go_wp2_with fail
  refine (unhide CW _).mono ?_
  rintro e w3 ⟨rfl, hb3⟩
  obtain ⟨⟨c0, c1, c2, c3⟩, ct⟩ := unhide CT w3 hb3
  have CT3 := hide ct
  clear CT CW ct hb3
  go_wp2_with fail
  refine (unhide CT3).mono ?_
  rintro e w4 ⟨rfl, hb4⟩
  clear CT3 c0 c1 c2 c3
  go_wp2_with fail
  go_ret
  exact ⟨rfl, unhide hb4⟩
end Go.Proofs.YtanbnipndkmnlaaGreat
