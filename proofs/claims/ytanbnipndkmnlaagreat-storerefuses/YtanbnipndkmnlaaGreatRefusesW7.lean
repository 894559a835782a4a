/- StoreRefuses, walked. -/
import Derived.Test.YtanbnipndkmnlaaGreatPlaysW7
namespace Go.Proofs.YtanbnipndkmnlaaGreat
open Go.RowKit Go.Maps

set_option maxHeartbeats 2000000 in
set_option maxRecDepth 100000 in
theorem refuses_any [Inhabited EntI] (a : Option Addr) (len cap : Nat) (o : Nat → OpV) (x : OpV) (w : World) (h : IsOps w a len o) (hx : okOp x) :
    Calls Tryz.prog 5 #[.slice a len cap, .agg #[.int .i64 x.1, .int .i64 x.2.1, .int .i64 x.2.2.1, .int .i64 x.2.2.2.1, .int .u32 x.2.2.2.2]] w fun e w' => e = .returned (.bool true) ∧ Below w.heap.size w w' := by
  have hb0 := below_new w (oOp x.1 x.2.1 x.2.2.1 x.2.2.2.1 x.2.2.2.2)
  have hbx := heap_alloc_new w (oOp x.1 x.2.1 x.2.2.1 x.2.2.2.1 x.2.2.2.2)
  have hops : IsOps (w.alloc (oOp x.1 x.2.1 x.2.2.1 x.2.2.2.1 x.2.2.2.2)) a len o := by
    rcases h with e | ⟨b, off, e, h0, hc⟩
    · exact .inl e
    · exact .inr ⟨b, off, e, h0, fun i hi => ⟨opAt_below (hc i hi).1 hb0, (hc i hi).2⟩⟩
  have CB := hide (builtS a len cap o _ hops)
  have CW : Hid (∀ W, Calls Tryz.prog 9 #[] W fun e w' => e = .returned (.bool true) ∧ Below W.heap.size W w') := fun W => awakeS W
  have hs0 : (w.alloc (oOp x.1 x.2.1 x.2.2.1 x.2.2.2.1 x.2.2.2.2)).heap.size = w.heap.size + 1 := by simp
  have HB0 := hide (And.intro hb0 (And.intro hbx (And.intro hx hs0)))
  clear h hops hb0 hbx hs0
  go_enter Tryz.func5, Tryz.ntmps5
  go_upto_region 1 with fail
  change Code.wp _ _ _ _ (w.alloc (oOp x.1 x.2.1 x.2.2.1 x.2.2.2.1 x.2.2.2.2))
  obtain ⟨bo, hbo⟩ : ∃ bo, bo = w.heap.size := ⟨_, rfl⟩
  rw [← hbo]
  rw [← hbo] at HB0
  have HBO := hide hbo
  clear hbo
  generalize w.alloc (oOp x.1 x.2.1 x.2.2.1 x.2.2.2.1 x.2.2.2.2) = w0 at *
  go_wp2_with fail
  refine (unhide CB).mono ?_
  rintro e w1 hh
  obtain ⟨s, a1, m1, q1, a2, m2, q2, rd, wr0, rfl, n, X, g, vs, es, hn, hG, hs, hL, hB, hrd, hwr⟩ := unhide hh
  have hb2 := below_new w1 (oG (.slice a1 m1 q1) (.slice a2 m2 q2) rd wr0)
  obtain ⟨k0, kx, kok, ks⟩ := unhide HB0
  have CP : Hid (∀ W, Below (w1.alloc (oG (.slice a1 m1 q1) (.slice a2 m2 q2) rd wr0)).heap.size (w1.alloc (oG (.slice a1 m1 q1) (.slice a2 m2 q2) rd wr0)) W → ((W.cell? ⟨w1.heap.size, 0, none⟩ = some (.slice a1 m1 q1) ∧ W.cell? ⟨w1.heap.size, 1, none⟩ = some (.slice a2 m2 q2) ∧ W.cell? ⟨w1.heap.size, 2, none⟩ = some (.int .i64 rd) ∧ W.cell? ⟨w1.heap.size, 3, none⟩ = some (.int .i64 wr0)) ∧ (W.cell? ⟨bo, 0, none⟩ = some (.int .i64 x.1) ∧ W.cell? ⟨bo, 1, none⟩ = some (.int .i64 x.2.1) ∧ W.cell? ⟨bo, 2, none⟩ = some (.int .i64 x.2.2.1) ∧ W.cell? ⟨bo, 3, none⟩ = some (.int .i64 x.2.2.2.1) ∧ W.cell? ⟨bo, 4, none⟩ = some (.int .u32 x.2.2.2.2))) ∧
      Calls Tryz.prog 17 #[.pointer (some ⟨s, 0, none⟩), .agg #[.slice a1 m1 q1, .slice a2 m2 q2, .int .i64 rd, .int .i64 wr0], .agg #[.int .i64 x.1, .int .i64 x.2.1, .int .i64 x.2.2.1, .int .i64 x.2.2.2.1, .int .u32 x.2.2.2.2]] W fun e w4 => ∃ (b1 : Option Addr) (n1 p1 : Nat) (b2 : Option Addr) (n2 p2 : Nat) (rd' wr' : Int), e = .returned (.tuple #[.agg #[.slice b1 n1 p1, .slice b2 n2 p2, .int .i64 rd', .int .i64 wr'], .bool true]) ∧ Hid (∀ V, Below w4.heap.size w4 V → Calls Tryz.prog 10 #[.pointer (some ⟨s, 0, none⟩), .agg #[.slice b1 n1 p1, .slice b2 n2 p2, .int .i64 rd', .int .i64 wr']] V fun e w' => e = .returned (.bool true) ∧ Hid (Below V.heap.size V w' ∧ Below w.heap.size w w'))) := fun W hW => by
    have hs1 : (w1.alloc (oG (.slice a1 m1 q1) (.slice a2 m2 q2) rd wr0)).heap.size = w1.heap.size + 1 := by simp
    have hg : W.heap[w1.heap.size]? = some (oG (.slice a1 m1 q1) (.slice a2 m2 q2) rd wr0) := (hW.block _ (by omega)).trans (heap_alloc_new _ _)
    obtain ⟨c0, c1, c2, c3, -⟩ := cellsG hg
    have hbW : Below w1.heap.size w1 W := hb2.trans (hW.mono (by omega))
    have hz1 := hB.size
    have hz2 := hbW.size
    have hb0 := unhide HBO
    have hxW : W.heap[bo]? = some (oOp x.1 x.2.1 x.2.2.1 x.2.2.2.1 x.2.2.2.2) := (hbW.block _ (by omega)).trans ((hB.block _ (by omega)).trans kx)
    refine ⟨⟨⟨c0, c1, c2, c3⟩, cellsOp hxW⟩, ?_⟩
    rw [← hs, ← hrd, ← hwr]
    refine (playAny (hG.below hbW) (by omega) x kok).mono ?_
    rintro e w4 hp
    obtain ⟨b1, n1, p1, b2, n2, p2, g', rfl, X', vs', es', G', hs', hF⟩ := unhide hp
    refine ⟨b1, n1, p1, b2, n2, p2, g'.rd, g'.wr, rfl, fun V hV => ?_⟩
    rw [← hs']
    refine (tellsS (G'.below hV)).mono ?_
    rintro e w5 ⟨rfl, hh5⟩
    have k0' : Below w.heap.size w w0 := by rw [← unhide HBO]; exact k0
    have hw0W : Below w.heap.size w W := (k0'.trans (hB.mono (by omega))).trans (hbW.mono (by omega))
    have h4 : Below w.heap.size w w4 := hw0W.trans (hF.1.below hw0W.size (fun b hb => by have := hL b hb; omega))
    have h5 : Below w.heap.size w V := h4.trans (hV.mono h4.size)
    exact ⟨rfl, unhide hh5, h5.trans ((unhide hh5).mono h5.size)⟩
  clear hh hG hs hL hB hrd hwr CB hn hb2 k0 kx kok ks HB0 HBO hx
  go_upto_region 2 with fail
  change Code.wp _ _ _ _ (w1.alloc (oG (.slice a1 m1 q1) (.slice a2 m2 q2) rd wr0))
  generalize w1.alloc (oG (.slice a1 m1 q1) (.slice a2 m2 q2) rd wr0) = w2 at *
  generalize w1.heap.size = b1 at *
  go_wp2_with fail
  refine (unhide CW _).mono ?_
  rintro e w3 ⟨rfl, hb3⟩
  obtain ⟨⟨⟨c0, c1, c2, c3⟩, ⟨o0, o1, o2, o3, o4⟩⟩, cp⟩ := unhide CP w3 hb3
  have CP3 := hide cp
  clear CP CW cp hb3
  go_wp2_with fail
  refine (unhide CP3).mono ?_
  rintro e w4 ⟨b1', n1, p1, b2, n2, p2, rd', wr', rfl, ht⟩
  clear CP3 c0 c1 c2 c3 o0 o1 o2 o3 o4
  have hb5 := below_new w4 (oG (.slice b1' n1 p1) (.slice b2 n2 p2) rd' wr')
  have hs5 : (w4.alloc (oG (.slice b1' n1 p1) (.slice b2 n2 p2) rd' wr')).heap.size = w4.heap.size + 1 := by simp
  have hc5 := heap_alloc_new w4 (oG (.slice b1' n1 p1) (.slice b2 n2 p2) rd' wr')
  have CT : Hid (∀ V, Below (w4.alloc (oG (.slice b1' n1 p1) (.slice b2 n2 p2) rd' wr')).heap.size (w4.alloc (oG (.slice b1' n1 p1) (.slice b2 n2 p2) rd' wr')) V → (V.cell? ⟨w4.heap.size, 0, none⟩ = some (.slice b1' n1 p1) ∧ V.cell? ⟨w4.heap.size, 1, none⟩ = some (.slice b2 n2 p2) ∧ V.cell? ⟨w4.heap.size, 2, none⟩ = some (.int .i64 rd') ∧ V.cell? ⟨w4.heap.size, 3, none⟩ = some (.int .i64 wr')) ∧ Calls Tryz.prog 10 #[.pointer (some ⟨s, 0, none⟩), .agg #[.slice b1' n1 p1, .slice b2 n2 p2, .int .i64 rd', .int .i64 wr']] V fun e w' => e = .returned (.bool true) ∧ Hid (Below V.heap.size V w' ∧ Below w.heap.size w w')) := fun V hV => by
    have hg : V.heap[w4.heap.size]? = some (oG (.slice b1' n1 p1) (.slice b2 n2 p2) rd' wr') := (hV.block _ (by omega)).trans hc5
    obtain ⟨c0, c1, c2, c3, -⟩ := cellsG hg
    exact ⟨⟨c0, c1, c2, c3⟩, unhide ht V (hb5.trans (hV.mono (by omega)))⟩
  clear hb5 hs5 hc5 ht
  go_upto_region 5 with fail
  change Code.wp _ _ _ _ (w4.alloc (oG (.slice b1' n1 p1) (.slice b2 n2 p2) rd' wr'))
  generalize w4.alloc (oG (.slice b1' n1 p1) (.slice b2 n2 p2) rd' wr') = w5 at *
  generalize w4.heap.size = b5 at *
  obtain ⟨⟨c0, c1, c2, c3⟩, ct⟩ := unhide CT w5 (Below.refl _ _)
  have CT5 := hide ct
  clear ct
  go_wp2_with fail
  refine (unhide CT5).mono ?_
  rintro e w6 ⟨rfl, h6⟩
  clear c0 c1 c2 c3 CT5
  obtain ⟨⟨c0, c1, c2, c3⟩, ct⟩ := unhide CT w6 (unhide h6).1
  have CT6 := hide ct
  clear ct CT h6
  go_wp2_with fail
  refine (unhide CT6).mono ?_
  rintro e w7 ⟨rfl, h7⟩
  have HB7 := hide (unhide h7).2
  clear c0 c1 c2 c3 CT6 h7
  go_wp2_with fail
  go_ret
  exact ⟨rfl, unhide HB7⟩
end Go.Proofs.YtanbnipndkmnlaaGreat
