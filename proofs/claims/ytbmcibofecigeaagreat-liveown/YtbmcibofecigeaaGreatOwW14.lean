/- LiveOwn, walked. -/
import Derived.Test.YtbmcibofecigeaaGreatBuW14
import Derived.Test.YtbmcibofecigeaaGreatRW14
namespace Go.Proofs.YtbmcibofecigeaaGreat

section
open Go.RowKit Go.Maps
section
variable {w W : World} {p : Nat} {s : Int} {vv ev : Value} {wr : Int}
/-- A tree and its graph, for the law's questions. -/
def Asked (p : Nat) (s : Int) (vv ev : Value) (W : World) : Prop := ∃ ys es ds T, TLv W p s ys es ds T ∧ NRow W vv ys ∧ ERow 0 W ev es
theorem BuiltA.asked (h : BuiltA w p s vv ev wr W) : Asked p s vv ev W ∧ Below w.heap.size w W := by
  obtain ⟨L, tc, vs, gs, T, N, h1, h2, h3, h4, h5, -, -, -, h6, -⟩ := h
  exact ⟨⟨vs, gs, _, T, ⟨⟨L, tc, N, h1, by omega⟩, rfl, h2.1, by have := h2.2; omega⟩, h4, h5⟩, h6⟩
theorem Asked.below {W' : World} (h : Asked p s vv ev W) (hb : Below W.heap.size W W') : Asked p s vv ev W' := by
  obtain ⟨ys, es, ds, T, h1, h2, h3⟩ := h
  exact ⟨ys, es, ds, T, h1.below hb, nrow_below h2 hb, rrow_below h3 hb⟩
theorem Asked.right (h : Asked p s vv ev W) {rd wr0 : Int} : Calls Tryz.prog 10 #[.iface 23 (.pointer (some ⟨p, 0, none⟩)), .agg #[vv, ev, .int .i64 rd, .int .i64 wr0], .int .i64 s] W fun e w' => e = .returned (.bool true) ∧ Hid (Below W.heap.size W w') := by
  obtain ⟨ys, es, ds, T, h1, h2, h3⟩ := h
  exact rightL h1 h2 h3 h1.el
end
set_option maxHeartbeats 4000000 in
set_option maxRecDepth 100000 in
theorem livePlays_any [Inhabited EntF] (s : Int) (a : Option Addr) (len cap : Nat) (o : Nat → OpV) (w : World) (os : okN s) (h : IsOps w a len o) :
    Calls Tryz.prog 3 #[.int .i64 s, .slice a len cap] w fun e w' => e = .returned (.bool true) ∧ Below w.heap.size w w' := by
  have CB := hide (builtT a len cap o w h os)
  have CW : Hid (∀ W, Calls Tryz.prog 9 #[] W fun e w' => e = .returned (.bool true) ∧ Hid (Below W.heap.size W w')) := fun W => awakeT W
  clear h os
  go_enter Tryz.func3, Tryz.ntmps3
  go_wp2_with fail
  refine (unhide CB).mono ?_
  rintro e w1 ⟨p, va, vn, vc, ea, en, ec, wr, rfl, HB⟩
  have hb2 := below_new w1 (oG (.slice va vn vc) (.slice ea en ec) 0 wr)
  have hn2 := heap_alloc_new w1 (oG (.slice va vn vc) (.slice ea en ec) 0 wr)
  obtain ⟨h1, h2⟩ := (unhide HB).asked
  obtain ⟨gb, hgb⟩ : ∃ gb, gb = w1.heap.size := ⟨_, rfl⟩
  have HG : Hid (gb = w1.heap.size) := hgb
  have HA : Hid (Asked p s (.slice va vn vc) (.slice ea en ec) (w1.alloc (oG (.slice va vn vc) (.slice ea en ec) 0 wr)) ∧ (w1.alloc (oG (.slice va vn vc) (.slice ea en ec) 0 wr)).heap[gb]? = some (oG (.slice va vn vc) (.slice ea en ec) 0 wr) ∧ Below w.heap.size w (w1.alloc (oG (.slice va vn vc) (.slice ea en ec) 0 wr))) := ⟨h1.below hb2, by rw [hgb]; exact hn2, h2.trans (hb2.mono h2.size)⟩
  clear CB HB hb2 hn2 h1 h2 hgb
  go_upto_region 2 with fail
  change Code.wp _ _ _ _ (w1.alloc (oG (.slice va vn vc) (.slice ea en ec) 0 wr))
  rw [← unhide HG]
  clear HG
  generalize w1.alloc (oG (.slice va vn vc) (.slice ea en ec) 0 wr) = w2 at *
  go_wp2_with fail
  refine (unhide CW w2).mono ?_
  rintro e w3 ⟨rfl, hb3⟩
  have HA3 : Hid (Asked p s (.slice va vn vc) (.slice ea en ec) w3 ∧ Below w.heap.size w w3) := ⟨(unhide HA).1.below (unhide hb3), (unhide HA).2.2.trans ((unhide hb3).mono (unhide HA).2.2.size)⟩
  obtain ⟨c0, c1, c2, c3, cf⟩ := cellsG (((unhide hb3).block gb (heap_lt (unhide HA).2.1)).trans (unhide HA).2.1)
  have CR := hide ((unhide HA3).1.right (rd := 0) (wr0 := wr))
  clear CW HA hb3
  go_wp2_with fail
  refine (unhide CR).mono ?_
  rintro e w4 ⟨rfl, hb4⟩
  have HE : Hid (Below w.heap.size w w4) := (unhide HA3).2.trans ((unhide hb4).mono (unhide HA3).2.size)
  clear CR HA3 hb4 c0 c1 c2 c3 cf
  go_wp2_with fail
  go_ret
  exact ⟨rfl, unhide HE⟩
end

section
open Go.RowKit Go.Maps
def set4e (w : World) (g i : Nat) (a b c d : Value) : World := (((w.setCell ⟨g, i * 4, none⟩ a).setCell ⟨g, i * 4 + 1, none⟩ b).setCell ⟨g, i * 4 + 2, none⟩ c).setCell ⟨g, i * 4 + 3, none⟩ d
theorem drow_set4 {B : Nat} {w : World} {g n c i : Nat} {l : List DiV} (h : DRow B w (.slice (some ⟨g, 0, none⟩) n c) l) {x : DiV} (hi : l[i]? = some x) (a : Int) (b : Bool) (d : Nat) (u : Int) : DRow B (set4e w g i (.int .i64 a) (.bool b) (.int .u32 (d : Nat)) (.int .i64 u)) (.slice (some ⟨g, 0, none⟩) n c) (l.set i (a, b, d, u)) := by
  have hl := (List.getElem?_eq_some_iff.1 hi).1
  have h0 := rrow_set kitD h hi (x' := (a, x.2.1, x.2.2.1, x.2.2.2)) (j := 0) (by omega) (u := .int .i64 a) rfl
  have e0 : (l.set i (a, x.2.1, x.2.2.1, x.2.2.2))[i]? = some (a, x.2.1, x.2.2.1, x.2.2.2) := List.getElem?_set_self hl
  have h1 := rrow_set kitD h0 e0 (x' := (a, b, x.2.2.1, x.2.2.2)) (j := 1) (by omega) (u := .bool b) rfl
  rw [List.set_set] at h1
  have e1 : (l.set i (a, b, x.2.2.1, x.2.2.2))[i]? = some (a, b, x.2.2.1, x.2.2.2) := List.getElem?_set_self hl
  have h2 := rrow_set kitD h1 e1 (x' := (a, b, d, x.2.2.2)) (j := 2) (by omega) (u := .int .u32 (d : Nat)) rfl
  rw [List.set_set] at h2
  have e2 : (l.set i (a, b, d, x.2.2.2))[i]? = some (a, b, d, x.2.2.2) := List.getElem?_set_self hl
  have h3 := rrow_set kitD h2 e2 (x' := (a, b, d, u)) (j := 3) (by omega) (u := .int .i64 u) rfl
  rw [List.set_set] at h3
  exact h3
theorem set4e_turned (w : World) (g i : Nat) (a b c d : Value) : Turned (fun k => k = g) w (set4e w g i a b c d) := (((turned_setCell (S := fun k => k = g) w ⟨g, i * 4, none⟩ a rfl).trans (turned_setCell (S := fun k => k = g) _ ⟨g, i * 4 + 1, none⟩ b rfl)).trans (turned_setCell (S := fun k => k = g) _ ⟨g, i * 4 + 2, none⟩ c rfl)).trans (turned_setCell (S := fun k => k = g) _ ⟨g, i * 4 + 3, none⟩ d rfl)
/-- Three answered lists side by side. -/
structure P3 (w0 : World) (lv rv dv : Value) (L R : List Int) (D : List DiV) (W : World) : Prop where
  bl : Below w0.heap.size w0 W
  l : BRow w0.heap.size W lv L
  r : BRow w0.heap.size W rv R
  d : DRow w0.heap.size W dv D
  lr : ∀ b, lv.ownBlock = some b → rv.ownBlock ≠ some b
  ld : ∀ b, lv.ownBlock = some b → dv.ownBlock ≠ some b
  rd : ∀ b, rv.ownBlock = some b → dv.ownBlock ≠ some b
section
variable {w0 W : World} {lv rv dv : Value} {L R : List Int} {D : List DiV} {g n c i : Nat}
theorem P3.setL (h : P3 w0 (.slice (some ⟨g, 0, none⟩) n c) rv dv L R D W) (hi : i < n) (x : Int) : (∃ y, W.cell? ⟨g, i, none⟩ = some (.int .i64 y)) ∧ (∀ o, W.frozen? ⟨g, o, none⟩ = false) ∧ P3 w0 (.slice (some ⟨g, 0, none⟩) n c) rv dv (L.set i x) R D (W.setCell ⟨g, i, none⟩ (.int .i64 x)) := by
  have hn : n = L.length := by
    obtain ⟨_, _, e, -⟩ := brow_shape h.l
    injection e
  obtain ⟨f1, f2⟩ := brow_set h.l x hi
  obtain ⟨y, hy⟩ : ∃ y, L[i]? = some y := ⟨_, List.getElem?_eq_getElem (by omega)⟩
  exact ⟨⟨y, brow_at h.l hy⟩, f1, below_set h.bl (h.l.lt g rfl).1, f2, brow_kept h.r (fun b e => heap_setCell_other _ _ _ _ (show b ≠ g from fun z => h.lr g rfl (by rw [← z]; exact e))), rrow_kept h.d (fun b e => heap_setCell_other _ _ _ _ (show b ≠ g from fun z => h.ld g rfl (by rw [← z]; exact e))), h.lr, h.ld, h.rd⟩
theorem P3.setR (h : P3 w0 lv (.slice (some ⟨g, 0, none⟩) n c) dv L R D W) (hi : i < n) (x : Int) : (∃ y, W.cell? ⟨g, i, none⟩ = some (.int .i64 y)) ∧ (∀ o, W.frozen? ⟨g, o, none⟩ = false) ∧ P3 w0 lv (.slice (some ⟨g, 0, none⟩) n c) dv L (R.set i x) D (W.setCell ⟨g, i, none⟩ (.int .i64 x)) := by
  have hn : n = R.length := by
    obtain ⟨_, _, e, -⟩ := brow_shape h.r
    injection e
  obtain ⟨f1, f2⟩ := brow_set h.r x hi
  obtain ⟨y, hy⟩ : ∃ y, R[i]? = some y := ⟨_, List.getElem?_eq_getElem (by omega)⟩
  exact ⟨⟨y, brow_at h.r hy⟩, f1, below_set h.bl (h.r.lt g rfl).1, brow_kept h.l (fun b e => heap_setCell_other _ _ _ _ (show b ≠ g from fun z => h.lr b e (by rw [z]; rfl))), f2, rrow_kept h.d (fun b e => heap_setCell_other _ _ _ _ (show b ≠ g from fun z => h.rd g rfl (by rw [← z]; exact e))), h.lr, h.ld, h.rd⟩
theorem P3.setD (h : P3 w0 lv rv (.slice (some ⟨g, 0, none⟩) n c) L R D W) (hi : i < n) : (∃ x : DiV, W.cell? ⟨g, i * 4, none⟩ = some (.int .i64 x.1) ∧ W.cell? ⟨g, i * 4 + 1, none⟩ = some (.bool x.2.1) ∧ W.cell? ⟨g, i * 4 + 2, none⟩ = some (.int .u32 (x.2.2.1 : Nat)) ∧ W.cell? ⟨g, i * 4 + 3, none⟩ = some (.int .i64 x.2.2.2)) ∧ (∀ o, W.frozen? ⟨g, o, none⟩ = false) ∧ P3 w0 lv rv (.slice (some ⟨g, 0, none⟩) n c) L R (D.set i (-4, false, 0, 0)) (set4e W g i (.int .i64 (-4)) (.bool false) (.int .u32 0) (.int .i64 0)) := by
  have hn := rrow_len h.d
  obtain ⟨y, hy⟩ : ∃ y, D[i]? = some y := ⟨_, List.getElem?_eq_getElem (by omega)⟩
  have ht := set4e_turned W g i (.int .i64 (-4)) (.bool false) (.int .u32 0) (.int .i64 0)
  exact ⟨⟨y, drow_at h.d hy⟩, rrow_frozen h.d (by omega), h.bl.trans (ht.below h.bl.size (fun b e => by rw [e]; exact (h.d.lt g rfl).1)), brow_kept h.l (fun b e => ht.block b (h.l.lt b e).2 (fun z => h.ld b e (by rw [z]; rfl))), brow_kept h.r (fun b e => ht.block b (h.r.lt b e).2 (fun z => h.rd b e (by rw [z]; rfl))), drow_set4 h.d hy (-4) false 0 0, h.lr, h.ld, h.rd⟩
/-- One more behind each. -/
theorem P3.push (h : P3 w0 lv rv dv L R D W) (h1 : L.length ≤ 2000) (h2 : R.length ≤ 2000) (h3 : D.length ≤ 2000) :
    ∃ a1 m1 c1 wA a2 m2 c2 wB a3 m3 c3 wC,
      (∀ ty, (Builtin.append_ #[24, 24] ty #[lv, .slice (some ⟨W.heap.size, 0, none⟩) 1 1]).run Tryz.prog (W.alloc (.cells #[.int .i64 5] 3)) = .ok (.slice a1 m1 c1) wA) ∧
      (∀ ty, (Builtin.append_ #[24, 24] ty #[rv, .slice (some ⟨wA.heap.size, 0, none⟩) 1 1]).run Tryz.prog (wA.alloc (.cells #[.int .i64 6] 3)) = .ok (.slice a2 m2 c2) wB) ∧
      (∀ ty, (Builtin.append_ #[43, 43] ty #[dv, .slice (some ⟨wB.heap.size, 0, none⟩) 1 1]).run Tryz.prog (wB.alloc (.cells #[.int .i64 7, .bool false, .int .u32 0, .int .i64 0] 48)) = .ok (.slice a3 m3 c3) wC) ∧
      P3 w0 (.slice a1 m1 c1) (.slice a2 m2 c2) (.slice a3 m3 c3) (L ++ [5]) (R ++ [6]) (D ++ [(7, false, 0, 0)]) wC := by
  have hs := h.bl.size
  obtain ⟨a1, m1, c1, wA, rA, gA, tA, oA⟩ := run_app8 5 h.l hs (by omega)
  have rA' : BRow w0.heap.size wA rv R := brow_kept h.r (fun b e => tA.block b (h.r.lt b e).2 (fun z => h.lr b z e))
  have dA' : DRow w0.heap.size wA dv D := rrow_kept h.d (fun b e => tA.block b (h.d.lt b e).2 (fun z => h.ld b z e))
  have sA := tA.size
  obtain ⟨a2, m2, c2, wB, rB, gB, tB, oB⟩ := run_app8 6 rA' (by omega) (by omega)
  have lAR : ∀ b, (Value.slice a1 m1 c1).ownBlock = some b → rv.ownBlock ≠ some b := fun b e e2 => by
    rcases oA b e with q | q
    · exact h.lr b q e2
    · have := (h.r.lt b e2).2; omega
  have lAD : ∀ b, (Value.slice a1 m1 c1).ownBlock = some b → dv.ownBlock ≠ some b := fun b e e2 => by
    rcases oA b e with q | q
    · exact h.ld b q e2
    · have := (h.d.lt b e2).2; omega
  have gA' : BRow w0.heap.size wB (.slice a1 m1 c1) (L ++ [5]) := brow_kept gA (fun b e => tB.block b (gA.lt b e).2 (fun z => lAR b e z))
  have dB' : DRow w0.heap.size wB dv D := rrow_kept dA' (fun b e => tB.block b (dA'.lt b e).2 (fun z => h.rd b z e))
  have sB := tB.size
  obtain ⟨a3, m3, c3, wC, rC, gC, tC, oC⟩ := run_app1 (ts := 43) kitD Tryz.underlying43 infoD rfl (by omega) (7, false, 0, 0) (cs := #[.int .i64 7, .bool false, .int .u32 0, .int .i64 0]) rfl dB' (by omega) (by omega)
  have lB : ∀ b, (Value.slice a1 m1 c1).ownBlock = some b → (Value.slice a2 m2 c2).ownBlock ≠ some b := fun b e e2 => by
    rcases oB b e2 with q | q
    · exact lAR b e q
    · have := (gA.lt b e).2; omega
  have rBD : ∀ b, (Value.slice a2 m2 c2).ownBlock = some b → dv.ownBlock ≠ some b := fun b e e2 => by
    rcases oB b e with q | q
    · exact h.rd b q e2
    · have := (dA'.lt b e2).2; omega
  have bA : Below w0.heap.size w0 wA := h.bl.trans (tA.below hs (fun b e => (h.l.lt b e).1))
  have bB : Below w0.heap.size w0 wB := bA.trans (tB.below bA.size (fun b e => (h.r.lt b e).1))
  have bC : Below w0.heap.size w0 wC := bB.trans (tC.below bB.size (fun b e => (h.d.lt b e).1))
  refine ⟨a1, m1, c1, wA, a2, m2, c2, wB, a3, m3, c3, wC, rA, rB, rC, bC, brow_kept gA' (fun b e => tC.block b (gA'.lt b e).2 (fun z => lAD b e z)), brow_kept gB (fun b e => tC.block b (gB.lt b e).2 (fun z => rBD b e z)), gC, lB, fun b e e2 => ?_, fun b e e2 => ?_⟩
  · rcases oC b e2 with q | q
    · exact lAD b e q
    · have := (gA'.lt b e).2; omega
  · rcases oC b e2 with q | q
    · exact rBD b e q
    · have := (gB.lt b e).2; omega
end
end

section
open Go.RowKit Go.Maps
theorem snoc_last {X : Type} {l l0 : List X} {x : X} {n : Nat} (h : l = l0 ++ [x]) (hn : n + 1 = l.length) : l[n]? = some x := by
  have : n = l0.length := by rw [h] at hn; simp at hn; exact hn
  rw [h, this, List.getElem?_append_right (Nat.le_refl _), Nat.sub_self]; rfl
theorem own_at {L : List Int} {pn k : Nat} (h : L.length = pn + k) (h2 : 0 < k → L[pn]? = some 5) : (L ++ [5])[pn]? = some 5 := by
  rcases Nat.eq_zero_or_pos k with e | e
  · subst e
    rw [List.getElem?_append_right (by omega), show pn - L.length = 0 by omega]; rfl
  · rw [List.getElem?_append_left (by omega)]; exact h2 e
set_option maxHeartbeats 16000000 in
set_option maxRecDepth 100000 in
theorem liveOwn_any [Inhabited EntF] (s : Int) (a : Option Addr) (len cap : Nat) (o : Nat → OpV) (v : Int) (w : World) (os : okN s) (h : IsOps w a len o) (ov : okN v) :
    Calls Tryz.prog 7 #[.int .i64 s, .slice a len cap, .int .i64 v] w fun e w' => e = .returned (.bool true) ∧ Below w.heap.size w w' := by
  have CB := hide (builtT a len cap o w h os)
  have CW : Hid (∀ W, Calls Tryz.prog 9 #[] W fun e w' => e = .returned (.bool true) ∧ Hid (Below W.heap.size W w')) := fun W => awakeT W
  have HOV := hide ov
  clear h os ov
  go_enter Tryz.func7, Tryz.ntmps7
  go_wp2_with fail
  refine (unhide CB).mono ?_
  rintro e w1 ⟨p, va, vn, vc, ea, en, ec, wrr, rfl, HB⟩
  have hb2 := below_new w1 (oG (.slice va vn vc) (.slice ea en ec) 0 wrr)
  have hn2 := heap_alloc_new w1 (oG (.slice va vn vc) (.slice ea en ec) 0 wrr)
  obtain ⟨h1, h2⟩ := (unhide HB).asked
  obtain ⟨gb, hgb⟩ : ∃ gb, gb = w1.heap.size := ⟨_, rfl⟩
  have HG : Hid (gb = w1.heap.size) := hgb
  have HA : Hid (Asked p s (.slice va vn vc) (.slice ea en ec) (w1.alloc (oG (.slice va vn vc) (.slice ea en ec) 0 wrr)) ∧ (w1.alloc (oG (.slice va vn vc) (.slice ea en ec) 0 wrr)).heap[gb]? = some (oG (.slice va vn vc) (.slice ea en ec) 0 wrr) ∧ Below w.heap.size w (w1.alloc (oG (.slice va vn vc) (.slice ea en ec) 0 wrr))) := ⟨h1.below hb2, by rw [hgb]; exact hn2, h2.trans (hb2.mono h2.size)⟩
  clear CB HB hb2 hn2 h1 h2 hgb
  go_upto_region 2 with fail
  change Code.wp _ _ _ _ (w1.alloc (oG (.slice va vn vc) (.slice ea en ec) 0 wrr))
  rw [← unhide HG]
  clear HG
  generalize w1.alloc (oG (.slice va vn vc) (.slice ea en ec) 0 wrr) = w2 at *
  go_wp2_with fail
  refine (unhide CW w2).mono ?_
  rintro e wr ⟨rfl, hb3⟩
  obtain ⟨ys, es, ds, T, hT0, hv0, he0⟩ := (unhide HA).1
  have HT : Hid (∀ W, Below wr.heap.size wr W → TLv W p s ys es ds T ∧ NRow W (.slice va vn vc) ys ∧ ERow 0 W (.slice ea en ec) es ∧ (W.cell? ⟨gb, 0, none⟩ = some (.slice va vn vc) ∧ W.cell? ⟨gb, 1, none⟩ = some (.slice ea en ec) ∧ W.cell? ⟨gb, 2, none⟩ = some (.int .i64 0) ∧ W.cell? ⟨gb, 3, none⟩ = some (.int .i64 wrr)) ∧ Below w.heap.size w W) := fun W hW => by
    have hb := (unhide hb3).trans (hW.mono (unhide hb3).size)
    obtain ⟨c0, c1, c2, c3, -⟩ := cellsG ((hb.block gb (heap_lt (unhide HA).2.1)).trans (unhide HA).2.1)
    exact ⟨hT0.below hb, nrow_below hv0 hb, rrow_below he0 hb, ⟨c0, c1, c2, c3⟩, (unhide HA).2.2.trans (hb.mono (unhide HA).2.2.size)⟩
  have C1 := hide (pathLL (unhide HT wr (Below.refl _ _)).1 (unhide HOV))
  have C2 : Hid (∀ W, Below wr.heap.size wr W → Calls Tryz.prog 17 #[.pointer (some ⟨p, 0, none⟩)] W fun e w' => ∃ a n c, e = .returned (.slice a n c) ∧ Hid (RowAns W (nearV ds) (.slice a n c) w')) := fun W hW => reachedLL (unhide HT W hW).1
  have C3 : Hid (∀ W, Below wr.heap.size wr W → Calls Tryz.prog 14 #[.pointer (some ⟨p, 0, none⟩)] W fun e w' => ∃ a n c, e = .returned (.slice a n c) ∧ Hid (DisL W ds (.slice a n c) w')) := fun W hW => distsL (unhide HT W hW).1
  have HL : Hid ((nearV ds).length ≤ 1000 ∧ ds.length ≤ 1000) := by
    have hd : ds.length ≤ 1000 := by rw [hT0.dl]; exact hT0.len
    refine ⟨?_, hd⟩
    unfold nearV; rw [List.length_map]; have := List.length_filter_le (fun d : DiV => !d.2.1) ds; omega
  clear CW HA hb3 hT0 hv0 he0
  go_wp2_with fail
  refine (unhide C1).mono ?_
  rintro e w10 ⟨pa, pn, pc, rfl, H10⟩
  obtain ⟨L, HP10⟩ : ∃ L, Hid (BRow wr.heap.size w10 (.slice pa pn pc) L ∧ L.length ≤ 1001 ∧ Below wr.heap.size wr w10) := by
    obtain ⟨b1, b2, b3⟩ := unhide H10
    by_cases h0 : askC ys ds v = 0
    · obtain ⟨l, -, e2, e4⟩ := b3 h0
      exact ⟨l.reverse, e2, by rw [List.length_reverse]; exact e4, b1⟩
    · have := b2 h0
      rw [this]
      exact ⟨[], ⟨rfl, .inl ⟨rfl, rfl⟩⟩, by simp, b1⟩
  have HPL : Hid ((askC ys ds v = 0 ∧ ∃ l, BackL s ys es T (plc ys v) l ∧ pn = l.length) ∨ (askC ys ds v ≠ 0 ∧ pn = 0)) := by
    obtain ⟨b1, b2, b3⟩ := unhide H10
    by_cases h0 : askC ys ds v = 0
    · obtain ⟨l, hl, e2, -⟩ := b3 h0
      obtain ⟨_, _, e3, -⟩ := brow_shape e2
      injection e3 with _ e4 _
      rw [List.length_reverse] at e4
      exact .inl ⟨h0, l, hl, e4⟩
    · have := b2 h0
      injection this with _ e2 _
      exact .inr ⟨h0, e2⟩
  have D2 := hide (unhide C2 w10 (unhide HP10).2.2)
  generalize hcc : askC ys ds v = cc
  have HCC := hide hcc
  clear hcc C1 C2 H10
  go_wp2_with fail
  refine (unhide D2).mono ?_
  rintro e w11 ⟨ra, rn, rc, rfl, H11⟩
  have HB11 : Hid (Below wr.heap.size wr w11) := (unhide HP10).2.2.trans ((unhide H11).2.mono (unhide HP10).2.2.size)
  have D3 := hide (unhide C3 w11 (unhide HB11))
  clear D2 C3
  go_wp2_with fail
  refine (unhide D3).mono ?_
  rintro e w12 ⟨da, dn, dc, rfl, H12⟩
  have HP : Hid (∃ L R D, P3 wr (.slice pa pn pc) (.slice ra rn rc) (.slice da dn dc) L R D w12 ∧ L.length ≤ 1001 ∧ R.length ≤ 1001 ∧ D.length ≤ 1001) := by
    obtain ⟨a1, a2, a3⟩ := unhide HP10
    obtain ⟨r1, r2⟩ := unhide H11
    obtain ⟨d1, d2⟩ := unhide H12
    have hb := unhide HB11
    have k1 := brow_kept a1 (fun b e => r2.block b (a1.lt b e).2)
    have k2 := brow_kept k1 (fun b e => d2.block b (k1.lt b e).2)
    refine ⟨L, nearV ds, ds, ⟨hb.trans (d2.mono hb.size), k2, brow_low (brow_kept r1 (fun b e => d2.block b (r1.lt b e).2)) a3.size, rrow_low d1 hb.size, fun b e e2 => ?_, fun b e e2 => ?_, fun b e e2 => ?_⟩, a2, by have := (unhide HL).1; omega, by have := (unhide HL).2; omega⟩
    · have := (a1.lt b e).2; have := (r1.lt b e2).1; omega
    · have := (k1.lt b e).2; have := (d1.lt b e2).1; omega
    · have := (r1.lt b e).2; have := (d1.lt b e2).1; omega
  obtain ⟨w0, hw0⟩ : ∃ w0, w0 = wr := ⟨_, rfl⟩
  subst hw0
  have HLN : Hid (pn ≤ 1001 ∧ rn ≤ 1001 ∧ dn ≤ 1001) := by
    obtain ⟨L, R, D, hP, a1, a2, a3⟩ := unhide HP
    have e1 : pn = L.length := by obtain ⟨_, _, e, -⟩ := brow_shape hP.l; injection e
    have e2 : rn = R.length := by obtain ⟨_, _, e, -⟩ := brow_shape hP.r; injection e
    have e3 := rrow_len hP.d
    exact ⟨by omega, by omega, by omega⟩
  clear D3 H11 H12 HP10 HB11 HL
  go_wp2_with fail
  go_loopw [48] (fun s48 wr => ∃ (k : Nat), s48 = .int .i64 k ∧ Hid (k ≤ pn ∧ ∃ L R D, P3 w0 (.slice pa pn pc) (.slice ra rn rc) (.slice da dn dc) L R D wr ∧ L.length ≤ 1001 ∧ R.length ≤ 1001 ∧ D.length ≤ 1001)) (fun s48 _ => pn - (intOf s48).toNat)
  case atStart => exact ⟨0, rfl, Nat.zero_le _, unhide HP⟩
  case round =>
    clear HP
    obtain ⟨k, rfl, HI⟩ := hrel
    obtain ⟨k1, L, R, D, hP, a1, a2, a3⟩ := unhide HI
    by_cases hlt : k < pn
    · obtain ⟨gl, rfl⟩ := brow_some hP.l (by obtain ⟨_, _, e, -⟩ := brow_shape hP.l; injection e with _ e2 _; omega)
      obtain ⟨⟨x, kx⟩, kf, hP2⟩ := hP.setL hlt (-2)
      obtain ⟨k', hk'⟩ : ∃ k', k' = k + 1 := ⟨_, rfl⟩
      have zk : Hid (wrap64 ((k : Int) + 1) = (k' : Int)) := by show wrap64 ((k : Int) + 1) = (k' : Int); have := unhide HLN; unfold wrap64; omega
      have HK2 : Hid (k' = k + 1 ∧ pn - k' < pn - k ∧ k' ≤ pn ∧ ∃ L R D, P3 w0 (.slice (some ⟨gl, 0, none⟩) pn pc) (.slice ra rn rc) (.slice da dn dc) L R D (wr.setCell ⟨gl, k, none⟩ (.int .i64 (-2))) ∧ L.length ≤ 1001 ∧ R.length ≤ 1001 ∧ D.length ≤ 1001) := ⟨hk', by omega, by omega, _, R, D, hP2, by rw [List.length_set]; exact a1, a2, a3⟩
      have z2 : (k : Int) < (pn : Int) := by omega
      clear HI k1 hP a1 a2 a3 hlt hP2 hk'
      go_wp2_with fail
      (try rw [unhide zk])
      exact ⟨⟨k', by first | rfl | (rw [(unhide HK2).1]; rfl), (unhide HK2).2.2.1, (unhide HK2).2.2.2⟩, by have := unhide HK2; simp [intOf]; omega⟩
    · have z2 : ¬ (k : Int) < (pn : Int) := by omega
      have HP : Hid (∃ L R D, P3 w0 (.slice pa pn pc) (.slice ra rn rc) (.slice da dn dc) L R D wr ∧ L.length ≤ 1001 ∧ R.length ≤ 1001 ∧ D.length ≤ 1001) := ⟨L, R, D, hP, a1, a2, a3⟩
      clear HI k1 hP a1 a2 a3 hlt L R D
      go_wp2_with fail
      clear z2
      go_loopw [57] (fun s57 wr => ∃ (k : Nat), s57 = .int .i64 k ∧ Hid (k ≤ rn ∧ ∃ L R D, P3 w0 (.slice pa pn pc) (.slice ra rn rc) (.slice da dn dc) L R D wr ∧ L.length ≤ 1001 ∧ R.length ≤ 1001 ∧ D.length ≤ 1001)) (fun s57 _ => rn - (intOf s57).toNat)
      case atStart => exact ⟨0, rfl, Nat.zero_le _, unhide HP⟩
      case round =>
        clear HP
        obtain ⟨k, rfl, HI⟩ := hrel
        obtain ⟨k1, L, R, D, hP, a1, a2, a3⟩ := unhide HI
        by_cases hlt : k < rn
        · obtain ⟨gl, rfl⟩ := brow_some hP.r (by obtain ⟨_, _, e, -⟩ := brow_shape hP.r; injection e with _ e2 _; omega)
          obtain ⟨⟨x, kx⟩, kf, hP2⟩ := hP.setR hlt (-3)
          obtain ⟨k', hk'⟩ : ∃ k', k' = k + 1 := ⟨_, rfl⟩
          have zk : Hid (wrap64 ((k : Int) + 1) = (k' : Int)) := by show wrap64 ((k : Int) + 1) = (k' : Int); have := unhide HLN; unfold wrap64; omega
          have HK2 : Hid (k' = k + 1 ∧ rn - k' < rn - k ∧ k' ≤ rn ∧ ∃ L R D, P3 w0 (.slice pa pn pc) (.slice (some ⟨gl, 0, none⟩) rn rc) (.slice da dn dc) L R D (wr.setCell ⟨gl, k, none⟩ (.int .i64 (-3))) ∧ L.length ≤ 1001 ∧ R.length ≤ 1001 ∧ D.length ≤ 1001) := ⟨hk', by omega, by omega, L, _, D, hP2, a1, by rw [List.length_set]; exact a2, a3⟩
          have z2 : (k : Int) < (rn : Int) := by omega
          clear HI k1 hP a1 a2 a3 hlt hP2 hk'
          go_wp2_with fail
          (try rw [unhide zk])
          exact ⟨⟨k', by first | rfl | (rw [(unhide HK2).1]; rfl), (unhide HK2).2.2.1, (unhide HK2).2.2.2⟩, by have := unhide HK2; simp [intOf]; omega⟩
        · have z2 : ¬ (k : Int) < (rn : Int) := by omega
          have HP : Hid (∃ L R D, P3 w0 (.slice pa pn pc) (.slice ra rn rc) (.slice da dn dc) L R D wr ∧ L.length ≤ 1001 ∧ R.length ≤ 1001 ∧ D.length ≤ 1001) := ⟨L, R, D, hP, a1, a2, a3⟩
          clear HI k1 hP a1 a2 a3 hlt L R D
          go_wp2_with fail
          clear z2
          go_loopw [66] (fun s66 wr => ∃ (k : Nat), s66 = .int .i64 k ∧ Hid (k ≤ dn ∧ ∃ L R D, P3 w0 (.slice pa pn pc) (.slice ra rn rc) (.slice da dn dc) L R D wr ∧ L.length ≤ 1001 ∧ R.length ≤ 1001 ∧ D.length ≤ 1001)) (fun s66 _ => dn - (intOf s66).toNat)
          case atStart => exact ⟨0, rfl, Nat.zero_le _, unhide HP⟩
          case round =>
            clear HP
            obtain ⟨k, rfl, HI⟩ := hrel
            obtain ⟨k1, L, R, D, hP, a1, a2, a3⟩ := unhide HI
            by_cases hlt : k < dn
            · obtain ⟨gl, rfl⟩ := rrow_some hP.d (by have := rrow_len hP.d; omega)
              obtain ⟨⟨x, x0, x1', x2', x3⟩, kf, hP2⟩ := hP.setD hlt
              obtain ⟨k', hk'⟩ : ∃ k', k' = k + 1 := ⟨_, rfl⟩
              have zk : Hid (wrap64 ((k : Int) + 1) = (k' : Int)) := by show wrap64 ((k : Int) + 1) = (k' : Int); have := unhide HLN; unfold wrap64; omega
              have HK2 : Hid (k' = k + 1 ∧ dn - k' < dn - k ∧ k' ≤ dn ∧ ∃ L R D, P3 w0 (.slice pa pn pc) (.slice ra rn rc) (.slice (some ⟨gl, 0, none⟩) dn dc) L R D (set4e wr gl k (.int .i64 (-4)) (.bool false) (.int .u32 0) (.int .i64 0)) ∧ L.length ≤ 1001 ∧ R.length ≤ 1001 ∧ D.length ≤ 1001) := ⟨hk', by omega, by omega, L, R, _, hP2, a1, a2, by rw [List.length_set]; exact a3⟩
              have z2 : (k : Int) < (dn : Int) := by omega
              clear HI k1 hP a1 a2 a3 hlt hP2 hk'
              go_wp2_with fail
              (try rw [unhide zk])
              exact ⟨⟨k', by first | rfl | (rw [(unhide HK2).1]; rfl), (unhide HK2).2.2.1, (unhide HK2).2.2.2⟩, by have := unhide HK2; simp [intOf]; omega⟩
            · have z2 : ¬ (k : Int) < (dn : Int) := by omega
              have HP : Hid (∃ L R D, P3 w0 (.slice pa pn pc) (.slice ra rn rc) (.slice da dn dc) L R D wr ∧ L.length ≤ 1001 ∧ R.length ≤ 1001 ∧ D.length ≤ 1001) := ⟨L, R, D, hP, a1, a2, a3⟩
              clear HI k1 hP a1 a2 a3 hlt L R D
              go_wp2_with fail
              clear z2
              go_loopw [18, 10, 12, 13] (fun s18 s10 s12 s13 wr => ∃ (k : Nat) (la : Option Addr) (ln lc : Nat) (qa : Option Addr) (qn qc : Nat) (ea : Option Addr) (en ec : Nat), s18 = .int .i64 k ∧ s10 = .slice la ln lc ∧ s12 = .slice qa qn qc ∧ s13 = .slice ea en ec ∧ Hid (k ≤ 20 ∧ ∃ L R D, P3 w0 (.slice la ln lc) (.slice qa qn qc) (.slice ea en ec) L R D wr ∧ L.length ≤ 1001 + k ∧ R.length ≤ 1001 + k ∧ D.length ≤ 1001 + k ∧ (0 < k → ∃ L0 R0 D0, L = L0 ++ [5] ∧ R = R0 ++ [6] ∧ D = D0 ++ [(7, false, 0, 0)]) ∧ L.length = pn + k ∧ (0 < k → L[pn]? = some 5))) (fun s18 _ _ _ _ => 20 - (intOf s18).toNat)
              case atStart =>
                obtain ⟨L, R, D, hP, a1, a2, a3⟩ := unhide HP
                exact ⟨0, pa, pn, pc, ra, rn, rc, da, dn, dc, rfl, rfl, rfl, rfl, Nat.zero_le _, L, R, D, hP, a1, a2, a3, fun h => absurd h (Nat.lt_irrefl _), (by obtain ⟨_, _, e, -⟩ := brow_shape hP.l; injection e with _ e2 _; omega), fun h => absurd h (Nat.lt_irrefl _)⟩
              case round =>
                clear HP
                obtain ⟨k, la, ln, lc, qa, qn, qc, ea, en, ec, rfl, rfl, rfl, rfl, HI⟩ := hrel
                obtain ⟨k1, L, R, D, hP, a1, a2, a3, a4, a5, a6⟩ := unhide HI
                by_cases hlt : k < 20
                · obtain ⟨u1, m1', e1, wA', u2, m2', e2, wB', u3, m3', e3, wC', rA, rB, rC, hP2⟩ := hP.push (by omega) (by omega) (by omega)
                  have HR1 := hide rA
                  have HR2 := hide rB
                  have HR3 := hide rC
                  obtain ⟨k', hk'⟩ : ∃ k', k' = k + 1 := ⟨_, rfl⟩
                  have zk : Hid (wrap64 ((k : Int) + 1) = (k' : Int)) := by show wrap64 ((k : Int) + 1) = (k' : Int); unfold wrap64; omega
                  have HK2 : Hid (k' = k + 1 ∧ 20 - k' < 20 - k ∧ k' ≤ 20 ∧ ∃ L R D, P3 w0 (.slice u1 m1' e1) (.slice u2 m2' e2) (.slice u3 m3' e3) L R D wC' ∧ L.length ≤ 1001 + k' ∧ R.length ≤ 1001 + k' ∧ D.length ≤ 1001 + k' ∧ (0 < k' → ∃ L0 R0 D0, L = L0 ++ [5] ∧ R = R0 ++ [6] ∧ D = D0 ++ [(7, false, 0, 0)]) ∧ L.length = pn + k' ∧ (0 < k' → L[pn]? = some 5)) := ⟨hk', by omega, by omega, _, _, _, hP2, by simp; omega, by simp; omega, by simp; omega, fun _ => ⟨L, R, D, rfl, rfl, rfl⟩, by simp; omega, fun _ => own_at a5 a6⟩
                  have z2 : (k : Int) < 20 := by omega
                  clear HI k1 hP a1 a2 a3 a4 a5 a6 hlt hP2 hk' rA rB rC
                  go_wp2_with (at_builtin; first | (have h := HR1; clear HR1; refine Lib.wpList_append_run _ rfl _ _ 24 24 rfl _ _ rfl rfl _ _ (unhide h _) ?_; clear h) | (have h := HR2; clear HR2; refine Lib.wpList_append_run _ rfl _ _ 24 24 rfl _ _ rfl rfl _ _ (unhide h _) ?_; clear h) | (have h := HR3; clear HR3; refine Lib.wpList_append_run _ rfl _ _ 43 43 rfl _ _ rfl rfl _ _ (unhide h _) ?_; clear h))
                  (try rw [unhide zk])
                  exact ⟨⟨k', u1, m1', e1, u2, m2', e2, u3, m3', e3, by first | rfl | (rw [(unhide HK2).1]; rfl), rfl, rfl, rfl, (unhide HK2).2.2.1, (unhide HK2).2.2.2⟩, by have := unhide HK2; simp [intOf]; omega⟩
                · have z2 : ¬ (k : Int) < 20 := by omega
                  obtain ⟨L0, R0, D0, e1, e2, e3⟩ := a4 (by omega)
                  have hl1 : ln = L.length := by obtain ⟨_, _, e, -⟩ := brow_shape hP.l; injection e
                  have hl2 : qn = R.length := by obtain ⟨_, _, e, -⟩ := brow_shape hP.r; injection e
                  have hl3 := rrow_len hP.d
                  have p1 : 0 < ln := by rw [hl1, e1]; simp
                  have p2 : 0 < qn := by rw [hl2, e2]; simp
                  have p3 : 0 < en := by rw [hl3, e3]; simp
                  obtain ⟨g1, rfl⟩ := brow_some hP.l (by omega)
                  obtain ⟨g2, rfl⟩ := brow_some hP.r (by omega)
                  obtain ⟨g3, rfl⟩ := rrow_some hP.d (by omega)
                  obtain ⟨t2, ht2⟩ : ∃ t2, t2 = qn - 1 := ⟨_, rfl⟩
                  obtain ⟨t3, ht3⟩ : ∃ t3, t3 = en - 1 := ⟨_, rfl⟩
                  have q6 := snoc_last e2 (n := t2) (by omega)
                  have q7 := snoc_last e3 (n := t3) (by omega)
                  have hL := hP.l
                  have hR := hP.r
                  have hD := hP.d
                  have q5 := a6 (by omega)
                  have HK : Hid (∀ W, Below wr.heap.size wr W → W.cell? ⟨g1, pn, none⟩ = some (.int .i64 5) ∧ W.cell? ⟨g2, t2, none⟩ = some (.int .i64 6) ∧ W.cell? ⟨g3, t3 * 4, none⟩ = some (.int .i64 7)) := fun W hW => by
                    refine ⟨brow_at (nrow_below (brow_at0 hL) hW) q5, brow_at (nrow_below (brow_at0 hR) hW) q6, ?_⟩
                    obtain ⟨k7, -, -, -⟩ := drow_at (rrow_below hD hW) q7
                    exact k7
                  have z3 : (pn : Int) < (ln : Int) := by omega
                  have z4 : (t2 : Int) < (qn : Int) := by omega
                  have z5 : (t3 : Int) < (en : Int) := by omega
                  have z7 : wrap64 ((qn : Int) - 1) = (t2 : Int) := by unfold wrap64; omega
                  have z8 : wrap64 ((en : Int) - 1) = (t3 : Int) := by clear z7; unfold wrap64; omega
                  have HW2 : Hid (Below w0.heap.size w0 wr) := hP.bl
                  have CA := hide (pathLL (unhide HT wr (unhide HW2)).1 (unhide HOV))
                  have HZ := hide (And.intro z3 (And.intro z4 (And.intro z5 (And.intro z7 z8))))
                  clear HI k1 hP hL hR hD q5 q6 q7 a1 a2 a3 a4 a5 a6 hlt e1 e2 e3 hl1 hl2 hl3 p1 p2 p3 ht2 ht3 L R D L0 R0 D0 z3 z4 z5 z7 z8
                  go_wp2_with fail
                  refine (unhide CA).mono ?_
                  rintro e w20 ⟨xa, xn, xc, rfl, H20⟩
                  have HB20 : Hid (Below wr.heap.size wr w20) := (unhide H20).1
                  obtain rfl : xn = pn := by
                    obtain ⟨-, b2, b3⟩ := unhide H20
                    rcases unhide HPL with ⟨h0, l, hl, e⟩ | ⟨h0, e⟩
                    · obtain ⟨l', hl', r', -⟩ := b3 h0
                      have e2 := back_oneL hl hl'
                      subst e2
                      obtain ⟨_, _, e3, -⟩ := brow_shape r'
                      injection e3 with _ e4 _
                      rw [List.length_reverse] at e4
                      omega
                    · have := b2 h0
                      injection this with _ e2 _
                      omega
                  have HT20 := hide (unhide HT w20 ((unhide HW2).trans ((unhide HB20).mono (unhide HW2).size)))
                  have CR := hide (rightL (rd := 0) (wr0 := wrr) (unhide HT20).1 (unhide HT20).2.1 (unhide HT20).2.2.1 (unhide HT20).1.el)
                  obtain ⟨c0, c1, c2, c3⟩ := (unhide HT20).2.2.2.1
                  clear CA H20 HPL HT HW2
                  go_wp2_with fail
                  refine (unhide CR).mono ?_
                  rintro e w21 ⟨rfl, hb21⟩
                  obtain ⟨k5, k6, k7⟩ := unhide HK w21 ((unhide HB20).trans ((unhide hb21).mono (unhide HB20).size))
                  have HE : Hid (Below w.heap.size w w21) := (unhide HT20).2.2.2.2.trans ((unhide hb21).mono (unhide HT20).2.2.2.2.size)
                  obtain ⟨z3, z4, z5, z7, z8⟩ := unhide HZ
                  clear CR hb21 HT20 HB20 HK HZ c0 c1 c2 c3 HLN HOV
                  go_wp2_with fail
                  go_ret
                  exact ⟨rfl, unhide HE⟩
end

end Go.Proofs.YtbmcibofecigeaaGreat
