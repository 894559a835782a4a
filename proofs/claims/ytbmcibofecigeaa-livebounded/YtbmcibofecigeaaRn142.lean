/- The reference's Insert, DropVertex of layer 14. -/
import Derived.Test.YtbmcibofecigeaaG714
import Derived.Test.YtbmcibofecigeaaR10514
import Derived.Test.YtbmcibofecigeaaR10614
import Derived.Test.YtbmcibofecigeaaLvT14
import Derived.Test.YtbmcibofecigeaaLvL14
namespace Go.Proofs.Ytbmcibofecigeaa

section
open Go.RowKit Go.Maps
def oE0 : Obj := .cells #[] 42
def oEx (x : EdV) : Obj := .cells #[.int .i64 x.1, .int .i64 x.2.1, .int .i64 x.2.2.1, .int .u32 x.2.2.2] 42
theorem appE0 {W : World} {B k : Nat} (hk : ERow B W (.slice (some ⟨k, 0, none⟩) 0 0) []) (hB : B ≤ W.heap.size) {ev : Value} {es : List EdV} (hE : ERow 0 W ev es) (hl : es.length ≤ 100000) :
    ∃ a n c W', (∀ ty, (Builtin.append_ #[26, 26] ty #[.slice (some ⟨k, 0, none⟩) 0 0, ev]).run Try.prog W = .ok (.slice a n c) W') ∧ ERow B W' (.slice a n c) es ∧ Turned (fun b => b = k) W W' := by
  rcases hE.2 with ⟨e, h00⟩ | ⟨g, cap, cur, e, -⟩
  · obtain rfl := List.eq_nil_of_length_eq_zero h00
    rw [e]
    exact ⟨_, _, _, _, fun ty => run_appG_zero _ _ _ 0 0 0 (Nat.le_refl _) ty, hk, Turned.refl _ _⟩
  · rw [e] at hE ⊢
    obtain ⟨a', n', c', w', r, g1, g2, -⟩ := run_appR (ts := 26) (ad := ⟨g, 0, none⟩) (c := cap) (ys := es) kitE Try.underlying26 infoED rfl (by omega) hk hB (fun j u hj => hE.cells (g := g) rfl j u hj) (by simp; omega)
    rw [List.nil_append] at g1
    exact ⟨a', n', c', w', r, g1, g2.mono (fun b _ q => by have : k = b := Option.some.inj q; exact this.symm)⟩
theorem appEx {W : World} {B : Nat} {a : Option Addr} {n c : Nat} {es : List EdV} (h : ERow B W (.slice a n c) es) (hB : B ≤ W.heap.size) {kx : Nat} {x : EdV} (hx : W.heap[kx]? = some (oEx x)) (hl : es.length ≤ 100000) :
    ∃ a' n' c' W', (∀ ty, (Builtin.append_ #[26, 26] ty #[.slice a n c, .slice (some ⟨kx, 0, none⟩) 1 1]).run Try.prog W = .ok (.slice a' n' c') W') ∧ ERow B W' (.slice a' n' c') (es ++ [x]) ∧ Turned (fun b => (Value.slice a n c).ownBlock = some b) W W' := by
  obtain ⟨a', n', c', w', r, g1, g2, -⟩ := run_appR (ts := 26) (ad := ⟨kx, 0, none⟩) (c := 1) (ys := [x]) kitE Try.underlying26 infoED rfl (by omega) h hB (fun j u hj => by
    rw [add_off13, Nat.zero_add, cell_of_row _ _ j _ _ (0, 0) hx]
    rw [List.flatMap_cons, List.flatMap_nil, List.append_nil] at hj
    rw [← hj]; simp [encE]) (by simp; omega)
  exact ⟨a', n', c', w', r, g1, g2⟩
def InsFin (W0 : World) (es : List EdV) (v : Value) (W4 : World) : Prop := Below W0.heap.size W0 W4 ∧ ERow W0.heap.size W4 v es
theorem e0_new (W : World) : ERow W.heap.size (W.alloc oE0) (.slice (some ⟨W.heap.size, 0, none⟩) 0 0) [] := ⟨rfl, .inr ⟨W.heap.size, 0, #[], rfl, Nat.le_refl _, heap_alloc_new _ _, Nat.le_refl _, by unfold maxLen; omega, rfl, rfl⟩⟩
theorem insA {W0 : World} {ev : Value} {es : List EdV} (hE : ERow 0 W0 ev es) (hl : es.length ≤ 100000) (x : EdV) :
    ∃ a n c W2, (∀ ty, (Builtin.append_ #[26, 26] ty #[.slice (some ⟨W0.heap.size, 0, none⟩) 0 0, ev]).run Try.prog (W0.alloc oE0) = .ok (.slice a n c) W2) ∧ Below W0.heap.size W0 W2 ∧ ∃ a' n' c' W4, (∀ ty, (Builtin.append_ #[26, 26] ty #[.slice a n c, .slice (some ⟨W2.heap.size, 0, none⟩) 1 1]).run Try.prog (W2.alloc (oEx x)) = .ok (.slice a' n' c') W4) ∧ InsFin W0 (es ++ [x]) (.slice a' n' c') W4 := by
  have b1 := below_new W0 oE0
  obtain ⟨a, n, c, W2, r, g1, g2⟩ := appE0 (e0_new W0) b1.size (rrow_below hE b1) hl
  have b2 : Below W0.heap.size W0 W2 := b1.trans (g2.below b1.size (fun k e => by rw [e]; exact Nat.le_refl _))
  have b3 := below_new W2 (oEx x)
  have g1' := rrow_below g1 b3
  obtain ⟨a', n', c', W4, r2, g3, g4⟩ := appEx g1' (Nat.le_trans b2.size b3.size) (heap_alloc_new W2 (oEx x)) hl
  exact ⟨a, n, c, W2, r, b2, a', n', c', W4, r2, (b2.trans (b3.mono b2.size)).trans (g4.below (Nat.le_trans b2.size b3.size) (fun b e => (g1'.lt b e).1)), g3⟩
theorem insB {W0 : World} {ev : Value} {es : List EdV} (hE : ERow 0 W0 ev es) (hl : es.length ≤ 100000) (x : EdV) :
    ∃ a n c W2, (∀ ty, (Builtin.append_ #[26, 26] ty #[.slice (some ⟨W0.heap.size, 0, none⟩) 0 0, ev]).run Try.prog ((W0.alloc oE0).alloc (oEx x)) = .ok (.slice a n c) W2) ∧ Below W0.heap.size W0 W2 ∧ ∃ a' n' c' W4, (∀ ty, (Builtin.append_ #[26, 26] ty #[.slice a n c, .slice (some ⟨(W0.alloc oE0).heap.size, 0, none⟩) 1 1]).run Try.prog W2 = .ok (.slice a' n' c') W4) ∧ InsFin W0 (es ++ [x]) (.slice a' n' c') W4 := by
  have b0 := below_new W0 oE0
  have s0 : (W0.alloc oE0).heap.size = W0.heap.size + 1 := by simp
  have b1' := below_new (W0.alloc oE0) (oEx x)
  have b1 : Below W0.heap.size W0 ((W0.alloc oE0).alloc (oEx x)) := b0.trans (b1'.mono b0.size)
  obtain ⟨a, n, c, W2, r, g1, g2⟩ := appE0 (rrow_below (e0_new W0) b1') b1.size (rrow_below hE b1) hl
  have b2 : Below W0.heap.size W0 W2 := b1.trans (g2.below b1.size (fun k e => by rw [e]; exact Nat.le_refl _))
  have hx := heap_alloc_new (W0.alloc oE0) (oEx x)
  have hx2 := (g2.block _ (heap_lt hx) (by rw [s0]; omega)).trans hx
  obtain ⟨a', n', c', W4, r2, g3, g4⟩ := appEx g1 b2.size hx2 hl
  exact ⟨a, n, c, W2, r, b2, a', n', c', W4, r2, b2.trans (g4.below b2.size (fun b e => (g1.lt b e).1)), g3⟩
theorem insC {W0 : World} {ev : Value} {es : List EdV} (hE : ERow 0 W0 ev es) (hl : es.length ≤ 100000) (x : EdV) :
    ∃ a n c W2, (∀ ty, (Builtin.append_ #[26, 26] ty #[.slice (some ⟨(W0.alloc (oEx x)).heap.size, 0, none⟩) 0 0, ev]).run Try.prog ((W0.alloc (oEx x)).alloc oE0) = .ok (.slice a n c) W2) ∧ Below W0.heap.size W0 W2 ∧ ∃ a' n' c' W4, (∀ ty, (Builtin.append_ #[26, 26] ty #[.slice a n c, .slice (some ⟨W0.heap.size, 0, none⟩) 1 1]).run Try.prog W2 = .ok (.slice a' n' c') W4) ∧ InsFin W0 (es ++ [x]) (.slice a' n' c') W4 := by
  have b0 := below_new W0 (oEx x)
  have s0 : (W0.alloc (oEx x)).heap.size = W0.heap.size + 1 := by simp
  have b1' := below_new (W0.alloc (oEx x)) oE0
  have b1 : Below W0.heap.size W0 ((W0.alloc (oEx x)).alloc oE0) := b0.trans (b1'.mono b0.size)
  obtain ⟨a, n, c, W2, r, g1, g2⟩ := appE0 (rrow_low (e0_new (W0.alloc (oEx x))) b0.size) b1.size (rrow_below hE b1) hl
  have b2 : Below W0.heap.size W0 W2 := b1.trans (g2.below b1.size (fun k e => by rw [e]; omega))
  have hx := (b1'.block _ (heap_lt (heap_alloc_new W0 (oEx x)))).trans (heap_alloc_new W0 (oEx x))
  have hx2 := (g2.block _ (heap_lt hx) (by rw [s0]; omega)).trans hx
  obtain ⟨a', n', c', W4, r2, g3, g4⟩ := appEx g1 b2.size hx2 hl
  exact ⟨a, n, c, W2, r, b2, a', n', c', W4, r2, b2.trans (g4.below b2.size (fun b e => (g1.lt b e).1)), g3⟩
/-- The three boxes: the graph, the edge, the answer. -/
structure RW3 (w : World) (bb b1 b2 : Nat) (vv ev : Value) (rd wr e u v b : Int) (W : World) : Prop where
  box : W.heap[bb]? = some (oG vv ev rd wr)
  edg : W.heap[b1]? = some (oEd14 e u v b)
  res : W.heap[b2]? = some oZ
  low : Below bb w W
  lt1 : bb < b1
  lt2 : b1 < b2
theorem RW3.next {w W W' : World} {bb b1 b2 : Nat} {vv ev : Value} {rd wr e u v b : Int} (h : RW3 w bb b1 b2 vv ev rd wr e u v b W) (hb : Below W.heap.size W W') : RW3 w bb b1 b2 vv ev rd wr e u v b W' := by
  have h1 := heap_lt h.box
  exact ⟨(hb.block _ h1).trans h.box, (hb.block _ (heap_lt h.edg)).trans h.edg, (hb.block _ (heap_lt h.res)).trans h.res, h.low.trans (hb.mono (by omega)), h.lt1, h.lt2⟩
theorem rw3_new (w : World) (vv ev : Value) (rd wr e u v b : Int) : RW3 w w.heap.size (w.heap.size + 1) (w.heap.size + 1 + 1) vv ev rd wr e u v b (((w.alloc (oG vv ev rd wr)).alloc (oEd14 e u v b)).alloc oZ) := by
  have s1 : (w.alloc (oG vv ev rd wr)).heap.size = w.heap.size + 1 := by simp
  have s2 : ((w.alloc (oG vv ev rd wr)).alloc (oEd14 e u v b)).heap.size = w.heap.size + 1 + 1 := by simp
  have b1 := below_new w (oG vv ev rd wr)
  have b2 := below_new (w.alloc (oG vv ev rd wr)) (oEd14 e u v b)
  have b3 := below_new ((w.alloc (oG vv ev rd wr)).alloc (oEd14 e u v b)) oZ
  have n1 := heap_alloc_new w (oG vv ev rd wr)
  have n2 := heap_alloc_new (w.alloc (oG vv ev rd wr)) (oEd14 e u v b)
  have n3 := heap_alloc_new ((w.alloc (oG vv ev rd wr)).alloc (oEd14 e u v b)) oZ
  rw [s1] at n2
  rw [s2] at n3
  exact ⟨(b3.block _ (by omega)).trans ((b2.block _ (by omega)).trans n1), (b3.block _ (by omega)).trans n2, n3, b1.trans ((b2.mono (by omega)).trans (b3.mono (by omega))), by omega, by omega⟩
set_option maxHeartbeats 8000000 in
set_option maxRecDepth 100000 in
theorem refInsLow {w : World} {vv ev : Value} {rd wr_0 : Int} {vs : List Int} {es : List EdV} {e u v b : Int} (h : NRow w vv vs) (hE : ERow 0 w ev es) (_hs : vs.Pairwise (· < ·)) (_hl : vs.length ≤ 90000) (hl2 : es.length ≤ 90000) (he : e < 1) :
    Calls Try.prog 21 #[.agg #[vv, ev, .int .i64 rd, .int .i64 wr_0], .agg #[.int .i64 e, .int .i64 u, .int .i64 v, .int .u32 b]] w fun r w' => Hid (AnsX w vv ev vs es rd wr_0 (.int .i64 1) r w') := by
  have HF : Hid (∀ W, Below w.heap.size w W → NRow W vv vs ∧ ERow 0 W ev es) := fun W hW => ⟨nrow_below h hW, rrow_below hE hW⟩
  have HT0 := hide (rw3_new w vv ev rd wr_0 e u v b)
  obtain ⟨va, vc, hvv, -⟩ := brow_shape h
  obtain ⟨vn, hvv', hvn⟩ : ∃ vn, vv = .slice va vn vc ∧ vn = vs.length := ⟨_, hvv, rfl⟩
  obtain ⟨ea, ec, hev0⟩ := rrow_shape hE
  obtain ⟨en, hev⟩ : ∃ en, ev = .slice ea en ec := ⟨_, hev0⟩
  have HN : Hid (es.length ≤ 90000) := hl2
  clear h hE hvv hvn _hl hl2 _hs hev0
  subst hvv' hev
  unfold oG oEd14 oZ at HT0
  go_enter Try.func21, Try.ntmps21
  go_upto_region 1 with fail
  generalize ((w.alloc (.cells #[.slice va vn vc, .slice ea en ec, .int .i64 rd, .int .i64 wr_0] 28 (0, 0))).alloc (.cells #[.int .i64 e, .int .i64 u, .int .i64 v, .int .u32 b] 42 (0, 0))).alloc (.cells #[.slice none 0 0, .slice none 0 0, .int .i64 0, .int .i64 0] 28 (0, 0)) = wb at *
  replace HT0 : Hid (RW3 w w.heap.size (w.heap.size + 1) (w.heap.size + 1 + 1) (.slice va vn vc) (.slice ea en ec) rd wr_0 e u v b wb) := HT0
  generalize hb2 : w.heap.size + 1 + 1 = b2 at *
  generalize hb1 : w.heap.size + 1 = b1 at *
  generalize hbb : w.heap.size = bb at *
  obtain ⟨c0, c1, c2, c3, cf⟩ := cellsG (unhide HT0).box
  obtain ⟨x0, x1, x2, x3⟩ := cellsEd14 (unhide HT0).edg
  obtain ⟨d0, d1, d2, d3, df⟩ := cellsG (vv := .slice none 0 0) (ev := .slice none 0 0) (rd := 0) (wr := 0) (unhide HT0).res
  go_wp2_with fail
  (try simp only [Exit.inBlock, Exit.then])
  change bodyPost _ _ _ _ _ (set4 wb b2 _ _ _ _)
  refine bodyPost_ret (resG rfl _ _ b2 _ _ _ _ rfl (set4G_at (unhide HT0).res _ _ _ _)) rfl ?_
  have hB := set4_below (unhide HT0).low (by have := (unhide HT0).lt1; have := (unhide HT0).lt2; omega : bb ≤ b2) (.slice va vn vc) (.slice ea en ec) (.int .i64 rd) (.int .i64 wr_0)
  exact ⟨_, _, rfl, (unhide HF _ hB).1, (unhide HF _ hB).2, by first | exact hB | (rw [hbb]; exact hB), Apt.refl _ _, Apt.refl _ _⟩
set_option maxHeartbeats 8000000 in
set_option maxRecDepth 100000 in
theorem refInsTwice {w : World} {vv ev : Value} {rd wr_0 : Int} {vs : List Int} {es : List EdV} {e u v b : Int} (h : NRow w vv vs) (hE : ERow 0 w ev es) (_hs : vs.Pairwise (· < ·)) (_hl : vs.length ≤ 90000) (hl2 : es.length ≤ 90000) (he : ¬ e < 1) (ht : ∃ x ∈ es, x.1 = e) :
    Calls Try.prog 21 #[.agg #[vv, ev, .int .i64 rd, .int .i64 wr_0], .agg #[.int .i64 e, .int .i64 u, .int .i64 v, .int .u32 b]] w fun r w' => Hid (AnsX w vv ev vs es rd wr_0 (.int .i64 2) r w') := by
  have HF : Hid (∀ W, Below w.heap.size w W → NRow W vv vs ∧ ERow 0 W ev es) := fun W hW => ⟨nrow_below h hW, rrow_below hE hW⟩
  have HT0 := hide (rw3_new w vv ev rd wr_0 e u v b)
  obtain ⟨va, vc, hvv, -⟩ := brow_shape h
  obtain ⟨vn, hvv', hvn⟩ : ∃ vn, vv = .slice va vn vc ∧ vn = vs.length := ⟨_, hvv, rfl⟩
  obtain ⟨ea, ec, hev0⟩ := rrow_shape hE
  obtain ⟨en, hev⟩ : ∃ en, ev = .slice ea en ec := ⟨_, hev0⟩
  have HN : Hid (es.length ≤ 90000) := hl2
  obtain ⟨k, hat⟩ : ∃ k : Nat, atOf es e = (k : Int) := by
    obtain ⟨x, hx, hxe⟩ := ht
    unfold atOf
    exact ⟨_, place_in (by rw [← hxe]; exact List.mem_map.2 ⟨x, hx, rfl⟩)⟩
  have CA : Hid (∀ W, Below w.heap.size w W → Calls Try.prog 11 #[.agg #[vv, ev, .int .i64 rd, .int .i64 wr_0], .int .i64 e] W fun r w2 => r = .returned (.int .i64 (k : Nat)) ∧ Hid (Below W.heap.size W w2)) := fun W hW => by
    have := atR (vv := vv) (rd := rd) (wr := wr_0) (e := e) (rrow_below hE hW) (by omega)
    rwa [hat] at this
  have z1 : (k : Int) ≥ 0 := by omega
  clear ht hat
  clear h hE hvv hvn _hl hl2 _hs hev0
  subst hvv' hev
  unfold oG oEd14 oZ at HT0
  go_enter Try.func21, Try.ntmps21
  go_upto_region 1 with fail
  generalize ((w.alloc (.cells #[.slice va vn vc, .slice ea en ec, .int .i64 rd, .int .i64 wr_0] 28 (0, 0))).alloc (.cells #[.int .i64 e, .int .i64 u, .int .i64 v, .int .u32 b] 42 (0, 0))).alloc (.cells #[.slice none 0 0, .slice none 0 0, .int .i64 0, .int .i64 0] 28 (0, 0)) = wb at *
  replace HT0 : Hid (RW3 w w.heap.size (w.heap.size + 1) (w.heap.size + 1 + 1) (.slice va vn vc) (.slice ea en ec) rd wr_0 e u v b wb) := HT0
  generalize hb2 : w.heap.size + 1 + 1 = b2 at *
  generalize hb1 : w.heap.size + 1 = b1 at *
  generalize hbb : w.heap.size = bb at *
  obtain ⟨c0, c1, c2, c3, cf⟩ := cellsG (unhide HT0).box
  obtain ⟨x0, x1, x2, x3⟩ := cellsEd14 (unhide HT0).edg
  obtain ⟨d0, d1, d2, d3, df⟩ := cellsG (vv := .slice none 0 0) (ev := .slice none 0 0) (rd := 0) (wr := 0) (unhide HT0).res
  replace CA := hide (unhide CA wb (by first | exact (unhide HT0).low | (rw [hbb]; exact (unhide HT0).low)))
  go_wp2_with fail
  refine (unhide CA).mono ?_
  rintro r1 w2 ⟨rfl, hR1⟩
  have HT1 : Hid (RW3 w bb b1 b2 (.slice va vn vc) (.slice ea en ec) rd wr_0 e u v b w2) := (unhide HT0).next (unhide hR1)
  clear c0 c1 c2 c3 cf x0 x1 x2 x3 d0 d1 d2 d3 df CA hR1
  obtain ⟨c0, c1, c2, c3, cf⟩ := cellsG (unhide HT1).box
  obtain ⟨x0, x1, x2, x3⟩ := cellsEd14 (unhide HT1).edg
  obtain ⟨d0, d1, d2, d3, df⟩ := cellsG (vv := .slice none 0 0) (ev := .slice none 0 0) (rd := 0) (wr := 0) (unhide HT1).res
  go_wp2_with fail
  (try simp only [Exit.inBlock, Exit.then])
  change bodyPost _ _ _ _ _ (set4 w2 b2 _ _ _ _)
  refine bodyPost_ret (resG rfl _ _ b2 _ _ _ _ rfl (set4G_at (unhide HT1).res _ _ _ _)) rfl ?_
  have hB := set4_below (unhide HT1).low (by have := (unhide HT1).lt1; have := (unhide HT1).lt2; omega : bb ≤ b2) (.slice va vn vc) (.slice ea en ec) (.int .i64 rd) (.int .i64 wr_0)
  exact ⟨_, _, rfl, (unhide HF _ hB).1, (unhide HF _ hB).2, by first | exact hB | (rw [hbb]; exact hB), Apt.refl _ _, Apt.refl _ _⟩
end

section
open Go.RowKit Go.Maps
set_option maxHeartbeats 8000000 in
set_option maxRecDepth 100000 in
theorem refInsNoU {w : World} {vv ev : Value} {rd wr_0 : Int} {vs : List Int} {es : List EdV} {e u v b : Int} (h : NRow w vv vs) (hE : ERow 0 w ev es) (hs : vs.Pairwise (· < ·)) (hl : vs.length ≤ 90000) (hl2 : es.length ≤ 90000) (he : ¬ e < 1) (hno : ∀ x ∈ es, x.1 ≠ e) (hu : u ∉ vs) :
    Calls Try.prog 21 #[.agg #[vv, ev, .int .i64 rd, .int .i64 wr_0], .agg #[.int .i64 e, .int .i64 u, .int .i64 v, .int .u32 b]] w fun r w' => Hid (AnsX w vv ev vs es rd wr_0 (.int .i64 5) r w') := by
  have HF : Hid (∀ W, Below w.heap.size w W → NRow W vv vs ∧ ERow 0 W ev es) := fun W hW => ⟨nrow_below h hW, rrow_below hE hW⟩
  have HT0 := hide (rw3_new w vv ev rd wr_0 e u v b)
  obtain ⟨va, vc, hvv, -⟩ := brow_shape h
  obtain ⟨vn, hvv', hvn⟩ : ∃ vn, vv = .slice va vn vc ∧ vn = vs.length := ⟨_, hvv, rfl⟩
  obtain ⟨ea, ec, hev0⟩ := rrow_shape hE
  obtain ⟨en, hev⟩ : ∃ en, ev = .slice ea en ec := ⟨_, hev0⟩
  have HN : Hid (es.length ≤ 90000) := hl2
  have hat : atOf es e = -1 := by
    unfold atOf
    exact place_out (fun z => by
      obtain ⟨x, hx, hxe⟩ := List.mem_map.1 z
      exact hno x hx hxe)
  have CA : Hid (∀ W, Below w.heap.size w W → Calls Try.prog 11 #[.agg #[vv, ev, .int .i64 rd, .int .i64 wr_0], .int .i64 e] W fun r w2 => r = .returned (.int .i64 (-1)) ∧ Hid (Below W.heap.size W w2)) := fun W hW => by
    have := atR (vv := vv) (rd := rd) (wr := wr_0) (e := e) (rrow_below hE hW) (by omega)
    rwa [hat] at this
  have z1 : ¬ ((-1 : Int) ≥ 0) := by omega
  have hpu := place_out hu
  have Cu : Hid (∀ W, Below w.heap.size w W → Calls Try.prog 27 #[.agg #[vv, ev, .int .i64 rd, .int .i64 wr_0], .int .i64 u] W fun r w2 => r = .returned (.int .i64 (-1)) ∧ Hid (Below W.heap.size W w2)) := fun W hW => (placeR (ev := ev) (rd := rd) (wr := wr_0) (x := u) (nrow_below h hW) hs (by omega)).mono fun r w2 hh => ⟨by rw [hh.1, hpu], hh.2⟩
  have z2 : (-1 : Int) < 0 := by omega
  clear hno hu hat hpu
  clear h hE hvv hvn hl hl2 hs hev0
  subst hvv' hev
  unfold oG oEd14 oZ at HT0
  go_enter Try.func21, Try.ntmps21
  go_upto_region 1 with fail
  generalize ((w.alloc (.cells #[.slice va vn vc, .slice ea en ec, .int .i64 rd, .int .i64 wr_0] 28 (0, 0))).alloc (.cells #[.int .i64 e, .int .i64 u, .int .i64 v, .int .u32 b] 42 (0, 0))).alloc (.cells #[.slice none 0 0, .slice none 0 0, .int .i64 0, .int .i64 0] 28 (0, 0)) = wb at *
  replace HT0 : Hid (RW3 w w.heap.size (w.heap.size + 1) (w.heap.size + 1 + 1) (.slice va vn vc) (.slice ea en ec) rd wr_0 e u v b wb) := HT0
  generalize hb2 : w.heap.size + 1 + 1 = b2 at *
  generalize hb1 : w.heap.size + 1 = b1 at *
  generalize hbb : w.heap.size = bb at *
  obtain ⟨c0, c1, c2, c3, cf⟩ := cellsG (unhide HT0).box
  obtain ⟨x0, x1, x2, x3⟩ := cellsEd14 (unhide HT0).edg
  obtain ⟨d0, d1, d2, d3, df⟩ := cellsG (vv := .slice none 0 0) (ev := .slice none 0 0) (rd := 0) (wr := 0) (unhide HT0).res
  replace CA := hide (unhide CA wb (by first | exact (unhide HT0).low | (rw [hbb]; exact (unhide HT0).low)))
  go_wp2_with fail
  refine (unhide CA).mono ?_
  rintro r1 w2 ⟨rfl, hR1⟩
  have HT1 : Hid (RW3 w bb b1 b2 (.slice va vn vc) (.slice ea en ec) rd wr_0 e u v b w2) := (unhide HT0).next (unhide hR1)
  clear c0 c1 c2 c3 cf x0 x1 x2 x3 d0 d1 d2 d3 df CA hR1
  obtain ⟨c0, c1, c2, c3, cf⟩ := cellsG (unhide HT1).box
  obtain ⟨x0, x1, x2, x3⟩ := cellsEd14 (unhide HT1).edg
  obtain ⟨d0, d1, d2, d3, df⟩ := cellsG (vv := .slice none 0 0) (ev := .slice none 0 0) (rd := 0) (wr := 0) (unhide HT1).res
  replace Cu := hide (unhide Cu w2 (by first | exact (unhide HT1).low | (rw [hbb]; exact (unhide HT1).low)))
  go_wp2_with fail
  refine (unhide Cu).mono ?_
  rintro r1 w3 ⟨rfl, hR2⟩
  have HT2 : Hid (RW3 w bb b1 b2 (.slice va vn vc) (.slice ea en ec) rd wr_0 e u v b w3) := (unhide HT1).next (unhide hR2)
  clear c0 c1 c2 c3 cf x0 x1 x2 x3 d0 d1 d2 d3 df Cu hR2
  obtain ⟨c0, c1, c2, c3, cf⟩ := cellsG (unhide HT2).box
  obtain ⟨x0, x1, x2, x3⟩ := cellsEd14 (unhide HT2).edg
  obtain ⟨d0, d1, d2, d3, df⟩ := cellsG (vv := .slice none 0 0) (ev := .slice none 0 0) (rd := 0) (wr := 0) (unhide HT2).res
  go_wp2_with fail
  (try simp only [Exit.inBlock, Exit.then])
  change bodyPost _ _ _ _ _ (set4 w3 b2 _ _ _ _)
  refine bodyPost_ret (resG rfl _ _ b2 _ _ _ _ rfl (set4G_at (unhide HT2).res _ _ _ _)) rfl ?_
  have hB := set4_below (unhide HT2).low (by have := (unhide HT2).lt1; have := (unhide HT2).lt2; omega : bb ≤ b2) (.slice va vn vc) (.slice ea en ec) (.int .i64 rd) (.int .i64 wr_0)
  exact ⟨_, _, rfl, (unhide HF _ hB).1, (unhide HF _ hB).2, by first | exact hB | (rw [hbb]; exact hB), Apt.refl _ _, Apt.refl _ _⟩
set_option maxHeartbeats 8000000 in
set_option maxRecDepth 100000 in
theorem refInsNoV {w : World} {vv ev : Value} {rd wr_0 : Int} {vs : List Int} {es : List EdV} {e u v b : Int} (h : NRow w vv vs) (hE : ERow 0 w ev es) (hs : vs.Pairwise (· < ·)) (hl : vs.length ≤ 90000) (hl2 : es.length ≤ 90000) (he : ¬ e < 1) (hno : ∀ x ∈ es, x.1 ≠ e) (hu : u ∈ vs) (hv : v ∉ vs) :
    Calls Try.prog 21 #[.agg #[vv, ev, .int .i64 rd, .int .i64 wr_0], .agg #[.int .i64 e, .int .i64 u, .int .i64 v, .int .u32 b]] w fun r w' => Hid (AnsX w vv ev vs es rd wr_0 (.int .i64 5) r w') := by
  have HF : Hid (∀ W, Below w.heap.size w W → NRow W vv vs ∧ ERow 0 W ev es) := fun W hW => ⟨nrow_below h hW, rrow_below hE hW⟩
  have HT0 := hide (rw3_new w vv ev rd wr_0 e u v b)
  obtain ⟨va, vc, hvv, -⟩ := brow_shape h
  obtain ⟨vn, hvv', hvn⟩ : ∃ vn, vv = .slice va vn vc ∧ vn = vs.length := ⟨_, hvv, rfl⟩
  obtain ⟨ea, ec, hev0⟩ := rrow_shape hE
  obtain ⟨en, hev⟩ : ∃ en, ev = .slice ea en ec := ⟨_, hev0⟩
  have HN : Hid (es.length ≤ 90000) := hl2
  have hat : atOf es e = -1 := by
    unfold atOf
    exact place_out (fun z => by
      obtain ⟨x, hx, hxe⟩ := List.mem_map.1 z
      exact hno x hx hxe)
  have CA : Hid (∀ W, Below w.heap.size w W → Calls Try.prog 11 #[.agg #[vv, ev, .int .i64 rd, .int .i64 wr_0], .int .i64 e] W fun r w2 => r = .returned (.int .i64 (-1)) ∧ Hid (Below W.heap.size W w2)) := fun W hW => by
    have := atR (vv := vv) (rd := rd) (wr := wr_0) (e := e) (rrow_below hE hW) (by omega)
    rwa [hat] at this
  have z1 : ¬ ((-1 : Int) ≥ 0) := by omega
  obtain ⟨ku, hpu⟩ : ∃ k : Nat, placeOf vs u = (k : Int) := ⟨_, place_in hu⟩
  have Cu : Hid (∀ W, Below w.heap.size w W → Calls Try.prog 27 #[.agg #[vv, ev, .int .i64 rd, .int .i64 wr_0], .int .i64 u] W fun r w2 => r = .returned (.int .i64 (ku : Nat)) ∧ Hid (Below W.heap.size W w2)) := fun W hW => (placeR (ev := ev) (rd := rd) (wr := wr_0) (x := u) (nrow_below h hW) hs (by omega)).mono fun r w2 hh => ⟨by rw [hh.1, hpu], hh.2⟩
  have z2 : ¬ (ku : Int) < 0 := by omega
  have hpv := place_out hv
  have Cv : Hid (∀ W, Below w.heap.size w W → Calls Try.prog 27 #[.agg #[vv, ev, .int .i64 rd, .int .i64 wr_0], .int .i64 v] W fun r w2 => r = .returned (.int .i64 (-1)) ∧ Hid (Below W.heap.size W w2)) := fun W hW => (placeR (ev := ev) (rd := rd) (wr := wr_0) (x := v) (nrow_below h hW) hs (by omega)).mono fun r w2 hh => ⟨by rw [hh.1, hpv], hh.2⟩
  have z3 : (-1 : Int) < 0 := by omega
  clear hno hu hv hat hpu hpv
  clear h hE hvv hvn hl hl2 hs hev0
  subst hvv' hev
  unfold oG oEd14 oZ at HT0
  go_enter Try.func21, Try.ntmps21
  go_upto_region 1 with fail
  generalize ((w.alloc (.cells #[.slice va vn vc, .slice ea en ec, .int .i64 rd, .int .i64 wr_0] 28 (0, 0))).alloc (.cells #[.int .i64 e, .int .i64 u, .int .i64 v, .int .u32 b] 42 (0, 0))).alloc (.cells #[.slice none 0 0, .slice none 0 0, .int .i64 0, .int .i64 0] 28 (0, 0)) = wb at *
  replace HT0 : Hid (RW3 w w.heap.size (w.heap.size + 1) (w.heap.size + 1 + 1) (.slice va vn vc) (.slice ea en ec) rd wr_0 e u v b wb) := HT0
  generalize hb2 : w.heap.size + 1 + 1 = b2 at *
  generalize hb1 : w.heap.size + 1 = b1 at *
  generalize hbb : w.heap.size = bb at *
  obtain ⟨c0, c1, c2, c3, cf⟩ := cellsG (unhide HT0).box
  obtain ⟨x0, x1, x2, x3⟩ := cellsEd14 (unhide HT0).edg
  obtain ⟨d0, d1, d2, d3, df⟩ := cellsG (vv := .slice none 0 0) (ev := .slice none 0 0) (rd := 0) (wr := 0) (unhide HT0).res
  replace CA := hide (unhide CA wb (by first | exact (unhide HT0).low | (rw [hbb]; exact (unhide HT0).low)))
  go_wp2_with fail
  refine (unhide CA).mono ?_
  rintro r1 w2 ⟨rfl, hR1⟩
  have HT1 : Hid (RW3 w bb b1 b2 (.slice va vn vc) (.slice ea en ec) rd wr_0 e u v b w2) := (unhide HT0).next (unhide hR1)
  clear c0 c1 c2 c3 cf x0 x1 x2 x3 d0 d1 d2 d3 df CA hR1
  obtain ⟨c0, c1, c2, c3, cf⟩ := cellsG (unhide HT1).box
  obtain ⟨x0, x1, x2, x3⟩ := cellsEd14 (unhide HT1).edg
  obtain ⟨d0, d1, d2, d3, df⟩ := cellsG (vv := .slice none 0 0) (ev := .slice none 0 0) (rd := 0) (wr := 0) (unhide HT1).res
  replace Cu := hide (unhide Cu w2 (by first | exact (unhide HT1).low | (rw [hbb]; exact (unhide HT1).low)))
  go_wp2_with fail
  refine (unhide Cu).mono ?_
  rintro r1 w3 ⟨rfl, hR2⟩
  have HT2 : Hid (RW3 w bb b1 b2 (.slice va vn vc) (.slice ea en ec) rd wr_0 e u v b w3) := (unhide HT1).next (unhide hR2)
  clear c0 c1 c2 c3 cf x0 x1 x2 x3 d0 d1 d2 d3 df Cu hR2
  obtain ⟨c0, c1, c2, c3, cf⟩ := cellsG (unhide HT2).box
  obtain ⟨x0, x1, x2, x3⟩ := cellsEd14 (unhide HT2).edg
  obtain ⟨d0, d1, d2, d3, df⟩ := cellsG (vv := .slice none 0 0) (ev := .slice none 0 0) (rd := 0) (wr := 0) (unhide HT2).res
  replace Cv := hide (unhide Cv w3 (by first | exact (unhide HT2).low | (rw [hbb]; exact (unhide HT2).low)))
  go_wp2_with fail
  refine (unhide Cv).mono ?_
  rintro r1 w4 ⟨rfl, hR3⟩
  have HT3 : Hid (RW3 w bb b1 b2 (.slice va vn vc) (.slice ea en ec) rd wr_0 e u v b w4) := (unhide HT2).next (unhide hR3)
  clear c0 c1 c2 c3 cf x0 x1 x2 x3 d0 d1 d2 d3 df Cv hR3
  obtain ⟨c0, c1, c2, c3, cf⟩ := cellsG (unhide HT3).box
  obtain ⟨x0, x1, x2, x3⟩ := cellsEd14 (unhide HT3).edg
  obtain ⟨d0, d1, d2, d3, df⟩ := cellsG (vv := .slice none 0 0) (ev := .slice none 0 0) (rd := 0) (wr := 0) (unhide HT3).res
  go_wp2_with fail
  (try simp only [Exit.inBlock, Exit.then])
  change bodyPost _ _ _ _ _ (set4 w4 b2 _ _ _ _)
  refine bodyPost_ret (resG rfl _ _ b2 _ _ _ _ rfl (set4G_at (unhide HT3).res _ _ _ _)) rfl ?_
  have hB := set4_below (unhide HT3).low (by have := (unhide HT3).lt1; have := (unhide HT3).lt2; omega : bb ≤ b2) (.slice va vn vc) (.slice ea en ec) (.int .i64 rd) (.int .i64 wr_0)
  exact ⟨_, _, rfl, (unhide HF _ hB).1, (unhide HF _ hB).2, by first | exact hB | (rw [hbb]; exact hB), Apt.refl _ _, Apt.refl _ _⟩
set_option maxHeartbeats 8000000 in
set_option maxRecDepth 100000 in
theorem refInsBad {w : World} {vv ev : Value} {rd wr_0 : Int} {vs : List Int} {es : List EdV} {e u v b : Int} (h : NRow w vv vs) (hE : ERow 0 w ev es) (hs : vs.Pairwise (· < ·)) (hl : vs.length ≤ 90000) (hl2 : es.length ≤ 90000) (he : ¬ e < 1) (hno : ∀ x ∈ es, x.1 ≠ e) (hu : u ∈ vs) (hv : v ∈ vs) (hk : kept b = none) :
    Calls Try.prog 21 #[.agg #[vv, ev, .int .i64 rd, .int .i64 wr_0], .agg #[.int .i64 e, .int .i64 u, .int .i64 v, .int .u32 b]] w fun r w' => Hid (AnsX w vv ev vs es rd wr_0 (.int .i64 7) r w') := by
  have HF : Hid (∀ W, Below w.heap.size w W → NRow W vv vs ∧ ERow 0 W ev es) := fun W hW => ⟨nrow_below h hW, rrow_below hE hW⟩
  have HT0 := hide (rw3_new w vv ev rd wr_0 e u v b)
  obtain ⟨va, vc, hvv, -⟩ := brow_shape h
  obtain ⟨vn, hvv', hvn⟩ : ∃ vn, vv = .slice va vn vc ∧ vn = vs.length := ⟨_, hvv, rfl⟩
  obtain ⟨ea, ec, hev0⟩ := rrow_shape hE
  obtain ⟨en, hev⟩ : ∃ en, ev = .slice ea en ec := ⟨_, hev0⟩
  have HN : Hid (es.length ≤ 90000) := hl2
  have hat : atOf es e = -1 := by
    unfold atOf
    exact place_out (fun z => by
      obtain ⟨x, hx, hxe⟩ := List.mem_map.1 z
      exact hno x hx hxe)
  have CA : Hid (∀ W, Below w.heap.size w W → Calls Try.prog 11 #[.agg #[vv, ev, .int .i64 rd, .int .i64 wr_0], .int .i64 e] W fun r w2 => r = .returned (.int .i64 (-1)) ∧ Hid (Below W.heap.size W w2)) := fun W hW => by
    have := atR (vv := vv) (rd := rd) (wr := wr_0) (e := e) (rrow_below hE hW) (by omega)
    rwa [hat] at this
  have z1 : ¬ ((-1 : Int) ≥ 0) := by omega
  obtain ⟨ku, hpu⟩ : ∃ k : Nat, placeOf vs u = (k : Int) := ⟨_, place_in hu⟩
  have Cu : Hid (∀ W, Below w.heap.size w W → Calls Try.prog 27 #[.agg #[vv, ev, .int .i64 rd, .int .i64 wr_0], .int .i64 u] W fun r w2 => r = .returned (.int .i64 (ku : Nat)) ∧ Hid (Below W.heap.size W w2)) := fun W hW => (placeR (ev := ev) (rd := rd) (wr := wr_0) (x := u) (nrow_below h hW) hs (by omega)).mono fun r w2 hh => ⟨by rw [hh.1, hpu], hh.2⟩
  have z2 : ¬ (ku : Int) < 0 := by omega
  obtain ⟨kv, hpv⟩ : ∃ k : Nat, placeOf vs v = (k : Int) := ⟨_, place_in hv⟩
  have Cv : Hid (∀ W, Below w.heap.size w W → Calls Try.prog 27 #[.agg #[vv, ev, .int .i64 rd, .int .i64 wr_0], .int .i64 v] W fun r w2 => r = .returned (.int .i64 (kv : Nat)) ∧ Hid (Below W.heap.size W w2)) := fun W hW => (placeR (ev := ev) (rd := rd) (wr := wr_0) (x := v) (nrow_below h hW) hs (by omega)).mono fun r w2 hh => ⟨by rw [hh.1, hpv], hh.2⟩
  have z3 : ¬ (kv : Int) < 0 := by omega
  have CD : Hid (∀ W, Calls Try.prog 38 #[.int .u32 b] W fun r w2 => r = .returned (.tuple #[.int .u32 0, .int .i64 7]) ∧ w2 = W) := fun W => by
    have := refAdmit b W
    rw [hk] at this
    exact this
  clear hno hu hv hat hpu hpv hk
  clear h hE hvv hvn hl hl2 hs hev0
  subst hvv' hev
  unfold oG oEd14 oZ at HT0
  go_enter Try.func21, Try.ntmps21
  go_upto_region 1 with fail
  generalize ((w.alloc (.cells #[.slice va vn vc, .slice ea en ec, .int .i64 rd, .int .i64 wr_0] 28 (0, 0))).alloc (.cells #[.int .i64 e, .int .i64 u, .int .i64 v, .int .u32 b] 42 (0, 0))).alloc (.cells #[.slice none 0 0, .slice none 0 0, .int .i64 0, .int .i64 0] 28 (0, 0)) = wb at *
  replace HT0 : Hid (RW3 w w.heap.size (w.heap.size + 1) (w.heap.size + 1 + 1) (.slice va vn vc) (.slice ea en ec) rd wr_0 e u v b wb) := HT0
  generalize hb2 : w.heap.size + 1 + 1 = b2 at *
  generalize hb1 : w.heap.size + 1 = b1 at *
  generalize hbb : w.heap.size = bb at *
  obtain ⟨c0, c1, c2, c3, cf⟩ := cellsG (unhide HT0).box
  obtain ⟨x0, x1, x2, x3⟩ := cellsEd14 (unhide HT0).edg
  obtain ⟨d0, d1, d2, d3, df⟩ := cellsG (vv := .slice none 0 0) (ev := .slice none 0 0) (rd := 0) (wr := 0) (unhide HT0).res
  replace CA := hide (unhide CA wb (by first | exact (unhide HT0).low | (rw [hbb]; exact (unhide HT0).low)))
  go_wp2_with fail
  refine (unhide CA).mono ?_
  rintro r1 w2 ⟨rfl, hR1⟩
  have HT1 : Hid (RW3 w bb b1 b2 (.slice va vn vc) (.slice ea en ec) rd wr_0 e u v b w2) := (unhide HT0).next (unhide hR1)
  clear c0 c1 c2 c3 cf x0 x1 x2 x3 d0 d1 d2 d3 df CA hR1
  obtain ⟨c0, c1, c2, c3, cf⟩ := cellsG (unhide HT1).box
  obtain ⟨x0, x1, x2, x3⟩ := cellsEd14 (unhide HT1).edg
  obtain ⟨d0, d1, d2, d3, df⟩ := cellsG (vv := .slice none 0 0) (ev := .slice none 0 0) (rd := 0) (wr := 0) (unhide HT1).res
  replace Cu := hide (unhide Cu w2 (by first | exact (unhide HT1).low | (rw [hbb]; exact (unhide HT1).low)))
  go_wp2_with fail
  refine (unhide Cu).mono ?_
  rintro r1 w3 ⟨rfl, hR2⟩
  have HT2 : Hid (RW3 w bb b1 b2 (.slice va vn vc) (.slice ea en ec) rd wr_0 e u v b w3) := (unhide HT1).next (unhide hR2)
  clear c0 c1 c2 c3 cf x0 x1 x2 x3 d0 d1 d2 d3 df Cu hR2
  obtain ⟨c0, c1, c2, c3, cf⟩ := cellsG (unhide HT2).box
  obtain ⟨x0, x1, x2, x3⟩ := cellsEd14 (unhide HT2).edg
  obtain ⟨d0, d1, d2, d3, df⟩ := cellsG (vv := .slice none 0 0) (ev := .slice none 0 0) (rd := 0) (wr := 0) (unhide HT2).res
  replace Cv := hide (unhide Cv w3 (by first | exact (unhide HT2).low | (rw [hbb]; exact (unhide HT2).low)))
  go_wp2_with fail
  refine (unhide Cv).mono ?_
  rintro r1 w4 ⟨rfl, hR3⟩
  have HT3 : Hid (RW3 w bb b1 b2 (.slice va vn vc) (.slice ea en ec) rd wr_0 e u v b w4) := (unhide HT2).next (unhide hR3)
  clear c0 c1 c2 c3 cf x0 x1 x2 x3 d0 d1 d2 d3 df Cv hR3
  obtain ⟨c0, c1, c2, c3, cf⟩ := cellsG (unhide HT3).box
  obtain ⟨x0, x1, x2, x3⟩ := cellsEd14 (unhide HT3).edg
  obtain ⟨d0, d1, d2, d3, df⟩ := cellsG (vv := .slice none 0 0) (ev := .slice none 0 0) (rd := 0) (wr := 0) (unhide HT3).res
  go_wp2_with fail
  refine (unhide CD _).mono ?_
  rintro r1 w5 ⟨rfl, hw⟩
  rw [hw]
  clear CD hw w5
  go_wp2_with fail
  (try simp only [Exit.inBlock, Exit.then])
  change bodyPost _ _ _ _ _ (set4 w4 b2 _ _ _ _)
  refine bodyPost_ret (resG rfl _ _ b2 _ _ _ _ rfl (set4G_at (unhide HT3).res _ _ _ _)) rfl ?_
  have hB := set4_below (unhide HT3).low (by have := (unhide HT3).lt1; have := (unhide HT3).lt2; omega : bb ≤ b2) (.slice va vn vc) (.slice ea en ec) (.int .i64 rd) (.int .i64 wr_0)
  exact ⟨_, _, rfl, (unhide HF _ hB).1, (unhide HF _ hB).2, by first | exact hB | (rw [hbb]; exact hB), Apt.refl _ _, Apt.refl _ _⟩
end

end Go.Proofs.Ytbmcibofecigeaa
