/- One call played: its memory, what it answers. -/
import Derived.Test.YtbmcibofecigeaaRn142
import Derived.Test.YtbmcibofecigeaaG314
import Derived.Test.YtbmcibofecigeaaR10514
import Derived.Test.YtbmcibofecigeaaR10614
import Derived.Test.YtbmcibofecigeaaRn143
import Derived.Test.YtbmcibofecigeaaG414
import Derived.Test.YtbmcibofecigeaaG714
namespace Go.Proofs.Ytbmcibofecigeaa

section
open Go.RowKit Go.Maps
set_option maxHeartbeats 4000000 in
set_option maxRecDepth 100000 in
theorem refDropSrc {w : World} {vv ev : Value} {rd wr_0 : Int} {vs : List Int} {es : List EdV} {s : Int} (h : NRow w vv vs) (hE : ERow 0 w ev es) :
    Calls Try.prog 19 #[.agg #[vv, ev, .int .i64 rd, .int .i64 wr_0], .int .i64 s, .int .i64 s] w fun r w' => Hid (AnsX w vv ev vs es rd wr_0 (.bool false) r w') := by
  obtain ⟨t1, t2, t3, t4⟩ := two_boxes w (oG vv ev rd wr_0)
  obtain ⟨c0, c1, c2, c3, cf⟩ := cellsG t1
  obtain ⟨d0, d1, d2, d3, df⟩ := cellsG (b := w.heap.size + 1) (vv := .slice none 0 0) (ev := .slice none 0 0) (rd := 0) (wr := 0) t2
  have HF : Hid (∀ W, Below w.heap.size w W → NRow W vv vs ∧ ERow 0 W ev es) := fun W hW => ⟨nrow_below h hW, rrow_below hE hW⟩
  have HT0 : Hid (RW w w.heap.size (w.heap.size + 1) vv ev rd wr_0 ((w.alloc (oG vv ev rd wr_0)).alloc oZ)) := ⟨t2, t1, t3, by omega⟩
  obtain ⟨va, vc, hvv, -⟩ := brow_shape h
  obtain ⟨vn, hvv', hvn⟩ : ∃ vn, vv = .slice va vn vc ∧ vn = vs.length := ⟨_, hvv, rfl⟩
  obtain ⟨ea, ec, hev0⟩ := rrow_shape hE
  obtain ⟨en, hev⟩ : ∃ en, ev = .slice ea en ec := ⟨_, hev0⟩
  clear t1 t2 t3 t4 h hE hvv hvn hev0
  subst hvv' hev
  go_enter Try.func19, Try.ntmps19
  go_upto_region 1 with fail
  change Code.wp _ _ _ _ ((w.alloc (oG (.slice va vn vc) (.slice ea en ec) rd wr_0)).alloc oZ)
  generalize (w.alloc (oG (.slice va vn vc) (.slice ea en ec) rd wr_0)).alloc oZ = wb at *
  generalize hb1 : w.heap.size + 1 = b1 at *
  generalize hbb : w.heap.size = bb at *
  go_wp2_with fail
  (try simp only [Exit.inBlock, Exit.then])
  change bodyPost _ _ _ _ _ (set4 wb b1 _ _ _ _)
  refine bodyPost_ret (resG rfl _ _ b1 _ _ _ _ rfl (set4G_at (unhide HT0).res _ _ _ _)) rfl ?_
  have hB := set4_below (unhide HT0).low (by omega : bb ≤ b1) (.slice va vn vc) (.slice ea en ec) (.int .i64 rd) (.int .i64 wr_0)
  exact ⟨_, _, rfl, (unhide HF _ hB).1, (unhide HF _ hB).2, by first | exact hB | (rw [hbb]; exact hB), Apt.refl _ _, Apt.refl _ _⟩
set_option maxHeartbeats 4000000 in
set_option maxRecDepth 100000 in
/-- Where the vertex isn't the source: what layer 10's call answers. -/
theorem refDropOther {w : World} {vv ev : Value} {rd wr_0 : Int} {vs vs' : List Int} {es : List EdV} {s v : Int} {t : Bool} (h : NRow w vv vs) (hE : ERow 0 w ev es) (hsv : v ≠ s)
    (C : ∀ W, Below w.heap.size w W → Calls Try.prog 37 #[.agg #[vv, ev, .int .i64 rd, .int .i64 wr_0], .int .i64 v] W fun r w' => Hid (AnsX W vv ev vs' es rd wr_0 (.bool t) r w')) :
    Calls Try.prog 19 #[.agg #[vv, ev, .int .i64 rd, .int .i64 wr_0], .int .i64 s, .int .i64 v] w fun r w' => Hid (AnsX w vv ev vs' es rd wr_0 (.bool t) r w') := by
  obtain ⟨t1, t2, t3, t4⟩ := two_boxes w (oG vv ev rd wr_0)
  obtain ⟨c0, c1, c2, c3, cf⟩ := cellsG t1
  have HT0 : Hid (RW w w.heap.size (w.heap.size + 1) vv ev rd wr_0 ((w.alloc (oG vv ev rd wr_0)).alloc oZ)) := ⟨t2, t1, t3, by omega⟩
  have C1 := hide (C _ t3)
  obtain ⟨va, vc, hvv, -⟩ := brow_shape h
  obtain ⟨vn, hvv', hvn⟩ : ∃ vn, vv = .slice va vn vc ∧ vn = vs.length := ⟨_, hvv, rfl⟩
  obtain ⟨ea, ec, hev0⟩ := rrow_shape hE
  obtain ⟨en, hev⟩ : ∃ en, ev = .slice ea en ec := ⟨_, hev0⟩
  have z0 : (v == s) = false := by simpa using hsv
  have HV : Hid ((∀ b, vv.ownBlock = some b → b < w.heap.size) ∧ ∀ b, ev.ownBlock = some b → b < w.heap.size) := ⟨fun b e => (h.lt b e).2, fun b e => (hE.lt b e).2⟩
  clear t1 t2 t3 t4 h hE hvv hvn hev0 C hsv
  subst hvv' hev
  go_enter Try.func19, Try.ntmps19
  go_upto_region 1 with fail
  change Code.wp _ _ _ _ ((w.alloc (oG (.slice va vn vc) (.slice ea en ec) rd wr_0)).alloc oZ)
  generalize (w.alloc (oG (.slice va vn vc) (.slice ea en ec) rd wr_0)).alloc oZ = wb at *
  generalize hb1 : w.heap.size + 1 = b1 at *
  generalize hbb : w.heap.size = bb at *
  go_wp2_with fail
  refine (unhide C1).mono ?_
  intro r w2 H2
  obtain ⟨v2, e2, rfl, n1, n2, n3, n4, n5⟩ := unhide H2
  have HT1 := hide ((unhide HT0).next n3)
  obtain ⟨a2, cc2, hv2, -⟩ := brow_shape n1
  obtain ⟨m2', hv2'⟩ : ∃ m2, v2 = .slice a2 m2 cc2 := ⟨_, hv2⟩
  obtain ⟨a3, m3', c3', he2⟩ := grow_shape n2
  have HM : Hid (NRow w2 v2 vs' ∧ GRow 0 w2 e2 es ∧ (∀ b, v2.ownBlock = some b → (Value.slice va vn vc).ownBlock = some b ∨ wb.heap.size ≤ b) ∧ (∀ b, e2.ownBlock = some b → (Value.slice ea en ec).ownBlock = some b ∨ wb.heap.size ≤ b) ∧ b1 < wb.heap.size) := ⟨n1, n2, n4, n5, heap_lt (unhide HT0).res⟩
  obtain ⟨d0, d1, d2, d3, df⟩ := cellsG (vv := .slice none 0 0) (ev := .slice none 0 0) (rd := 0) (wr := 0) (unhide HT1).res
  clear C1 H2 n1 n2 n3 n4 n5 hv2 c0 c1 c2 c3 cf
  subst hv2' he2
  go_wp2_with fail
  (try simp only [Exit.inBlock, Exit.then])
  change bodyPost _ _ _ _ _ (set4 w2 b1 _ _ _ _)
  refine bodyPost_ret (resG rfl _ _ b1 _ _ _ _ rfl (set4G_at (unhide HT1).res _ _ _ _)) rfl ?_
  obtain ⟨m1, m2, m3, m4, m5⟩ := unhide HM
  obtain ⟨v1, v2⟩ := unhide HV
  have hlt := (unhide HT1).lt
  have hB := set4_below (unhide HT1).low (by omega : bb ≤ b1) (.slice a2 m2' cc2) (.slice a3 m3' c3') (.int .i64 rd) (.int .i64 wr_0)
  refine ⟨_, _, rfl, nrow_kept m1 (fun k e => set4_other (by
    rcases m3 k e with q | q
    · have := v1 k q; omega
    · omega) _ _ _ _), grow_kept m2 (fun k e => set4_other (by
    rcases m4 k e with q | q
    · have := v2 k q; omega
    · omega) _ _ _ _), by first | exact hB | (rw [hbb]; exact hB), fun k e => ?_, fun k e => ?_⟩
  · rcases m3 k e with q | q
    · exact .inl q
    · exact .inr (by omega)
  · rcases m4 k e with q | q
    · exact .inl q
    · exact .inr (by omega)
end

section
open Go.RowKit Go.Maps
/-- A call, in a box. -/
def oOp (k e u v b : Int) : Obj := .cells #[.int .i64 k, .int .i64 e, .int .i64 u, .int .i64 v, .int .u32 b] 33 (0, 0)
theorem cellsOp {w : World} {d : Nat} {k e u v b : Int} (h : w.heap[d]? = some (oOp k e u v b)) : w.cell? ⟨d, 0, none⟩ = some (.int .i64 k) ∧ w.cell? ⟨d, 1, none⟩ = some (.int .i64 e) ∧ w.cell? ⟨d, 2, none⟩ = some (.int .i64 u) ∧ w.cell? ⟨d, 3, none⟩ = some (.int .i64 v) ∧ w.cell? ⟨d, 4, none⟩ = some (.int .u32 b) :=
  ⟨(cell_of_row _ _ 0 _ _ (0, 0) h).trans rfl, (cell_of_row _ _ 1 _ _ (0, 0) h).trans rfl, (cell_of_row _ _ 2 _ _ (0, 0) h).trans rfl, (cell_of_row _ _ 3 _ _ (0, 0) h).trans rfl, (cell_of_row _ _ 4 _ _ (0, 0) h).trans rfl⟩
/-- The three boxes of play: the graph, the call, the answer. -/
structure PG (L0 : Lab) (w : World) (bb : Nat) (vv ev : Value) (rd wr k e u v b : Int) (L : Lab) (W : World) : Prop where
  ch : ChL L0 w L W
  box : W.heap[bb]? = some (oG vv ev rd wr)
  op : W.heap[bb + 1]? = some (oOp k e u v b)
  res : W.heap[bb + 2]? = some oZ
  l0 : L bb = none
  l1 : L (bb + 1) = none
  l2 : L (bb + 2) = none
  sz : bb = w.heap.size
/-- The graph's lists: nobody else's blocks. -/
structure RS (bb : Nat) (vv0 ev0 vv ev : Value) (vs : List Int) (gs : List EdV) (L : Lab) (W : World) : Prop where
  vs : NRow W vv vs
  gs : ERow 0 W ev gs
  lv : ∀ b, vv.ownBlock = some b → L b = none ∧ (b < bb ∨ bb + 2 < b) ∧ (vv0.ownBlock = some b ∨ bb ≤ b)
  le : ∀ b, ev.ownBlock = some b → L b = none ∧ (b < bb ∨ bb + 2 < b) ∧ (ev0.ownBlock = some b ∨ bb ≤ b)
theorem erow_kept {B : Nat} {w w' : World} {v : Value} {gs : List EdV} (h : ERow B w v gs) (hk : ∀ b, v.ownBlock = some b → w'.heap[b]? = w.heap[b]?) : ERow B w' v gs := rrow_kept h hk
section
variable {L0 L L' : Lab} {w W W' : World} {bb : Nat} {vv0 ev0 vv ev : Value} {rd wr k e u v b : Int} {vs : List Int} {gs : List EdV}
theorem PG.next (h : PG L0 w bb vv ev rd wr k e u v b L W) (hc : ChL L W L' W') : PG L0 w bb vv ev rd wr k e u v b L' W' := by
  have q0 := heap_lt h.box
  have q1 := heap_lt h.op
  have q2 := heap_lt h.res
  exact ⟨h.ch.trans hc, (hc.tur.block _ q0 (fun z => z h.l0)).trans h.box, (hc.tur.block _ q1 (fun z => z h.l1)).trans h.op, (hc.tur.block _ q2 (fun z => z h.l2)).trans h.res, (hc.lab_ _ q0).trans h.l0, (hc.lab_ _ q1).trans h.l1, (hc.lab_ _ q2).trans h.l2, h.sz⟩
theorem PG.setG (h : PG L0 w bb vv ev rd wr k e u v b L W) (v1 e1 : Value) (rd1 wr1 : Int) : PG L0 w bb v1 e1 rd1 wr1 k e u v b L (set4 W bb v1 e1 (.int .i64 rd1) (.int .i64 wr1)) := by
  have hsz := h.sz
  refine ⟨⟨h.ch.lab_, ?_⟩, set4G_at h.box _ _ _ _, (set4_other (by omega) _ _ _ _).trans h.op, (set4_other (by omega) _ _ _ _).trans h.res, h.l0, h.l1, h.l2, h.sz⟩
  have ht := h.ch.tur
  have hb := set4_below (Below.refl bb W) (Nat.le_refl bb) v1 e1 (.int .i64 rd1) (.int .i64 wr1)
  exact ⟨hb.os.trans ht.os, hb.tape.trans ht.tape, hb.output.trans ht.output, Nat.le_trans ht.size hb.size, fun b hl hn => (hb.block b (by omega)).trans (ht.block b hl hn)⟩
theorem RS.next (h : RS bb vv0 ev0 vv ev vs gs L W) (hc : ChL L W L' W') : RS bb vv0 ev0 vv ev vs gs L' W' :=
  ⟨nrow_kept h.vs (fun b e => hc.tur.block b (h.vs.lt b e).2 (fun z => z (h.lv b e).1)), erow_kept h.gs (fun b e => hc.tur.block b (h.gs.lt b e).2 (fun z => z (h.le b e).1)), fun b e => ⟨(hc.lab_ b (h.vs.lt b e).2).trans (h.lv b e).1, (h.lv b e).2⟩, fun b e => ⟨(hc.lab_ b (h.gs.lt b e).2).trans (h.le b e).1, (h.le b e).2⟩⟩
theorem RS.set {g : Nat} (h : RS bb vv0 ev0 vv ev vs gs L W) (h1 : bb ≤ g) (h2 : g ≤ bb + 2) (x1 x2 x3 x4 : Value) : RS bb vv0 ev0 vv ev vs gs L (set4 W g x1 x2 x3 x4) :=
  ⟨nrow_kept h.vs (fun x e => set4_other (by have := (h.lv x e).2.1; omega) _ _ _ _), erow_kept h.gs (fun x e => set4_other (by have := (h.le x e).2.1; omega) _ _ _ _), h.lv, h.le⟩
theorem ch_set {g : Nat} (h : ChL L0 w L W) (hg : w.heap.size ≤ g) (x1 x2 x3 x4 : Value) : ChL L0 w L (set4 W g x1 x2 x3 x4) := by
  have ht := h.tur
  have hb := set4_below (Below.refl g W) (Nat.le_refl g) x1 x2 x3 x4
  exact ⟨h.lab_, ⟨hb.os.trans ht.os, hb.tape.trans ht.tape, hb.output.trans ht.output, Nat.le_trans ht.size hb.size, fun x hl hn => (hb.block x (by omega)).trans (ht.block x hl hn)⟩⟩
end
section
variable {L : Lab} {w w' : World} {p : Nat} {s tc : Int} {vs : List Int} {gs : List EdV} {T : L14.Tr} {N : Nat}
theorem LvK.fr (h : LvK L w p s tc vs gs T N) : ∀ b, w.heap.size ≤ b → L b = none := by
  obtain ⟨mv, me, V, nv, E, ne, O, I, h1, -⟩ := h
  exact h1.fr
theorem LvK.kept (h : LvK L w p s tc vs gs T N) (hk : ∀ b, b < w.heap.size → L b ≠ none → w'.heap[b]? = w.heap[b]?) (hs : w.heap.size ≤ w'.heap.size) : LvK L w' p s tc vs gs T N := by
  obtain ⟨mv, me, V, nv, E, ne, O, I, h1, h2⟩ := h
  exact ⟨mv, me, V, nv, E, ne, O, I, ⟨h1.at_.kept hk, fun b q => h1.fr b (Nat.le_trans hs q)⟩, h2⟩
theorem LvK.set {g : Nat} (h : LvK L w p s tc vs gs T N) (hg : L g = none) (x1 x2 x3 x4 : Value) : LvK L (set4 w g x1 x2 x3 x4) p s tc vs gs T N :=
  h.kept (fun b _ hl => set4_other (fun e => hl (by rw [e]; exact hg)) _ _ _ _) (set4_below (Below.refl 0 w) (Nat.zero_le g) x1 x2 x3 x4).size
theorem LvK.vl (h : LvK L w p s tc vs gs T N) : vs.length ≤ N := by
  obtain ⟨mv, me, V, nv, E, ne, O, I, -, hG, -⟩ := h
  exact hG.vl
theorem LvK.okV (h : LvK L w p s tc vs gs T N) : ∀ v ∈ vs, okN v := by
  obtain ⟨mv, me, V, nv, E, ne, O, I, -, hG, -⟩ := h
  exact hG.okV
theorem LvK.nd (h : LvK L w p s tc vs gs T N) : vs.Nodup := by
  obtain ⟨mv, me, V, nv, E, ne, O, I, -, hG, -⟩ := h
  exact hG.nd
theorem LvK.src (h : LvK L w p s tc vs gs T N) : s ∈ vs := by
  obtain ⟨mv, me, V, nv, E, ne, O, I, -, -, hs, -⟩ := h
  exact hs
theorem LvK.un (h : LvK L w p s tc vs gs T N) : (gs.map (·.1)).Nodup := by
  obtain ⟨mv, me, V, nv, E, ne, O, I, -, -, -, -, hE, -⟩ := h
  exact hE.un
theorem LvK.lo (h : LvK L w p s tc vs gs T N) : ∀ x ∈ gs, 1 ≤ x.1 ∧ 0 ≤ x.2.2.2 ∧ x.2.2.2 < 2139095040 := by
  obtain ⟨mv, me, V, nv, E, ne, O, I, -, -, -, -, hE, -⟩ := h
  exact hE.lo
theorem LvK.ends (h : LvK L w p s tc vs gs T N) : ∀ x ∈ gs, okN x.1 ∧ x.2.1 ∈ vs ∧ x.2.2.1 ∈ vs := by
  obtain ⟨mv, me, V, nv, E, ne, O, I, -, hG, -, -, hE, -⟩ := h
  exact fun x hx => hG.ed _ _ _ _ (hE.at_ hx)
theorem LvGo.more {M : Nat} (h : LvGo L w p s tc vs gs T N w') (hm : N ≤ M) : LvGo L w p s tc vs gs T M w' := by
  obtain ⟨L', h1, h2⟩ := h
  exact ⟨L', h1.more hm, h2⟩
theorem LvK.stay {M : Nat} (h : LvK L w p s tc vs gs T N) (hw : w' = w) (hm : N ≤ M) : LvGo L w p s tc vs gs T M w' := by
  subst hw; exact ⟨L, h.more hm, ChL.refl _ _⟩
end
theorem three_boxesP (w : World) (o o2 : Obj) : (((w.alloc o).alloc o2).alloc oZ).heap[w.heap.size]? = some o ∧ (((w.alloc o).alloc o2).alloc oZ).heap[w.heap.size + 1]? = some o2 ∧ (((w.alloc o).alloc o2).alloc oZ).heap[w.heap.size + 2]? = some oZ ∧ Below w.heap.size w (((w.alloc o).alloc o2).alloc oZ) ∧ (((w.alloc o).alloc o2).alloc oZ).heap.size = w.heap.size + 3 := by
  have s1 : (w.alloc o).heap.size = w.heap.size + 1 := by simp
  have s2 : ((w.alloc o).alloc o2).heap.size = w.heap.size + 2 := by simp
  have s3 : (((w.alloc o).alloc o2).alloc oZ).heap.size = w.heap.size + 3 := by simp
  have b1 := below_new w o
  have b2 := below_new (w.alloc o) o2
  have b3 := below_new ((w.alloc o).alloc o2) oZ
  have n1 := heap_alloc_new w o
  have n2 := heap_alloc_new (w.alloc o) o2
  have n3 := heap_alloc_new ((w.alloc o).alloc o2) oZ
  rw [s1] at n2
  rw [s2] at n3
  exact ⟨(b3.block _ (by omega)).trans ((b2.block _ (by omega)).trans n1), (b3.block _ (by omega)).trans n2, n3, b1.trans ((b2.mono (by omega)).trans (b3.mono (by omega))), s3⟩
/-- What became of the tree. -/
def Bd (k e : Int) (wr wr' : Int) (vs : List Int) (gs : List EdV) (T : L14.Tr) (tc : Int) (vs' : List Int) (gs' : List EdV) (T' : L14.Tr) (tc' : Int) : Prop :=
  (gs' = gs ∧ T' = T ∧ tc' = tc ∧ wr' = wr) ∨
  (k = 3 ∧ vs' = vs ∧ (∃ x, gs' = gs ++ [x]) ∧ ∃ n : Nat, tc' = (n : Int) ∧ TouU T T' n) ∨
  (k = 4 ∧ vs' = vs ∧ wr' = wr + 1 ∧ (∃ (i : Nat) (x : EdV), gs[i]? = some x ∧ x.1 = e ∧ gs' = gs.take i ++ gs.drop (i + 1)) ∧ ∃ n : Nat, tc' = (n : Int) ∧ TouD T T' e n) ∨
  (k = 5 ∧ vs' = vs ∧ wr' = wr + 1 ∧ ∃ (i : Nat) (u v : Int) (c c2 : Nat), gs[i]? = some (e, u, v, (c : Int)) ∧ gs' = gs.set i (e, u, v, (c2 : Int)) ∧ ∃ n : Nat, tc' = (n : Int) ∧ ((c < c2 ∧ TouD T T' e n) ∨ (¬ c < c2 ∧ TouU T T' n)))
/-- A graph's lists, in order. -/
def GV (vs : List Int) (gs : List EdV) (N : Nat) : Prop := vs.Pairwise (· < ·) ∧ gs.length ≤ N
/-- What play answers. -/
def PlayAns (L : Lab) (w : World) (p : Nat) (s tc : Int) (vs : List Int) (gs : List EdV) (T : L14.Tr) (N : Nat) (vv ev : Value) (rd wr k e : Int) (r : Ending) (w' : World) : Prop :=
  ∃ vv' ev' wr' vs' gs' T' tc' L', r = .returned (.tuple #[.agg #[vv', ev', .int .i64 rd, .int .i64 wr'], .bool true]) ∧ LvK L' w' p s tc' vs' gs' T' (N + 1) ∧ GV vs' gs' (N + 1) ∧ ChL L w L' w' ∧ NRow w' vv' vs' ∧ ERow 0 w' ev' gs' ∧ (∀ b, vv'.ownBlock = some b → L' b = none ∧ (vv.ownBlock = some b ∨ w.heap.size ≤ b)) ∧ (∀ b, ev'.ownBlock = some b → L' b = none ∧ (ev.ownBlock = some b ∨ w.heap.size ≤ b)) ∧ wr ≤ wr' ∧ wr' ≤ wr + 1 ∧ Bd k e wr wr' vs gs T tc vs' gs' T' tc'
/-- What the reference's call and then the tree's call do, in one word. -/
def Pair (p : Nat) (s tc : Int) (vs : List Int) (gs : List EdV) (T : L14.Tr) (N : Nat) (wr k e : Int) (vv ev : Value) (W : World) (C : (Ending → World → Prop) → World → Prop) (x : Value) (v1 e1 : Value) (wr1 : Int) (w2 : World) : Prop :=
  ∃ vs' gs', NRow w2 v1 vs' ∧ ERow 0 w2 e1 gs' ∧ Below W.heap.size W w2 ∧ Apt W vv v1 ∧ Apt W ev e1 ∧ wr ≤ wr1 ∧ wr1 ≤ wr + 1 ∧ GV vs' gs' (N + 1) ∧
    ∀ L2 W2, LvK L2 W2 p s tc vs gs T N → C (fun r w' => r = .returned x ∧ Hid (∃ T' tc', LvGo L2 W2 p s tc' vs' gs' T' (N + 1) w' ∧ Bd k e wr wr1 vs gs T tc vs' gs' T' tc')) W2
/-- Behind all: the answer. -/
theorem play_end {L L2 L4 : Lab} {w w3 w4 : World} {p : Nat} {s tc tc' : Int} {vs vs' : List Int} {gs gs' : List EdV} {T T' : L14.Tr} {N bb : Nat} {rd wr wr1 k e u v b : Int} {vv ev v1 e1 : Value} {x1 x2 x3 x4 : Value} (hP : PG L w bb v1 e1 rd wr1 k e u v b L2 w3) (hR : RS bb vv ev v1 e1 vs' gs' L2 w3) (hK : LvK L4 w4 p s tc' vs' gs' T' (N + 1)) (hC : ChL L2 w3 L4 w4) (hG : GV vs' gs' (N + 1)) (hw1 : wr ≤ wr1) (hw2 : wr1 ≤ wr + 1) (hB : Bd k e wr wr1 vs gs T tc vs' gs' T' tc') :
    PlayAns L w p s tc vs gs T N vv ev rd wr k e (.returned (.tuple #[.agg #[v1, e1, .int .i64 rd, .int .i64 wr1], .bool true])) (set4 w4 (bb + 2) x1 x2 x3 x4) := by
  have P4 := hP.next hC
  have R4 := (hR.next hC).set (g := bb + 2) (by omega) (by omega) x1 x2 x3 x4
  exact ⟨v1, e1, wr1, vs', gs', T', tc', L4, rfl, hK.set P4.l2 _ _ _ _, hG, ch_set P4.ch (by have := P4.sz; omega) _ _ _ _, R4.vs, R4.gs, fun x hx => ⟨(R4.lv x hx).1, by rw [← P4.sz]; exact (R4.lv x hx).2.2⟩, fun x hx => ⟨(R4.le x hx).1, by rw [← P4.sz]; exact (R4.le x hx).2.2⟩, hw1, hw2, hB⟩
/-- The boxes and the rows behind the reference's call. -/
theorem play_mid {L : Lab} {w w2 : World} {bb : Nat} {vv ev v1 e1 : Value} {rd wr wr1 k e u v b : Int} {vs' : List Int} {gs' : List EdV} {wb : World} (hP : PG L w bb vv ev rd wr k e u v b L wb) (hf : ∀ b, w.heap.size ≤ b → L b = none) (hv : ∀ b, vv.ownBlock = some b → L b = none ∧ b < w.heap.size) (he : ∀ b, ev.ownBlock = some b → L b = none ∧ b < w.heap.size) (hsz : bb + 3 ≤ wb.heap.size) (n1 : NRow w2 v1 vs') (n2 : ERow 0 w2 e1 gs') (hb : Below wb.heap.size wb w2) (a1 : Apt wb vv v1) (a2 : Apt wb ev e1) :
    PG L w bb v1 e1 rd wr1 k e u v b L (set4 w2 bb v1 e1 (.int .i64 rd) (.int .i64 wr1)) ∧ RS bb vv ev v1 e1 vs' gs' L (set4 w2 bb v1 e1 (.int .i64 rd) (.int .i64 wr1)) := by
  have P2 := hP.next (ChL.below hb)
  have hs := hP.sz
  refine ⟨P2.setG v1 e1 rd wr1, RS.set (bb := bb) (g := bb) ⟨n1, n2, fun b q => ?_, fun b q => ?_⟩ (Nat.le_refl _) (by omega) _ _ _ _⟩
  · rcases a1 b q with z | z
    · have := hv b z
      exact ⟨this.1, by omega, .inl z⟩
    · exact ⟨hf b (by omega), by omega, .inr (by omega)⟩
  · rcases a2 b q with z | z
    · have := he b z
      exact ⟨this.1, by omega, .inl z⟩
    · exact ⟨hf b (by omega), by omega, .inr (by omega)⟩
end

end Go.Proofs.Ytbmcibofecigeaa
