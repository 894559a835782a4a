/- headsOf: the search made, and all of it. -/
import Derived.Test.YtkmhcgmmbkchaaaGreatPMath
import Derived.BigRegion
import Derived.Deep.LoopGhost
import Derived.Deep.OwnRows
import Derived.Laws.CopyRow
import Derived.Laws.CopyOwn
namespace Go.Proofs.YtkmhcgmmbkchaaaGreat

section
open Go.RowKit Go.Maps T9
section
variable {F : SF} {L : Nat → Nat} {s : St} {kv ov : Value} {w w' : World}
/-- All that enter does to memory. -/
theorem SMem.entered (h : SMem F L s kv ov w) {p : Nat} (hp : p < F.n) (hk : s.tl.length ≤ 1000000) (ho : s.op.length ≤ 1000000) :
    ∃ gt ct gl cl, F.tv = .slice (some ⟨gt, 0, none⟩) F.n ct ∧ F.lv = .slice (some ⟨gl, 0, none⟩) F.n cl ∧ ∃ w3 ka kn kc w4 oa on oc w6,
      w3 = (((w.setCell ⟨F.sb, 5, none⟩ (.int .i64 (s.turn + 1 : Nat))).setCell ⟨gt, p, none⟩ (.int .i64 (s.turn + 1 : Nat))).setCell ⟨gl, p, none⟩ (.int .i64 (s.turn + 1 : Nat))).drew ∧
      (w.setCell ⟨F.sb, 5, none⟩ (.int .i64 (s.turn + 1 : Nat))).heap[F.sb]? = some (oS F.nv F.hv F.tv F.lv F.rv (s.turn + 1) kv ov) ∧
      ((∀ o, (w.setCell ⟨F.sb, 5, none⟩ (.int .i64 (s.turn + 1 : Nat))).frozen? ⟨gt, o, none⟩ = false) ∧ (∀ o, (w.setCell ⟨F.sb, 5, none⟩ (.int .i64 (s.turn + 1 : Nat))).frozen? ⟨gl, o, none⟩ = false)) ∧
      ((w.setCell ⟨F.sb, 5, none⟩ (.int .i64 (s.turn + 1 : Nat))).cell? ⟨gt, p, none⟩ = some (.int .i64 (s.tu p : Nat)) ∧ (w.setCell ⟨F.sb, 5, none⟩ (.int .i64 (s.turn + 1 : Nat))).cell? ⟨gl, p, none⟩ = some (.int .i64 (s.lo p : Nat)) ∧ gt ≠ F.sb ∧ gl ≠ F.sb ∧ gt ≠ gl) ∧
      w3.heap[F.sb]? = some (oS F.nv F.hv F.tv F.lv F.rv (s.turn + 1) kv ov) ∧
      (∀ ty, (Builtin.append_ #[25, 25] ty #[kv, .slice (some ⟨w3.heap.size, 0, none⟩) 1 1]).run Tryz.prog (w3.alloc (.cells #[.int .i64 (p : Nat)] 3)) = .ok (.slice ka kn kc) w4) ∧
      w4.heap[F.sb]? = some (oS F.nv F.hv F.tv F.lv F.rv (s.turn + 1) kv ov) ∧
      (w4.setCell ⟨F.sb, 6, none⟩ (.slice ka kn kc)).heap[F.sb]? = some (oS F.nv F.hv F.tv F.lv F.rv (s.turn + 1) (.slice ka kn kc) ov) ∧
      (∀ ty, (Builtin.append_ #[25, 25] ty #[ov, .slice (some ⟨(w4.setCell ⟨F.sb, 6, none⟩ (.slice ka kn kc)).heap.size, 0, none⟩) 1 1]).run Tryz.prog ((w4.setCell ⟨F.sb, 6, none⟩ (.slice ka kn kc)).alloc (.cells #[.int .i64 (p : Nat)] 3)) = .ok (.slice oa on oc) w6) ∧
      w6.heap[F.sb]? = some (oS F.nv F.hv F.tv F.lv F.rv (s.turn + 1) (.slice ka kn kc) ov) ∧
      SM F (s.enter p) (w6.setCell ⟨F.sb, 7, none⟩ (.slice oa on oc)) := by
  obtain ⟨gt, ct, et, ft⟩ := row_slice h.tr (by omega)
  obtain ⟨gl, cl, el, fl⟩ := row_slice h.lr (by omega)
  have h1 := h.setTurn (s.turn + 1)
  have h2 := h1.setT et hp (s.turn + 1)
  have h3 := (h2.setL el hp (s.turn + 1)).drew 1
  have eL3 := h.l3 gt (by rw [et]; rfl)
  have eL4 := h.l4 gl (by rw [el]; rfl)
  have eL1 := h.l1
  obtain ⟨ka, kn, kc, w4, r4, b4, t4, n4⟩ := run_app8 (p : Int) h3.kr h3.size (by rw [bk_len]; show s.tl.length ≤ _; omega)
  rw [← bk_cons] at b4
  obtain ⟨k4, -, h5⟩ := h3.appK b4 t4 n4
  obtain ⟨oa, on, oc, w6, r6, b6, t6, n6⟩ := run_app8 (p : Int) h5.or_ h5.size (by rw [bk_len]; show s.op.length ≤ _; omega)
  rw [← bk_cons] at b6
  obtain ⟨k6, h7⟩ := h5.appO b6 t6 n6
  exact ⟨gt, ct, gl, cl, et, el, _, ka, kn, kc, w4, oa, on, oc, w6, rfl, h1.box, ⟨(ft _ h1.tr).1, (fl _ h1.lr).1⟩, ⟨(ft _ h1.tr).2 p hp, (fl _ h1.lr).2 p hp, fun e => by rw [e, eL1] at eL3; omega, fun e => by rw [e, eL1] at eL4; omega, fun e => by rw [e, eL4] at eL3; omega⟩, h3.box, r4, k4, h5.box, r6, k6, h7⟩

set_option maxHeartbeats 4000000 in
set_option maxRecDepth 100000 in
theorem enterS (h : SMem F L s kv ov w) {p : Nat} (hp : p < F.n) (_hn : F.n ≤ 1000000) (ht : s.turn ≤ 1000000) (hk : s.tl.length ≤ 1000000) (ho : s.op.length ≤ 1000000) :
    Calls Tryz.prog 116 #[.pointer (some ⟨F.sb, 0, none⟩), .int .i64 p] w fun r w' => r = .returned (.tuple #[]) ∧ Hid (SM F (s.enter p) w') := by
  obtain ⟨gt, ct, gl, cl, et, el, w3, ka, kn, kc, w4, oa, on, oc, w6, e3, k1, ⟨ft, fl⟩, ⟨q1, q2, q3, q4, q5⟩, k3, r4, k4, k5, r6, k6, hG⟩ := h.entered hp hk ho
  have HR4 := hide r4
  have HR6 := hide r6
  have HG := hide hG
  obtain ⟨-, -, -, -, -, c5, -, -, cf⟩ := cellsS h.box
  rw [et, el] at k1 k3 k4 k5 k6
  obtain ⟨-, -, d2, d3, -, d5, -, -, df⟩ := cellsS k1
  obtain ⟨-, -, -, -, -, -, x6, -, xf⟩ := cellsS k3
  obtain ⟨-, -, -, -, -, -, y6, -, yf⟩ := cellsS k4
  obtain ⟨-, -, -, -, -, -, -, z7, zf⟩ := cellsS k5
  obtain ⟨-, -, -, -, -, -, -, u7, uf⟩ := cellsS k6
  have hw1 : wrap64 ((s.turn : Int) + 1) = ((s.turn + 1 : Nat) : Int) := by unfold wrap64; omega
  have hq3 : ¬ gt = F.sb := q3
  have hq4 : ¬ gl = F.sb := q4
  have hq5 : ¬ gt = gl := q5
  have hq3' : ¬ F.sb = gt := fun e => q3 e.symm
  have hq4' : ¬ F.sb = gl := fun e => q4 e.symm
  have hq5' : ¬ gl = gt := fun e => q5 e.symm
  have hpn : (p : Int) < (F.n : Int) := by omega
  have hp0 : (0 : Int) ≤ (p : Int) := by omega
  generalize F.n = n at *
  generalize F.sb = sb at *
  generalize s.turn + 1 = t1 at *
  generalize s.turn = t0 at *
  have E3 := hide e3
  clear h hp _hn ht hk ho r4 r6 hG k1 k3 k4 k5 k6 q3 q4 q5 et el e3
  go_enter Tryz.func116, Tryz.ntmps116
  go_upto_region 1 with fail
  clear c5 cf hw1
  generalize w.setCell ⟨sb, 5, none⟩ (.int .i64 (t1 : Nat)) = w1 at *
  go_region
  clear q1 q2 ft fl
  rw [← unhide E3]
  clear d2 d3 d5 df E3
  go_upto_region 3 with (at_builtin; refine Lib.wpList_append_run _ rfl _ _ 25 25 rfl _ _ rfl rfl _ _ (unhide HR4 _) ?_)
  clear HR4 x6 xf y6 yf
  generalize w4.setCell ⟨sb, 6, none⟩ (.slice ka kn kc) = w5 at *
  go_wp2_with (at_builtin; refine Lib.wpList_append_run _ rfl _ _ 25 25 rfl _ _ rfl rfl _ _ (unhide HR6 _) ?_)
  go_end0
  exact ⟨rfl, HG⟩
end
end

section
open Go.RowKit Go.Maps T9
/-- Places as numbers. -/
def pl (l : List Nat) : List Int := l.map (fun q : Nat => (q : Int))
theorem pl_len (l : List Nat) : (pl l).length = l.length := by simp [pl]
theorem pl_at {l : List Nat} {i q : Nat} (h : l[i]? = some q) : (pl l)[i]? = some (q : Int) := by simp [pl, h]
/-- The lists of places to which arcs lead. -/
def NxAt (w : World) (nv : Value) (n : Nat) (nx : Nat → List Nat) : Prop := ∃ gn cn, nv = .slice (some ⟨gn, 0, none⟩) n cn ∧ gn < w.heap.size ∧ n ≤ cn ∧ ∀ p, p < n → ∃ v, w.cell? ⟨gn, p, none⟩ = some v ∧ NRow w v (pl (nx p))
theorem nrow_below {w w' : World} {v : Value} {ks : List Int} (h : NRow w v ks) (hb : Below w.heap.size w w') : NRow w' v ks := nrow_kept h (fun b e => hb.block b (h.lt b e).2)
theorem NxAt.arc {w w' : World} {nv : Value} {n : Nat} {nx : Nat → List Nat} (h : NxAt w nv n nx) (hb : Below w.heap.size w w') {p i q : Nat} (hp : p < n) (hq : (nx p)[i]? = some q) :
    ∃ gn cn g c, nv = .slice (some ⟨gn, 0, none⟩) n cn ∧ w'.cell? ⟨gn, p, none⟩ = some (.slice (some ⟨g, 0, none⟩) (nx p).length c) ∧ w'.cell? ⟨g, i, none⟩ = some (.int .i64 (q : Nat)) := by
  obtain ⟨gn, cn, e, hg, -, hr⟩ := h
  obtain ⟨v, hv, hr⟩ := hr p hp
  have hi : i < (nx p).length := (List.getElem?_eq_some_iff.1 hq).1
  have hr2 := nrow_below hr hb
  obtain ⟨a, c, ev, -⟩ := brow_shape hr2
  rw [pl_len] at ev
  rw [ev] at hr2
  obtain ⟨g, rfl⟩ := brow_some hr2 (by rw [pl_len]; omega)
  exact ⟨gn, cn, g, c, e, by rw [hb.cell (p := ⟨gn, p, none⟩) hg, hv, ev], brow_at hr2 (pl_at hq)⟩
/-- What tryArc does, the arc leading to q. -/
def _root_.Go.Proofs.YtkmhcgmmbkchaaaGreat.T9.St.tryStep (s : St) (a q : Nat) : St := if s.tu q = 0 then (s.tick a).enter q else if s.hd q = none then (s.tick a).lower a (min (s.lo a) (s.tu q)) else s.tick a
section
variable {L : Nat → Nat} {s : St} {kv ov nv hv tv lv rv : Value} {w w' w0 : World} {nx : Nat → List Nat} {sb n : Nat}
theorem SF.shape {F : SF} (h : SMem F L s kv ov w) (hn : 0 < F.n) : ∃ sb nv gh ch gt ct gl cl gr cr n w0, F = ⟨sb, nv, .slice (some ⟨gh, 0, none⟩) n ch, .slice (some ⟨gt, 0, none⟩) n ct, .slice (some ⟨gl, 0, none⟩) n cl, .slice (some ⟨gr, 0, none⟩) n cr, n, w0⟩ := by
  obtain ⟨gr, cr, er, -⟩ := row_slice h.rr hn
  obtain ⟨gt, ct, et, -⟩ := row_slice h.tr hn
  obtain ⟨gh, ch, eh, -⟩ := row_slice h.hr hn
  obtain ⟨gl, cl, el, -⟩ := row_slice h.lr hn
  obtain ⟨sb, nv, hv, tv, lv, rv, n, w0⟩ := F
  dsimp only at er et eh el
  exact ⟨sb, nv, gh, ch, gt, ct, gl, cl, gr, cr, n, w0, by rw [er, et, eh, el]⟩
theorem SMem.cells (h : SMem ⟨sb, nv, hv, tv, lv, rv, n, w0⟩ L s kv ov w) : w.cell? ⟨sb, 0, none⟩ = some nv ∧ w.cell? ⟨sb, 1, none⟩ = some hv ∧ w.cell? ⟨sb, 2, none⟩ = some tv ∧ w.cell? ⟨sb, 3, none⟩ = some lv ∧ w.cell? ⟨sb, 4, none⟩ = some rv ∧ w.cell? ⟨sb, 5, none⟩ = some (.int .i64 (s.turn : Nat)) ∧ w.cell? ⟨sb, 6, none⟩ = some kv ∧ w.cell? ⟨sb, 7, none⟩ = some ov ∧ ∀ o, w.frozen? ⟨sb, o, none⟩ = false := cellsS h.box
theorem SMem.atT {g c : Nat} (h : SMem ⟨sb, nv, hv, .slice (some ⟨g, 0, none⟩) n c, lv, rv, n, w0⟩ L s kv ov w) (hn : 0 < n) : (∀ o, w.frozen? ⟨g, o, none⟩ = false) ∧ (∀ p, p < n → w.cell? ⟨g, p, none⟩ = some (.int .i64 (s.tu p : Nat))) ∧ ¬ g = sb := by
  have hr : BRow w0.heap.size w (.slice (some ⟨g, 0, none⟩) n c) (rowI n (fun p => (s.tu p : Int))) := h.tr
  exact ⟨(brow_set hr (k := 0) 0 hn).1, fun p hp => brow_at hr (rowI_at _ hp), fun e => by have e1 := h.l3 g rfl; have e2 : L sb = 1 := h.l1; rw [e, e2] at e1; omega⟩
theorem SMem.atL {g c : Nat} (h : SMem ⟨sb, nv, hv, tv, .slice (some ⟨g, 0, none⟩) n c, rv, n, w0⟩ L s kv ov w) (hn : 0 < n) : (∀ o, w.frozen? ⟨g, o, none⟩ = false) ∧ (∀ p, p < n → w.cell? ⟨g, p, none⟩ = some (.int .i64 (s.lo p : Nat))) ∧ ¬ g = sb := by
  have hr : BRow w0.heap.size w (.slice (some ⟨g, 0, none⟩) n c) (rowI n (fun p => (s.lo p : Int))) := h.lr
  exact ⟨(brow_set hr (k := 0) 0 hn).1, fun p hp => brow_at hr (rowI_at _ hp), fun e => by have e1 := h.l4 g rfl; have e2 : L sb = 1 := h.l1; rw [e, e2] at e1; omega⟩
theorem SMem.atR {g c : Nat} (h : SMem ⟨sb, nv, hv, tv, lv, .slice (some ⟨g, 0, none⟩) n c, n, w0⟩ L s kv ov w) (hn : 0 < n) : (∀ o, w.frozen? ⟨g, o, none⟩ = false) ∧ (∀ p, p < n → w.cell? ⟨g, p, none⟩ = some (.int .i64 (s.tried p : Nat))) ∧ ¬ g = sb := by
  have hr : BRow w0.heap.size w (.slice (some ⟨g, 0, none⟩) n c) (rowI n (fun p => (s.tried p : Int))) := h.rr
  exact ⟨(brow_set hr (k := 0) 0 hn).1, fun p hp => brow_at hr (rowI_at _ hp), fun e => by have e1 := h.l5 g rfl; have e2 : L sb = 1 := h.l1; rw [e, e2] at e1; omega⟩
theorem SMem.atH {g c : Nat} (h : SMem ⟨sb, nv, .slice (some ⟨g, 0, none⟩) n c, tv, lv, rv, n, w0⟩ L s kv ov w) (hn : 0 < n) : (∀ o, w.frozen? ⟨g, o, none⟩ = false) ∧ (∀ p, p < n → w.cell? ⟨g, p, none⟩ = some (.int .i64 (hdI (s.hd p)))) ∧ ¬ g = sb := by
  have hr : BRow w0.heap.size w (.slice (some ⟨g, 0, none⟩) n c) (rowI n (fun p => hdI (s.hd p))) := h.hr
  exact ⟨(brow_set hr (k := 0) 0 hn).1, fun p hp => brow_at hr (rowI_at _ hp), fun e => by have e1 := h.l2 g rfl; have e2 : L sb = 1 := h.l1; rw [e, e2] at e1; omega⟩
set_option maxHeartbeats 4000000 in
set_option maxRecDepth 100000 in
theorem tryArcS {F : SF} (hN : NxAt F.w0 F.nv F.n nx) (h : SMem F L s kv ov w) {a q : Nat} (ha : a < F.n) (hq : (nx a)[s.tried a]? = some q) (hqn : q < F.n) (hn : F.n ≤ 1000000) (hl : (nx a).length ≤ 1000000) (ht : s.turn ≤ 1000000) (hk : s.tl.length ≤ 1000000) (ho : s.op.length ≤ 1000000) :
    Calls Tryz.prog 117 #[.pointer (some ⟨F.sb, 0, none⟩), .int .i64 a] w fun r w' => r = .returned (.tuple #[]) ∧ Hid (SM F (s.tryStep a q) w') := by
  obtain ⟨sb, nv, gh, ch, gt, ct, gl, cl, gr, cr, n, w0, rfl⟩ := SF.shape h (by omega)
  dsimp only at hN ha hqn hn ⊢
  have hn0 : 0 < n := by omega
  obtain ⟨gn, cn, g, c, rfl, an, ag⟩ := hN.arc h.below ha hq
  have hti : s.tried a < (nx a).length := (List.getElem?_eq_some_iff.1 hq).1
  obtain ⟨c0, -, -, -, c4, -, -, -, -⟩ := h.cells
  have ar := (h.atR hn0).2.1 a ha
  have H := hide h
  have HB := hide (And.intro ha (And.intro hqn (And.intro hn (And.intro ht (And.intro hk (And.intro ho hn0))))))
  have z1 : (a : Int) < (n : Int) := by omega
  have z2 : (q : Int) < (n : Int) := by omega
  have z3 : ((s.tried a : Nat) : Int) < ((nx a).length : Int) := by omega
  have hw1 : wrap64 (((s.tried a : Nat) : Int) + 1) = ((s.tried a + 1 : Nat) : Int) := by unfold wrap64; omega
  generalize (nx a).length = m at *
  clear hN h ha hq hqn hn hl ht hk ho hti hn0
  go_enter Tryz.func117, Tryz.ntmps117
  go_wp2_with fail
  go_quiet (fail)
  have h1 := (unhide H).drew nq
  generalize w.drewN nq = w1 at *
  clear H an ag c0 c4 ar z3
  obtain ⟨ha, hqn, hn, ht, hk, ho, hn0⟩ := unhide HB
  obtain ⟨-, -, -, -, c4, -, -, -, -⟩ := h1.cells
  obtain ⟨f4, a4, q4⟩ := h1.atR hn0
  have a4 := a4 a ha
  have h2 := h1.setR (g := gr) (m := n) (c := cr) rfl ha (s.tried a + 1)
  have h2' : SMem ⟨sb, .slice (some ⟨gn, 0, none⟩) n cn, .slice (some ⟨gh, 0, none⟩) n ch, .slice (some ⟨gt, 0, none⟩) n ct, .slice (some ⟨gl, 0, none⟩) n cl, .slice (some ⟨gr, 0, none⟩) n cr, n, w0⟩ L (s.tick a) kv ov (w1.setCell ⟨gr, a, none⟩ (.int .i64 (s.tried a + 1 : Nat))) := h2
  have H2 := hide h2'
  clear h1 h2 h2' ha hqn hn ht hk ho hn0
  generalize s.tried a + 1 = r1 at *
  go_upto_region 2 with fail
  clear c4 f4 a4 hw1 q4
  generalize w1.setCell ⟨gr, a, none⟩ (.int .i64 (r1 : Nat)) = w2 at *
  have h2 := unhide H2
  obtain ⟨ha, hqn, hn, ht, hk, ho, hn0⟩ := unhide HB
  obtain ⟨-, c1, c2, c3, -, -, -, -, cf⟩ := h2.cells
  obtain ⟨-, t2, -⟩ := h2.atT hn0
  obtain ⟨-, u2, -⟩ := h2.atH hn0
  obtain ⟨vf, v2, vq⟩ := h2.atL hn0
  have t2 : w2.cell? ⟨gt, q, none⟩ = some (.int .i64 (s.tu q : Nat)) := t2 q hqn
  have u2 : w2.cell? ⟨gh, q, none⟩ = some (.int .i64 (hdI (s.hd q))) := u2 q hqn
  have v2 : w2.cell? ⟨gl, a, none⟩ = some (.int .i64 (s.lo a : Nat)) := v2 a ha
  have CE := hide (enterS h2 hqn hn ht hk ho)
  dsimp only at CE
  have CL := hide (fun v => (h2.setL (g := gl) (m := n) (c := cl) rfl ha v).drew 1)
  clear h2 hn ht hk ho ha hqn HB hn0
  by_cases hv : s.tu q = 0
  · have e : s.tryStep a q = (s.tick a).enter q := if_pos hv
    have E := hide e
    have hz : (((s.tu q : Nat) : Int) == 0) = true := by simp [hv]
    generalize s.tu q = tq at *
    clear e hv CL u2 v2 vf c1 c3 H2
    go_wp2_with fail
    refine (unhide CE).mono ?_
    rintro r w3 ⟨rfl, hh⟩
    go_wp2_with fail
    go_end0
    exact ⟨rfl, by rw [unhide E]; exact hh⟩
  · have hz : (((s.tu q : Nat) : Int) == 0) = false := by simp; omega
    clear CE
    by_cases hh : s.hd q = none
    · have e : s.tryStep a q = (s.tick a).lower a (min (s.lo a) (s.tu q)) := (if_neg hv).trans (if_pos hh)
      have E := hide e
      have hz2 : (hdI (s.hd q) == -1) = true := by rw [hh]; rfl
      have HG := hide (unhide CL (min (s.lo a) (s.tu q)))
      have HM : Hid (min ((s.lo a : Nat) : Int) ((s.tu q : Nat) : Int) = ((min (s.lo a) (s.tu q) : Nat) : Int)) := by show min ((s.lo a : Nat) : Int) ((s.tu q : Nat) : Int) = ((min (s.lo a) (s.tu q) : Nat) : Int); omega
      generalize hm : min (s.lo a) (s.tu q) = mm at *
      generalize s.tu q = tq at *
      generalize s.lo a = la at *
      generalize hdI (s.hd q) = hx at *
      clear e hv hh CL hm H2
      go_upto_region 5 with fail
      go_region
      go_wp2_with fail
      go_end0
      exact ⟨rfl, by rw [unhide E, unhide HM]; exact ⟨_, _, _, unhide HG⟩⟩
    · have e : s.tryStep a q = s.tick a := (if_neg hv).trans (if_neg hh)
      have E := hide e
      have hz2 : (hdI (s.hd q) == -1) = false := by
        have := mt hdI_none.1 hh
        simp; exact this
      generalize s.tu q = tq at *
      generalize hdI (s.hd q) = hx at *
      clear e hv hh CL
      go_wp2_with fail
      go_end0
      exact ⟨rfl, by rw [unhide E]; exact ⟨_, _, _, unhide H2⟩⟩
end
end

section
open Go.RowKit Go.Maps T9
theorem bk_split (l1 : List Nat) (a : Nat) (op' : List Nat) : bk (l1 ++ a :: op') = bk op' ++ pl (a :: l1.reverse) := by simp [bk, pl]
/-- The least of some places. -/
theorem minOf_pl (a : Nat) (l : List Nat) : ∃ m, Lib.minOf (pl (a :: l)) = (m : Nat) ∧ m ∈ a :: l ∧ ∀ x ∈ a :: l, m ≤ x := by
  have key : ∀ (l : List Nat) (a : Nat), ∃ m : Nat, (pl l).foldl min (a : Int) = (m : Nat) ∧ m ∈ a :: l ∧ ∀ x ∈ a :: l, m ≤ x := by
    intro l
    induction l with
    | nil => intro a; exact ⟨a, rfl, by simp, fun x hx => by rw [List.mem_singleton.1 hx]; exact Nat.le_refl _⟩
    | cons y l ih =>
      intro a
      obtain ⟨m, e, hm, hl⟩ := ih (min a y)
      refine ⟨m, ?_, ?_, ?_⟩
      · show (pl l).foldl min (min (a : Int) (y : Int)) = _
        rw [show min (a : Int) (y : Int) = ((min a y : Nat) : Int) by omega]
        exact e
      · rcases List.mem_cons.1 hm with q | q
        · rcases Nat.le_total a y with g | g
          · rw [Nat.min_eq_left g] at q; rw [q]; simp
          · rw [Nat.min_eq_right g] at q; rw [q]; simp
        · simp [q]
      · intro x hx
        have h0 := hl (min a y) (by simp)
        rcases List.mem_cons.1 hx with q | q
        · rw [q]; omega
        · rcases List.mem_cons.1 q with q | q
          · rw [q]; omega
          · exact hl x (by simp [q])
  obtain ⟨m, e, hm, hl⟩ := key (a :: l) a
  refine ⟨m, e, ?_, fun x hx => hl x (by simp [hx])⟩
  rcases List.mem_cons.1 hm with q | q
  · rw [q]; simp
  · exact q
/-- The first k of Z have the head m. -/
def _root_.Go.Proofs.YtkmhcgmmbkchaaaGreat.T9.St.headed (s : St) (Z : List Nat) (m : Nat) : St := { s with hd := fun x => if x ∈ Z then some m else s.hd x }
section
variable {L : Nat → Nat} {s : St} {kv ov nv hv tv lv rv : Value} {w w' w0 : World} {nx : Nat → List Nat} {sb n : Nat}
theorem SMem.headed0 {F : SF} (h : SMem F L s kv ov w) (m : Nat) : SMem F L (s.headed [] m) kv ov w := by
  have e : s.headed [] m = s := by unfold St.headed; simp
  rw [e]; exact h
theorem SMem.headed1 {F : SF} {Z : List Nat} {m x : Nat} (h : SMem F L (s.headed Z m) kv ov w) {g k c : Nat} (e : F.hv = .slice (some ⟨g, 0, none⟩) k c) (hx : x < F.n) : SMem F L (s.headed (Z ++ [x]) m) kv ov (w.setCell ⟨g, x, none⟩ (.int .i64 (m : Nat))) := by
  have h2 : SMem F L { s with hd := fun y => if y = x then some m else if y ∈ Z then some m else s.hd y } kv ov (w.setCell ⟨g, x, none⟩ (.int .i64 (m : Nat))) := h.setH e hx m
  have ef : (fun y => if y = x then some m else if y ∈ Z then some m else s.hd y) = fun y => if y ∈ Z ++ [x] then some m else s.hd y := funext fun y => by
    by_cases q : y = x
    · rw [if_pos q, if_pos (by simp [q])]
    · rw [if_neg q]
      by_cases q2 : y ∈ Z
      · rw [if_pos q2, if_pos (by simp [q2])]
      · rw [if_neg q2, if_neg (by simp [q, q2])]
  rw [ef] at h2
  exact h2
/-- The open places as they lie. -/
theorem SMem.opens {F : SF} (h : SMem F L s kv ov w) {l1 op' : List Nat} {a : Nat} (e : s.op = l1 ++ a :: op') : ∃ go co, ov = .slice (some ⟨go, 0, none⟩) (op'.length + (l1.length + 1)) co ∧ op'.length + (l1.length + 1) ≤ co := by
  have hr := h.or_
  rw [e, bk_split] at hr
  obtain ⟨x, co, ev, hc⟩ := brow_shape hr
  have el : (bk op' ++ pl (a :: l1.reverse)).length = op'.length + (l1.length + 1) := by simp [bk_len, pl_len]
  rw [ev] at hr
  obtain ⟨go, rfl⟩ := brow_some hr (by rw [el]; omega)
  rw [el] at ev hc
  exact ⟨go, co, ev, hc⟩
theorem SMem.openAt {F : SF} {go m co : Nat} (h : SMem F L s kv (.slice (some ⟨go, 0, none⟩) m co) w) {l1 op' : List Nat} {a : Nat} (e : s.op = l1 ++ a :: op') {j z : Nat} (hj : (a :: l1.reverse)[j]? = some z) : w.cell? ⟨go, op'.length + j, none⟩ = some (.int .i64 (z : Nat)) := by
  have hr := h.or_
  rw [e, bk_split] at hr
  refine brow_at hr ?_
  rw [List.getElem?_append_right (by rw [bk_len]; omega), bk_len, Nat.add_sub_cancel_left]
  exact pl_at hj
/-- What closeFrom leaves. -/
def ClAns (F : SF) (s : St) (l1 op' : List Nat) (a : Nat) (w' : World) : Prop := ∃ m, m ∈ l1 ++ [a] ∧ (∀ x ∈ l1 ++ [a], m ≤ x) ∧ SM F (s.close m s.tl (l1 ++ [a]) op') w'
theorem clAns {F : SF} {l1 op' : List Nat} {a m go co N : Nat} (h : SMem F L (s.headed (a :: l1.reverse) m) kv (.slice (some ⟨go, 0, none⟩) N co) w) (e : s.op = l1 ++ a :: op') (hm : m ∈ a :: l1.reverse) (hl : ∀ x ∈ a :: l1.reverse, m ≤ x) :
    ClAns F s l1 op' a (w.setCell ⟨F.sb, 7, none⟩ (.slice (some ⟨go, 0, none⟩) op'.length co)) := by
  have hmem : ∀ x, x ∈ l1 ++ [a] ↔ x ∈ a :: l1.reverse := fun x => by simp [or_comm]
  have hr : BRow F.w0.heap.size w (.slice (some ⟨go, 0, none⟩) N co) (bk s.op) := h.or_
  rw [e, bk_split] at hr
  have hN : op'.length ≤ N := by
    obtain ⟨_, _, e2, -⟩ := brow_shape hr
    injection e2 with _ e3 _
    rw [e3, List.length_append, bk_len]; omega
  have h2 := brow_take hr hN
  rw [List.take_left' (bk_len op')] at h2
  have h3 : SMem F L { s with op := op', hd := fun x => if x ∈ a :: l1.reverse then some m else s.hd x } kv (.slice (some ⟨go, 0, none⟩) op'.length co) (w.setCell ⟨F.sb, 7, none⟩ (.slice (some ⟨go, 0, none⟩) op'.length co)) := h.setO (l := op') h2 (fun b eb => h.l7 b eb)
  have ef : (fun x => if x ∈ a :: l1.reverse then some m else s.hd x) = fun x => if x ∈ l1 ++ [a] then some m else s.hd x := funext fun x => by
    by_cases q : x ∈ a :: l1.reverse
    · rw [if_pos q, if_pos ((hmem x).2 q)]
    · rw [if_neg q, if_neg (fun g => q ((hmem x).1 g))]
  rw [ef] at h3
  exact ⟨m, (hmem m).2 hm, fun x hx => hl x ((hmem x).1 hx), L, kv, _, h3⟩
set_option maxHeartbeats 4000000 in
set_option maxRecDepth 100000 in
theorem closeFromS {F : SF} (h : SMem F L s kv ov w) {l1 op' : List Nat} {a : Nat} (e : s.op = l1 ++ a :: op') (ha : a ∉ l1) (hb : ∀ p ∈ s.op, p < F.n) (hn : F.n ≤ 1000000) (ho : s.op.length ≤ 1000000) :
    Calls Tryz.prog 122 #[.pointer (some ⟨F.sb, 0, none⟩), .int .i64 a] w fun r w' => r = .returned (.tuple #[]) ∧ Hid (ClAns F s l1 op' a w') := by
  have han : a < F.n := hb a (by rw [e]; simp)
  obtain ⟨sb, nv, gh, ch, gt, ct, gl, cl, gr, cr, n, w0, rfl⟩ := SF.shape h (by omega)
  dsimp only at hb hn han ⊢
  obtain ⟨go, co, rfl, hco⟩ := h.opens e
  obtain ⟨Z, hZ⟩ : ∃ Z, Z = a :: l1.reverse := ⟨_, rfl⟩
  have hZ0 : Z[0]? = some a := by rw [hZ]; rfl
  have hZk : ∀ j z, Z[j]? = some z → 0 < j → ¬ z = a := fun j z hz h0 q => by
    rw [hZ] at hz
    obtain ⟨k, rfl⟩ : ∃ k, j = k + 1 := ⟨j - 1, by omega⟩
    have := List.mem_of_getElem? hz
    rw [List.getElem?_cons_succ] at hz
    exact ha (by rw [← q]; exact List.mem_reverse.1 (List.mem_of_getElem? hz))
  have hZn : ∀ z ∈ Z, z < n := fun z hz => hb z (by rw [e]; rw [hZ] at hz; simp at hz ⊢; rcases hz with q | q <;> simp [q])
  have hZl : Z.length = l1.length + 1 := by rw [hZ]; simp
  obtain ⟨m, hm1, hm2, hm3⟩ := minOf_pl a l1.reverse
  rw [← hZ] at hm1 hm2 hm3
  have HAT : Hid (∀ st W, st.op = s.op → SMem ⟨sb, nv, .slice (some ⟨gh, 0, none⟩) n ch, .slice (some ⟨gt, 0, none⟩) n ct, .slice (some ⟨gl, 0, none⟩) n cl, .slice (some ⟨gr, 0, none⟩) n cr, n, w0⟩ L st kv (.slice (some ⟨go, 0, none⟩) (op'.length + (l1.length + 1)) co) W → ∀ j z, Z[j]? = some z → W.cell? ⟨go, op'.length + j, none⟩ = some (.int .i64 (z : Nat))) := fun st W hst hW j z hz => hW.openAt (by rw [hst]; exact e) (by rw [← hZ]; exact hz)
  have HEND : Hid (∀ W, SMem ⟨sb, nv, .slice (some ⟨gh, 0, none⟩) n ch, .slice (some ⟨gt, 0, none⟩) n ct, .slice (some ⟨gl, 0, none⟩) n cl, .slice (some ⟨gr, 0, none⟩) n cr, n, w0⟩ L (s.headed Z m) kv (.slice (some ⟨go, 0, none⟩) (op'.length + (l1.length + 1)) co) W → ClAns ⟨sb, nv, .slice (some ⟨gh, 0, none⟩) n ch, .slice (some ⟨gt, 0, none⟩) n ct, .slice (some ⟨gl, 0, none⟩) n cl, .slice (some ⟨gr, 0, none⟩) n cr, n, w0⟩ s l1 op' a (W.setCell ⟨sb, 7, none⟩ (.slice (some ⟨go, 0, none⟩) op'.length co))) := fun W hW => by
    rw [hZ] at hW hm2 hm3
    exact clAns hW e hm2 hm3
  have CM : Hid (Calls Tryz.prog 123 #[.slice (some ⟨go, op'.length, none⟩) (l1.length + 1) (co - op'.length)] w fun r w' => r = .returned (.int .i64 (m : Nat)) ∧ w' = w) := by
    refine (Tryz.slices_Min_int go op'.length (l1.length + 1) (co - op'.length) (pl Z) w (by omega) (by rw [pl_len]; omega) (by rw [e] at ho; simp at ho; omega) (fun j hj => ?_)).mono ?_
    · rw [pl_len] at hj
      have hz : Z[j]? = some Z[j] := List.getElem?_eq_getElem hj
      rw [List.getD_eq_getElem?_getD, pl_at hz]
      exact unhide HAT s w rfl h j _ hz
    · rintro r w' ⟨rfl, rfl⟩
      refine ⟨?_, rfl⟩
      rw [← hZl, ← pl_len, List.take_length, hm1]
  have hK : op'.length + (l1.length + 1) ≤ 1000000 := by rw [e] at ho; simp at ho; omega
  have H := hide h
  have HS := hide (h.headed0 m)
  have HZ := hide (And.intro hZ0 (And.intro hZk (And.intro hZn hZl)))
  obtain ⟨K, hKe⟩ : ∃ K, K = l1.length + 1 := ⟨_, rfl⟩
  obtain ⟨b0, hb0⟩ : ∃ b0, b0 = op'.length := ⟨_, rfl⟩
  rw [← hKe] at HAT HEND CM HS HZ hco hK H
  rw [← hb0] at HAT HEND CM HS hco hK H
  obtain ⟨N, hNe⟩ : ∃ N, N = b0 + K := ⟨_, rfl⟩
  rw [← hNe] at HAT HEND HS hco hK H
  have HN := hide (And.intro hNe (And.intro hco (And.intro hK (show 0 < K by omega))))
  obtain ⟨-, c1, -, -, -, -, -, c7, -⟩ := (unhide H).cells
  clear h e ha hb hn ho han hco hZ hZ0 hZk hZn hZl hm1 hm2 hm3 hKe hb0 hNe hK
  obtain ⟨N1, hN1⟩ : ∃ N1, N1 = N - 1 := ⟨_, rfl⟩
  have zN : Hid (wrap64 ((N : Int) - 1) = (N1 : Int)) := by have := unhide HN; show wrap64 ((N : Int) - 1) = (N1 : Int); unfold wrap64; omega
  have HN1 := hide hN1
  clear hN1
  have zo : (N : Int) ≤ (co : Int) := by have := unhide HN; omega
  go_enter Tryz.func122, Tryz.ntmps122
  go_upto_region 1 with fail
  go_loopw [4] (fun s4 wr => wr = w ∧ ∃ b : Nat, s4 = .int .i64 (b : Nat) ∧ b0 ≤ b ∧ b < N) (fun s4 _ => (intOf s4).toNat)
  case atStart => exact ⟨rfl, N1, by rw [unhide zN], by have := unhide HN; have := unhide HN1; omega, by have := unhide HN; have := unhide HN1; omega⟩
  case round =>
    obtain ⟨rfl, b, rfl, hb1, hb2⟩ := hrel
    obtain ⟨hZ0, hZk, hZn, hZl⟩ := unhide HZ
    by_cases h0 : b = b0
    · subst h0
      have hc := unhide HAT s wr rfl (unhide H) 0 _ hZ0
      rw [Nat.add_zero] at hc
      have z1 : (b : Int) < (N : Int) := by omega
      have z2 : (b : Int) < (co : Int) := by omega
      have z3 : ¬ b = co := by omega
      have z4 : N - b = K := by have := unhide HN; omega
      clear hZ0 hZk hZn hZl hb1 hb2
      go_upto_region 3 with fail
      go_wp2_with fail
      refine (unhide CM).mono ?_
      rintro r w' ⟨rfl, rfl⟩
      go_upto_region 5 with fail
      clear hc CM c1 c7 z4 z1 z3
      have zc : (b : Int) ≤ (co : Int) := by omega
      go_loopw [39] (fun s39 wr => ∃ k : Nat, s39 = .int .i64 (k : Nat) ∧ k ≤ K ∧ Hid (SMem ⟨sb, nv, .slice (some ⟨gh, 0, none⟩) n ch, .slice (some ⟨gt, 0, none⟩) n ct, .slice (some ⟨gl, 0, none⟩) n cl, .slice (some ⟨gr, 0, none⟩) n cr, n, w0⟩ L (s.headed (Z.take k) m) kv (.slice (some ⟨go, 0, none⟩) N co) wr)) (fun s39 _ => K - (intOf s39).toNat)
      case atStart => exact ⟨0, rfl, Nat.zero_le _, HS⟩
      case round =>
        obtain ⟨k, rfl, hk, hW⟩ := hrel
        obtain ⟨hZ0, hZk, hZn, hZl⟩ := unhide HZ
        obtain ⟨-, c1, -, -, -, -, -, c7, cf⟩ := (unhide hW).cells
        by_cases hlt : k < K
        · have hz : Z[k]? = some Z[k] := List.getElem?_eq_getElem (by omega)
          have hzn := hZn Z[k] (List.mem_of_getElem? hz)
          have hc := unhide HAT _ wr (show (s.headed (Z.take k) m).op = s.op from rfl) (unhide hW) k _ hz
          have h3 := (unhide hW).headed1 (g := gh) (k := n) (c := ch) rfl hzn
          rw [show Z.take k ++ [Z[k]] = Z.take (k + 1) from (List.take_append_getElem (by omega))] at h3
          obtain ⟨f1, f2, f3⟩ := (unhide hW).atH (by omega)
          obtain ⟨x0, f2⟩ : ∃ x0 : Int, wr.cell? ⟨gh, Z[k], none⟩ = some (.int .i64 x0) := ⟨_, f2 _ hzn⟩
          have H3 := hide h3
          have z5 : (k : Int) < (K : Int) := by omega
          have z6 : ((Z[k] : Nat) : Int) < (n : Int) := by omega
          obtain ⟨k1, hk1⟩ : ∃ k1, k1 = k + 1 := ⟨_, rfl⟩
          have zw : Hid (wrap64 ((k : Int) + 1) = (k1 : Int)) := by have := unhide HN; show wrap64 ((k : Int) + 1) = (k1 : Int); unfold wrap64; omega
          rw [← hk1] at H3
          have HJ : Hid (k1 ≤ K ∧ K - k1 < K - k) := ⟨by omega, by omega⟩
          generalize Z[k] = zk at *
          clear h3 hz hzn hZ0 hZk hZn hZl hW hk hlt hk1 HS c7
          go_wp2_with fail
          rw [unhide zw]
          exact ⟨⟨k1, rfl, (unhide HJ).1, H3⟩, by have := (unhide HJ).2; simp [intOf]; omega⟩
        · have z5 : ¬ (k : Int) < (K : Int) := by omega
          obtain rfl : k = K := by omega
          rw [List.take_of_length_le (by omega)] at hW
          have HG := hide (unhide HEND wr (unhide hW))
          clear hZ0 hZk hZn hZl hW hk hlt HS HEND c1
          go_wp2_with fail
          go_end0
          exact ⟨rfl, HG⟩
    · obtain ⟨j, hj⟩ : ∃ j, b = b0 + j := ⟨b - b0, by omega⟩
      have hjl : j < Z.length := by have := unhide HN; omega
      have hz : Z[j]? = some Z[j] := List.getElem?_eq_getElem hjl
      have hc := unhide HAT s wr rfl (unhide H) j _ hz
      rw [← hj] at hc
      have z1 : (b : Int) < (N : Int) := by omega
      have hza := hZk j _ hz (by omega)
      have z2' : (((Z[j] : Nat) : Int) == (a : Int)) = false := by simp; omega
      obtain ⟨b1, hb1'⟩ : ∃ b1, b1 = b - 1 := ⟨_, rfl⟩
      have zw : Hid (wrap64 ((b : Int) - 1) = (b1 : Int)) := by have := unhide HN; show wrap64 ((b : Int) - 1) = (b1 : Int); unfold wrap64; omega
      have HJ : Hid (b0 ≤ b1 ∧ b1 < N ∧ b1 < b) := ⟨by omega, by omega, by omega⟩
      generalize Z[j] = zj at *
      clear hz hza hjl hZ0 hZk hZn hZl hb1 hb2 h0 hj hb1'
      go_wp2_with fail
      rw [unhide zw]
      exact ⟨⟨trivial, b1, rfl, (unhide HJ).1, (unhide HJ).2.1⟩, by have := (unhide HJ).2.2; simp [intOf]; omega⟩
end
end

section
open Go.RowKit Go.Maps T9
section
variable {L : Nat → Nat} {s : St} {kv ov nv hv tv lv rv : Value} {w w' w0 : World} {nx : Nat → List Nat} {sb n : Nat}
theorem SMem.trailAt {F : SF} (h : SMem F L s kv ov w) {rest : List Nat} {a : Nat} (e : s.tl = a :: rest) : ∃ gk ck, kv = .slice (some ⟨gk, 0, none⟩) (rest.length + 1) ck ∧ rest.length + 1 ≤ ck ∧ w.cell? ⟨gk, rest.length, none⟩ = some (.int .i64 (a : Nat)) := by
  have hr := h.kr
  rw [e] at hr
  obtain ⟨x, ck, ev, hc⟩ := brow_shape hr
  rw [bk_len] at ev hc
  rw [ev] at hr
  obtain ⟨gk, rfl⟩ := brow_some hr (by rw [bk_len]; simp)
  exact ⟨gk, ck, by rw [ev]; rfl, by simpa using hc, brow_at hr (bk_top a rest)⟩
theorem SMem.cutTrail {F : SF} {gk m ck : Nat} (h : SMem F L s (.slice (some ⟨gk, 0, none⟩) m ck) ov w) {rest : List Nat} {a : Nat} (e : s.tl = a :: rest) (hm : rest.length ≤ m) : SMem F L { s with tl := rest } (.slice (some ⟨gk, 0, none⟩) rest.length ck) ov (w.setCell ⟨F.sb, 6, none⟩ (.slice (some ⟨gk, 0, none⟩) rest.length ck)) := by
  have hr := h.kr
  rw [e] at hr
  have h2 := brow_take hr hm
  rw [bk_take] at h2
  exact h.setK h2 (fun b eb => h.l6 b eb)
set_option maxHeartbeats 4000000 in
set_option maxRecDepth 100000 in
theorem leaveShut {F : SF} (h : SMem F L s kv ov w) {a : Nat} {rest l1 op' : List Nat} (ht : s.tl = a :: rest) (e : s.op = l1 ++ a :: op') (hla : s.lo a = s.tu a) (ha : a ∉ l1) (hb : ∀ p ∈ s.op, p < F.n) (hn : F.n ≤ 1000000) (ho : s.op.length ≤ 1000000) (hk : s.tl.length ≤ 1000000) :
    Calls Tryz.prog 118 #[.pointer (some ⟨F.sb, 0, none⟩), .int .i64 a] w fun r w' => r = .returned (.tuple #[]) ∧ Hid (∃ m, m ∈ l1 ++ [a] ∧ (∀ x ∈ l1 ++ [a], m ≤ x) ∧ SM F (s.close m rest (l1 ++ [a]) op') w') := by
  have han : a < F.n := hb a (by rw [e]; simp)
  obtain ⟨sb, nv, gh, ch, gt, ct, gl, cl, gr, cr, n, w0, rfl⟩ := SF.shape h (by omega)
  obtain ⟨gk, ck, rfl, hck, -⟩ := h.trailAt ht
  obtain ⟨w1, E3⟩ : ∃ w1, w1 = (w.setCell ⟨sb, 6, none⟩ (.slice (some ⟨gk, 0, none⟩) rest.length ck)).drew := ⟨_, rfl⟩
  have h1 : SMem ⟨sb, nv, .slice (some ⟨gh, 0, none⟩) n ch, .slice (some ⟨gt, 0, none⟩) n ct, .slice (some ⟨gl, 0, none⟩) n cl, .slice (some ⟨gr, 0, none⟩) n cr, n, w0⟩ L { s with tl := rest } (.slice (some ⟨gk, 0, none⟩) rest.length ck) ov w1 := by rw [E3]; exact (h.cutTrail ht (by omega)).drew 1
  dsimp only at han hn hb ⊢
  have hn0 : 0 < n := by omega
  obtain ⟨-, -, -, -, -, -, c6, -, cf⟩ := h.cells
  have CC : Hid (∀ q, Calls Tryz.prog 122 #[.pointer (some ⟨sb, 0, none⟩), .int .i64 a] (w1.drewN q) fun r w' => r = .returned (.tuple #[]) ∧ Hid (ClAns ⟨sb, nv, .slice (some ⟨gh, 0, none⟩) n ch, .slice (some ⟨gt, 0, none⟩) n ct, .slice (some ⟨gl, 0, none⟩) n cl, .slice (some ⟨gr, 0, none⟩) n cr, n, w0⟩ { s with tl := rest } l1 op' a w')) := fun q => closeFromS (h1.drew q) e ha hb hn ho
  have zr : rest.length + 1 ≤ 1000000 := by rw [ht] at hk; simpa using hk
  obtain ⟨R1, hR1⟩ : ∃ R1, R1 = rest.length + 1 := ⟨_, rfl⟩
  have hw1 : IntKind.i64.wrap ((R1 : Int) - 1) = (rest.length : Int) := by rw [IntKind.wrap_i64]; omega
  have z1 : (rest.length : Int) ≤ (ck : Int) := by omega
  have z2 : (a : Int) < (n : Int) := by omega
  rw [← hR1] at c6
  obtain ⟨-, -, d2, d3, -, -, -, -, df⟩ := h1.cells
  have t1 : w1.cell? ⟨gt, a, none⟩ = some (.int .i64 (s.tu a : Nat)) := (h1.atT hn0).2.1 a han
  have l1' : w1.cell? ⟨gl, a, none⟩ = some (.int .i64 (s.lo a : Nat)) := (h1.atL hn0).2.1 a han
  rw [hla] at l1'
  generalize s.tu a = ta at *
  generalize rest.length = R at *
  have HE3 := hide E3
  clear h h1 ht e hla ha hb hn ho hk han hck hn0 zr hR1 E3
  go_enter Tryz.func118, Tryz.ntmps118
  go_wp2_with fail
  go_region
  rw [← unhide HE3]
  clear c6 cf hw1
  go_wp2_with fail
  go_quiet (fail)
  go_wp2_with fail
  refine (unhide CC _).mono ?_
  rintro r w2 ⟨rfl, hh⟩
  go_wp2_with fail
  refine bodyPost_ret (results_none rfl _ _ _) rfl ?_
  obtain ⟨m, m1, m2, m3⟩ := unhide hh
  exact ⟨rfl, m, m1, m2, m3⟩
set_option maxHeartbeats 4000000 in
set_option maxRecDepth 100000 in
theorem leaveBack {F : SF} (h : SMem F L s kv ov w) {a b : Nat} {rest : List Nat} (ht : s.tl = a :: b :: rest) (hla : s.lo a ≠ s.tu a) (ha : a < F.n) (hb : b < F.n) (hn : F.n ≤ 1000000) (hk : s.tl.length ≤ 1000000) :
    Calls Tryz.prog 118 #[.pointer (some ⟨F.sb, 0, none⟩), .int .i64 a] w fun r w' => r = .returned (.tuple #[]) ∧ Hid (SM F (s.back b (min (s.lo b) (s.lo a)) rest) w') := by
  obtain ⟨sb, nv, gh, ch, gt, ct, gl, cl, gr, cr, n, w0, rfl⟩ := SF.shape h (by omega)
  obtain ⟨gk, ck, rfl, hck, -⟩ := h.trailAt ht
  obtain ⟨w1, E3⟩ : ∃ w1, w1 = (w.setCell ⟨sb, 6, none⟩ (.slice (some ⟨gk, 0, none⟩) (b :: rest).length ck)).drew := ⟨_, rfl⟩
  have h1 : SMem ⟨sb, nv, .slice (some ⟨gh, 0, none⟩) n ch, .slice (some ⟨gt, 0, none⟩) n ct, .slice (some ⟨gl, 0, none⟩) n cl, .slice (some ⟨gr, 0, none⟩) n cr, n, w0⟩ L { s with tl := b :: rest } (.slice (some ⟨gk, 0, none⟩) (b :: rest).length ck) ov w1 := by rw [E3]; exact (h.cutTrail ht (by omega)).drew 1
  obtain ⟨_, _, e1, -, x1⟩ := h1.trailAt (a := b) (rest := rest) rfl
  injection e1 with e1 e2 e3
  injection e1 with e1
  injection e1 with e1
  subst e1 e3
  dsimp only at ha hb hn ⊢
  have hn0 : 0 < n := by omega
  obtain ⟨-, -, -, -, -, -, c6, -, cf⟩ := h.cells
  have zr : rest.length + 2 ≤ 1000000 := by rw [ht] at hk; simpa using hk
  obtain ⟨R1, hR1⟩ : ∃ R1, R1 = (b :: rest).length := ⟨_, rfl⟩
  obtain ⟨R2, hR2⟩ : ∃ R2, R2 = R1 + 1 := ⟨_, rfl⟩
  have hR1' : R1 = rest.length + 1 := by rw [hR1]; rfl
  have hw1 : IntKind.i64.wrap ((R2 : Int) - 1) = (R1 : Int) := by rw [IntKind.wrap_i64]; omega
  have hw2 : IntKind.i64.wrap ((R1 : Int) - 1) = (rest.length : Int) := by rw [IntKind.wrap_i64]; omega
  have z1 : (R1 : Int) ≤ (ck : Int) := by omega
  have z2 : (a : Int) < (n : Int) := by omega
  have z3 : (b : Int) < (n : Int) := by omega
  have z4 : (rest.length : Int) < (R1 : Int) := by omega
  rw [← hR1, ← hR2] at c6
  rw [← hR1] at h1 E3
  obtain ⟨-, -, d2, d3, -, -, d6, -, df⟩ := h1.cells
  obtain ⟨y1, y2, y3⟩ := h1.atL hn0
  have t1 : w1.cell? ⟨gt, a, none⟩ = some (.int .i64 (s.tu a : Nat)) := (h1.atT hn0).2.1 a ha
  have l1' : w1.cell? ⟨gl, a, none⟩ = some (.int .i64 (s.lo a : Nat)) := y2 a ha
  have hz : (((s.lo a : Nat) : Int) == ((s.tu a : Nat) : Int)) = false := by simp; omega
  have H1 := hide h1
  have HB := hide (And.intro ha (And.intro hb hn0))
  have HM : Hid (min ((s.lo b : Nat) : Int) ((s.lo a : Nat) : Int) = ((min (s.lo b) (s.lo a) : Nat) : Int)) := by show min ((s.lo b : Nat) : Int) ((s.lo a : Nat) : Int) = ((min (s.lo b) (s.lo a) : Nat) : Int); omega
  obtain ⟨R, hR⟩ : ∃ R, R = rest.length := ⟨_, rfl⟩
  rw [← hR] at hw2 z4 x1
  generalize hmm : min (s.lo b) (s.lo a) = mm at *
  have HE3 := hide E3
  clear h h1 ht hla hn hk hck hn0 zr hR1 hR1' hR2 y1 y2 y3 e2 hR E3
  go_enter Tryz.func118, Tryz.ntmps118
  go_wp2_with fail
  go_region
  rw [← unhide HE3]
  clear c6 cf hw1
  go_wp2_with fail
  go_quiet (fail)
  go_wp2_with fail
  have h2 := (unhide H1).drew nq
  have x2 : (w1.drewN nq).cell? ⟨gk, R, none⟩ = some (.int .i64 (b : Nat)) := x1
  clear H1 x1 d2 d3 d6 df t1 l1' hz HE3
  generalize w1.drewN nq = w2 at *
  obtain ⟨-, -, -, -, -, -, d6, -, -⟩ := h2.cells
  have H2 := hide h2
  clear h2
  go_quiet (fail)
  have h3 := (unhide H2).drew nq
  clear H2 x2 d6 hw2
  generalize w2.drewN nq = w3 at *
  obtain ⟨ha, hb, hn0⟩ := unhide HB
  obtain ⟨-, -, -, d3, -, -, -, -, df⟩ := h3.cells
  obtain ⟨y1, y2, y3⟩ := h3.atL hn0
  have ya : w3.cell? ⟨gl, a, none⟩ = some (.int .i64 (s.lo a : Nat)) := y2 a ha
  have yb : w3.cell? ⟨gl, b, none⟩ = some (.int .i64 (s.lo b : Nat)) := y2 b hb
  have HG := hide ((h3.setL (g := gl) (m := n) (c := cl) rfl hb mm).drew 1)
  generalize s.lo a = la at *
  generalize s.lo b = lb at *
  clear h3 ha hb hn0 y2 HB z4 hmm
  go_wp2_with fail
  go_region
  go_wp2_with fail
  go_end0
  exact ⟨rfl, by rw [unhide HM]; exact ⟨_, _, _, unhide HG⟩⟩
end
end

section
open Go.RowKit Go.Maps T9
namespace T9
section
variable {nx : Nat → List Nat} {s : St}
theorem Inv.tryStep (h : Inv nx s) {a q : Nat} {rest : List Nat} (ht : s.tl = a :: rest) (hq : (nx a)[s.tried a]? = some q) : Inv nx (s.tryStep a q) := by
  unfold St.tryStep
  by_cases hv : s.tu q = 0
  · rw [if_pos hv]; exact h.tryNew ht hq hv
  · rw [if_neg hv]
    by_cases hh : s.hd q = none
    · rw [if_pos hh]; exact h.tryOpen ht hq hv hh
    · rw [if_neg hh]; exact h.tryShut ht hq hv hh
theorem todo_tryStep {n a q : Nat} (ha : a < n) (hl : s.tried a < (nx a).length) (hq : q < n) : (s.tryStep a q).todo nx n < s.todo nx n := by
  have h1 := todo_tick (s := s) (nx := nx) ha hl
  unfold St.tryStep
  by_cases hv : s.tu q = 0
  · rw [if_pos hv]
    have h2 := todo_enter (s := s.tick a) (nx := nx) hq hv
    omega
  · rw [if_neg hv]
    by_cases hh : s.hd q = none
    · rw [if_pos hh, todo_lower]; omega
    · rw [if_neg hh]; omega
theorem cnt_tryStep {n a q : Nat} (h : s.Cnt n) (hq : q < n) : (s.tryStep a q).Cnt n := by
  unfold St.tryStep
  by_cases hv : s.tu q = 0
  · rw [if_pos hv]; exact cnt_enter (s := s.tick a) h hq hv
  · rw [if_neg hv]
    by_cases hh : s.hd q = none
    · rw [if_pos hh]; exact h
    · rw [if_neg hh]; exact h
theorem seen_enter {p x : Nat} (hx : s.tu x ≠ 0) : (s.enter p).tu x ≠ 0 := by
  show up s.tu p (s.turn + 1) x ≠ 0
  unfold up
  by_cases e : x = p
  · rw [if_pos e]; omega
  · rw [if_neg e]; exact hx
theorem seen_tryStep {a q x : Nat} (hx : s.tu x ≠ 0) : (s.tryStep a q).tu x ≠ 0 := by
  unfold St.tryStep
  by_cases hv : s.tu q = 0
  · rw [if_pos hv]; exact seen_enter (s := s.tick a) hx
  · rw [if_neg hv]
    by_cases hh : s.hd q = none
    · rw [if_pos hh]; exact hx
    · rw [if_neg hh]; exact hx
/-- Amid a search. -/
def Amid (nx : Nat → List Nat) (n : Nat) (s0 s : St) : Prop := Inv nx s ∧ s.Cnt n ∧ ∀ x, s0.tu x ≠ 0 → s.tu x ≠ 0
theorem Amid.small {n : Nat} {s0 : St} (h : Amid nx n s0 s) (hn : n ≤ 1000000) : s.turn ≤ 1000000 ∧ s.tl.length ≤ 1000000 ∧ s.op.length ≤ 1000000 := by
  obtain ⟨h1, h2⟩ := h.1.fewOpen
  have := h.2.1.1
  omega
end
end T9
theorem NxAt.len {w w' : World} {nv : Value} {n : Nat} {nx : Nat → List Nat} (h : NxAt w nv n nx) (hb : Below w.heap.size w w') {p : Nat} (hp : p < n) :
    ∃ gn cn x c, nv = .slice (some ⟨gn, 0, none⟩) n cn ∧ w'.cell? ⟨gn, p, none⟩ = some (.slice x (nx p).length c) := by
  obtain ⟨gn, cn, e, hg, -, hr⟩ := h
  obtain ⟨v, hv, hr⟩ := hr p hp
  obtain ⟨x, c, ev, -⟩ := brow_shape hr
  rw [pl_len] at ev
  exact ⟨gn, cn, x, c, e, by rw [hb.cell (p := ⟨gn, p, none⟩) hg, hv, ev]⟩
section
variable {L : Nat → Nat} {s : St} {kv ov nv hv tv lv rv : Value} {w w' w0 : World} {nx : Nat → List Nat} {sb n : Nat}
/-- One step, whichever it is. -/
def Stepped (F : SF) (nx : Nat → List Nat) (s0 s : St) (w' : World) : Prop := ∃ s', SM F s' w' ∧ Amid nx F.n s0 s' ∧ s'.todo nx F.n < s.todo nx F.n
theorem tryArcT {F : SF} {s0 : St} (hN : NxAt F.w0 F.nv F.n nx) (h : SMem F L s kv ov w) (hA : Amid nx F.n s0 s) {a : Nat} {rest : List Nat} (ht : s.tl = a :: rest) (hlt : s.tried a < (nx a).length) (hnx : ∀ p, p < F.n → ∀ q ∈ nx p, q < F.n) (hn : F.n ≤ 1000000) (hl : ∀ p, p < F.n → (nx p).length ≤ 1000000) :
    Calls Tryz.prog 117 #[.pointer (some ⟨F.sb, 0, none⟩), .int .i64 a] w fun r w' => r = .returned (.tuple #[]) ∧ Hid (Stepped F nx s0 s w') := by
  have ha : a < F.n := hA.1.trailed hA.2.1 a (by rw [ht]; simp)
  have hq : (nx a)[s.tried a]? = some (nx a)[s.tried a] := List.getElem?_eq_getElem hlt
  have hqn := hnx a ha _ (List.mem_of_getElem? hq)
  obtain ⟨s1, s2, s3⟩ := hA.small hn
  refine (tryArcS hN h ha hq hqn hn (hl a ha) s1 s2 s3).mono ?_
  rintro r w' ⟨rfl, hh⟩
  exact ⟨rfl, _, unhide hh, ⟨hA.1.tryStep ht hq, cnt_tryStep hA.2.1 hqn, fun x hx => seen_tryStep (hA.2.2 x hx)⟩, todo_tryStep ha hlt hqn⟩
theorem leaveT {F : SF} {s0 : St} (h : SMem F L s kv ov w) (hA : Amid nx F.n s0 s) {a : Nat} {rest : List Nat} (ht : s.tl = a :: rest) (hf : s.tried a = (nx a).length) (hn : F.n ≤ 1000000) :
    Calls Tryz.prog 118 #[.pointer (some ⟨F.sb, 0, none⟩), .int .i64 a] w fun r w' => r = .returned (.tuple #[]) ∧ Hid (Stepped F nx s0 s w') := by
  have htr := hA.1.trailed hA.2.1
  have ha : a < F.n := htr a (by rw [ht]; simp)
  obtain ⟨s1, s2, s3⟩ := hA.small hn
  by_cases hla : s.lo a = s.tu a
  · have hao : a ∈ s.op := hA.1.sub.subset (by rw [ht]; simp)
    obtain ⟨l1, op', e, hne⟩ := List.eq_append_cons_of_mem hao
    refine (leaveShut h ht e hla hne (hA.1.opened hA.2.1) hn s3 s2).mono ?_
    rintro r w' ⟨rfl, hh⟩
    obtain ⟨m, m1, m2, m3⟩ := unhide hh
    exact ⟨rfl, _, m3, ⟨hA.1.close ht hf hla e m1 m2, hA.2.1, hA.2.2⟩, by have := todo_close (nx := nx) (n := F.n) (m := m) (cl := l1 ++ [a]) (op' := op') ht; omega⟩
  · cases rest with
    | nil => exact absurd (hA.1.first ht) hla
    | cons b rest =>
      refine (leaveBack h ht hla ha (htr b (by rw [ht]; simp)) hn s2).mono ?_
      rintro r w' ⟨rfl, hh⟩
      exact ⟨rfl, _, unhide hh, ⟨hA.1.leave ht hf hla, hA.2.1, hA.2.2⟩, by have := todo_back (nx := nx) (n := F.n) (v := min (s.lo b) (s.lo a)) ht; omega⟩
/-- Behind from. -/
def FromAns (F : SF) (nx : Nat → List Nat) (s0 : St) (w' : World) : Prop := ∃ s', SM F s' w' ∧ Amid nx F.n s0 s' ∧ s'.tl = []
set_option maxHeartbeats 4000000 in
set_option maxRecDepth 100000 in
theorem fromS {F : SF} (hN : NxAt F.w0 F.nv F.n nx) (h : SMem F L s kv ov w) (hI : Inv nx s) (hC : s.Cnt F.n) (ht : s.tl = []) {p : Nat} (hp : p < F.n) (hv : s.tu p = 0) (hnx : ∀ p, p < F.n → ∀ q ∈ nx p, q < F.n) (hn : F.n ≤ 1000000) (hl : ∀ p, p < F.n → (nx p).length ≤ 1000000) :
    Calls Tryz.prog 110 #[.pointer (some ⟨F.sb, 0, none⟩), .int .i64 p] w fun r w' => r = .returned (.tuple #[]) ∧ Hid (FromAns F nx (s.enter p) w') := by
  have hA : Amid nx F.n s s := ⟨hI, hC, fun _ h => h⟩
  obtain ⟨s1, s2, s3⟩ := hA.small hn
  have CE := hide (enterS h hp hn s1 s2 s3)
  have hA0 : Amid nx F.n (s.enter p) (s.enter p) := ⟨hI.enter hv (fun t q => by rw [ht] at q; cases q), cnt_enter hC hp hv, fun _ h => h⟩
  obtain ⟨sb, nv, gh, ch, gt, ct, gl, cl, gr, cr, n, w0, hF⟩ := SF.shape h (by omega)
  obtain ⟨gn, cn, _, _, en, -⟩ := hN.len h.below hp
  rw [hF] at en
  dsimp only at en
  subst en
  have HF := hide hF
  have hsb : F.sb = sb := by rw [hF]
  rw [hsb] at CE ⊢
  have HC := hide (And.intro hN (And.intro hnx (And.intro hn (And.intro hl hsb))))
  have HA0 := hide hA0
  obtain ⟨t0, ht0⟩ : ∃ t0, t0 = (s.enter p).todo nx F.n := ⟨_, rfl⟩
  have HT0 := hide ht0
  generalize s.enter p = s0 at *
  clear hN h hI hC ht hp hv hnx hn hl hA s1 s2 s3 hA0 hF hsb ht0
  go_enter Tryz.func110, Tryz.ntmps110
  go_wp2_with fail
  refine (unhide CE).mono ?_
  rintro r w1 ⟨rfl, hh⟩
  clear CE
  go_upto_region 1 with fail
  go_loopg [4] t0 (fun k s4 wr => Hid (∃ s', SM F s' wr ∧ Amid nx F.n s0 s' ∧ s'.todo nx F.n ≤ k))
  case atStart => exact ⟨s0, unhide hh, unhide HA0, by rw [unhide HT0]; exact Nat.le_refl _⟩
  case round =>
    obtain ⟨st, ⟨L', kv', ov', hM⟩, hA, hk⟩ := unhide hrel
    obtain ⟨hN, hnx, hn, hl, hsb⟩ := unhide HC
    obtain ⟨s1, s2, s3⟩ := hA.small hn
    cases ht : st.tl with
    | nil =>
      have hkr : BRow F.w0.heap.size wr kv' [] := by have := hM.kr; rw [ht] at this; exact this
      obtain ⟨x, c, rfl, -⟩ := brow_shape hkr
      have hM2 := hM
      rw [unhide HF] at hM2
      obtain ⟨-, -, -, -, -, -, c6, -, -⟩ := hM2.cells
      have HG : Hid (FromAns F nx s0 wr) := ⟨st, ⟨_, _, _, hM⟩, hA, ht⟩
      clear hM hM2 hA hk hN hnx hn hl hsb s1 s2 s3 ht hkr hrel hh HA0
      go_wp2_with fail
      go_end0
      exact ⟨rfl, HG⟩
    | cons a rest =>
      obtain ⟨gk, ck, rfl, hck, x1⟩ := hM.trailAt ht
      have ha : a < F.n := hA.1.trailed hA.2.1 a (by rw [ht]; simp)
      have CT : Hid (st.tried a < (nx a).length → ∀ q, Calls Tryz.prog 117 #[.pointer (some ⟨sb, 0, none⟩), .int .i64 a] (wr.drewN q) fun r w' => r = .returned (.tuple #[]) ∧ Hid (Stepped F nx s0 st w')) := fun hlt q => by
        have := tryArcT hN (hM.drew q) hA ht hlt hnx hn hl
        rw [hsb] at this; exact this
      have CL : Hid (st.tried a = (nx a).length → ∀ q, Calls Tryz.prog 118 #[.pointer (some ⟨sb, 0, none⟩), .int .i64 a] (wr.drewN q) fun r w' => r = .returned (.tuple #[]) ∧ Hid (Stepped F nx s0 st w')) := fun hlt q => by
        have := leaveT (hM.drew q) hA ht hlt hn
        rw [hsb] at this; exact this
      have hfew := hA.1.few a
      have hM2 := hM
      rw [unhide HF] at hM2 hN ha
      dsimp only at hN ha
      obtain ⟨c0, -, -, -, c4, -, c6, -, -⟩ := hM2.cells
      obtain ⟨_, _, x, c, e1, y1⟩ := hN.len hM2.below ha
      injection e1 with e1 e2 e3
      injection e1 with e1
      injection e1 with e1
      subst e1
      have y2 := (hM2.atR (by omega)).2.1 a ha
      have zr : rest.length + 1 ≤ 1000000 := by rw [ht] at s2; simpa using s2
      obtain ⟨R1, hR1⟩ : ∃ R1, R1 = rest.length + 1 := ⟨_, rfl⟩
      obtain ⟨R, hR⟩ : ∃ R, R = rest.length := ⟨_, rfl⟩
      have hw1 : IntKind.i64.wrap ((R1 : Int) - 1) = (R : Int) := by rw [IntKind.wrap_i64]; omega
      have z1 : (R : Int) < (R1 : Int) := by omega
      have z2 : (0 : Int) < (R1 : Int) := by omega
      have z3 : (a : Int) < (n : Int) := by omega
      rw [← hR1] at c6
      rw [← hR] at x1
      have HK := hide hk
      by_cases hlt : st.tried a < (nx a).length
      · have z4 : ((st.tried a : Nat) : Int) < ((nx a).length : Int) := by omega
        have CC := hide (unhide CT hlt)
        generalize st.tried a = ta at *
        generalize (nx a).length = la at *
        clear hM hM2 hA hk hN hnx hn hl hsb s1 s2 s3 ht hrel hh HA0 CT CL hfew e2 e3 hck zr hR1 hR hlt ha
        go_wp2_with fail
        go_quiet (fail)
        go_wp2_with fail
        go_quiet (fail)
        go_wp2_with fail
        refine (unhide CC _).mono ?_
        rintro r w2 ⟨rfl, hh⟩
        go_wp2_with fail
        obtain ⟨s', m1, m2, m3⟩ := unhide hh
        go_roundg (s'.todo nx F.n)
        case measure => have := unhide HK; omega
        case rel => exact ⟨s', m1, m2, Nat.le_refl _⟩
      · have z4 : ¬ ((st.tried a : Nat) : Int) < ((nx a).length : Int) := by omega
        have CC := hide (unhide CL (by omega))
        generalize st.tried a = ta at *
        generalize (nx a).length = la at *
        clear hM hM2 hA hk hN hnx hn hl hsb s1 s2 s3 ht hrel hh HA0 CT CL hfew e2 e3 hck zr hR1 hR hlt ha
        go_wp2_with fail
        go_quiet (fail)
        go_wp2_with fail
        go_quiet (fail)
        go_wp2_with fail
        refine (unhide CC _).mono ?_
        rintro r w2 ⟨rfl, hh⟩
        go_wp2_with fail
        obtain ⟨s', m1, m2, m3⟩ := unhide hh
        go_roundg (s'.todo nx F.n)
        case measure => have := unhide HK; omega
        case rel => exact ⟨s', m1, m2, Nat.le_refl _⟩
end
end

section
open Go.RowKit Go.Maps T9
theorem made_list (z : Value) (n : Nat) : (madeCells #[z] n).toList = List.replicate n z := toList_madeCells_one z n
theorem mkI {n : Nat} (hn : n ≤ 1000000) (w : World) : (Instr.makeSlice 25 (.int .i64 (n : Nat)) (.int .i64 (n : Nat))).run Tryz.prog w = .ok (.slice (some ⟨w.heap.size, 0, none⟩) n n) (w.alloc (.cells (madeCells #[.int .i64 0] n) 3)) :=
  run_make_row' 25 3 (.int .i64 0) 8 Tryz.underlying25 info3 rfl .i64 .i64 n (by omega) (by omega) w
theorem brow_made (n : Nat) (hn : n ≤ 1000000) (w : World) : BRow w.heap.size (w.alloc (.cells (madeCells #[.int .i64 0] n) 3)) (.slice (some ⟨w.heap.size, 0, none⟩) n n) (List.replicate n 0) := by
  refine ⟨by simp, .inr ⟨w.heap.size, n, madeCells #[.int .i64 0] n, by simp, Nat.le_refl _, heap_alloc_new _ _, by simp, by unfold maxLen; omega, ?_, ?_⟩⟩
  · rw [← Array.length_toList, made_list]; simp
  · rw [made_list]; simp
def rep (k n : Nat) : List Value := List.replicate k (.int .i64 (-1)) ++ List.replicate (n - k) (.int .i64 0)
theorem rep_len {k n : Nat} (h : k ≤ n) : (rep k n).length = n := by simp [rep]; omega
/-- k of n are filled. -/
structure RM (w : World) (n k : Nat) (W : World) : Prop where
  below : Below w.heap.size w W
  row : W.heap[w.heap.size]? = some (.cells (rep k n).toArray 3 (0, 0))
theorem RM.fill {w W : World} {n k m : Nat} (h : RM w n k W) (_hk : k ≤ n) (_hm : m ≤ n - k) : RM w n (k + m) (W.setRow w.heap.size ((rep k n).toArray.toList.take k ++ List.replicate m (Value.int .i64 (-1)) ++ (rep k n).toArray.toList.drop (k + (List.replicate m (Value.int .i64 (-1))).length)).toArray) := by
  refine ⟨below_setRow h.below (Nat.le_refl _) _, ?_⟩
  rw [setRow_heap _ _ _ _ _ _ h.row]
  congr 3
  have e1 : (rep k n).take k = List.replicate k (Value.int .i64 (-1)) := by unfold rep; rw [List.take_left' (by simp)]
  have e2 : (rep k n).drop (k + m) = List.replicate (n - (k + m)) (Value.int .i64 0) := by
    unfold rep
    rw [List.drop_append, List.drop_eq_nil_of_le (by simp), List.nil_append, List.length_replicate, List.drop_replicate]
    congr 1; omega
  simp only [List.length_replicate]
  rw [e1, e2]
  unfold rep
  rw [List.append_assoc, ← List.append_assoc, List.replicate_append_replicate]
theorem RM.cell {w W : World} {n k j : Nat} (h : RM w n k W) (hj : j < k) : W.cell? ⟨w.heap.size, j, none⟩ = some (.int .i64 (-1)) := by
  rw [cell_of_row _ _ j _ _ (0, 0) h.row]
  unfold rep
  rw [List.getElem?_toArray, List.getElem?_append_left (by simpa using hj), List.getElem?_replicate, if_pos hj]
theorem RM.copy {w W : World} {n k : Nat} (h : RM w n k W) (hk : k < n) : ∃ m W2, m = min k (n - k) ∧ (∀ ty, (Builtin.copy_ #[25, 25] ty #[.slice (some ⟨w.heap.size, k, none⟩) (n - k) (n - k), .slice (some ⟨w.heap.size, 0, none⟩) k n]).run Tryz.prog W = .ok (.int .i64 (m : Nat)) W2) ∧ RM w n (k + m) W2 := by
  refine ⟨min k (n - k), _, rfl, fun ty => ?_, h.fill (by omega) (Nat.min_le_right _ _)⟩
  have := run_copy_row (P := Tryz.prog) W 25 25 ty 3 w.heap.size k (n - k) (n - k) ⟨w.heap.size, 0, none⟩ k n (rep k n).toArray 3 (List.replicate (min k (n - k)) (Value.int .i64 (-1))) Tryz.underlying25 (by kernel_rfl) h.row (by simp) (fun j v hj => ?_) (by rw [List.length_replicate, List.size_toArray, rep_len (by omega)]; omega) (by intro v hv; rw [List.eq_of_mem_replicate hv]; rfl)
  · simp only [List.length_replicate] at this ⊢
    exact this
  · rw [List.getElem?_replicate] at hj
    split at hj
    · injection hj with hj
      subst hj
      rw [show (⟨w.heap.size, 0, none⟩ : Addr).add j = ⟨w.heap.size, j, none⟩ by unfold Addr.add; split <;> simp_all]
      exact h.cell (by omega)
    · cases hj
theorem RM.copy0 {w : World} {n : Nat} {v : Value} (hn : n ≤ 1000000) (hv : NRow w v [-1]) : ∃ m W2, m = min 1 n ∧ (∀ ty, (Builtin.copy_ #[25, 25] ty #[.slice (some ⟨w.heap.size, 0, none⟩) n n, v]).run Tryz.prog (w.alloc (.cells (madeCells #[.int .i64 0] n) 3)) = .ok (.int .i64 (m : Nat)) W2) ∧ RM w n m W2 := by
  obtain ⟨x, c, rfl, -⟩ := brow_shape hv
  obtain ⟨g, rfl⟩ := brow_some hv (by simp)
  have e0 : (madeCells #[.int .i64 0] n) = (rep 0 n).toArray := by
    apply Array.toList_inj.1
    rw [made_list]; simp [rep]
  have hb := below_new w (.cells (madeCells #[.int .i64 0] n) 3)
  have h0 : RM w n 0 (w.alloc (.cells (madeCells #[.int .i64 0] n) 3)) := ⟨hb, by rw [heap_alloc_new, e0]⟩
  have h1 := h0.fill (m := min 1 n) (by omega) (by omega)
  rw [Nat.zero_add] at h1
  refine ⟨min 1 n, _, rfl, fun ty => ?_, h1⟩
  have hcell := brow_at (nrow_below hv hb) (j := 0) (e := -1) rfl
  have := run_copy_row (P := Tryz.prog) (w.alloc (.cells (madeCells #[.int .i64 0] n) 3)) 25 25 ty 3 w.heap.size 0 n n ⟨g, 0, none⟩ 1 c (rep 0 n).toArray 3 (List.replicate (min 1 n) (Value.int .i64 (-1))) Tryz.underlying25 (by kernel_rfl) h0.row (by simp) (fun j u hj => ?_) (by rw [List.length_replicate, List.size_toArray, rep_len (by omega)]; omega) (by intro u hu; rw [List.eq_of_mem_replicate hu]; rfl)
  · simp only [List.length_replicate] at this ⊢
    exact this
  · rw [List.getElem?_replicate] at hj
    split at hj
    · injection hj with hj
      subst hj
      obtain rfl : j = 0 := by omega
      exact hcell
    · cases hj
theorem RM.drew {w W : World} {n k : Nat} (h : RM w n k W) : RM w n k W.drew := ⟨h.below.drew, h.row⟩
theorem RM.done {w W : World} {n : Nat} (hn : n ≤ 1000000) (h : RM w n n W) : BRow w.heap.size W (.slice (some ⟨w.heap.size, 0, none⟩) n n) (List.replicate n (-1)) := by
  refine ⟨by simp, .inr ⟨w.heap.size, n, _, by simp, Nat.le_refl _, h.row, by simp, by unfold maxLen; omega, by simp [rep], by simp [rep]⟩⟩
theorem step_copy_run9 {P : Program} {ops : Array Oper} {o : Oper} {a : Act} {w : World} {K : Act → World → Prop} {Q : Exit → Act → World → Prop} {E : Prop}
    (hg : o.guard = none) (s x : Operand) (t : TypeId) (hop : o.op = Op.call { callee := Callee.builtin Builtin.copy, args := #[s, x], argTypes := #[t, t] }) (v1 v2 : Value) (hs : a.eval s = v1) (hx : a.eval x = v2) (v' : Value) (w' : World)
    (hrun : (Builtin.copy_ #[t, t] o.type #[v1, v2]).run P w = .ok v' w') (hK : K (a.put o.dst v') w') :
    if Region.wanted o (yielded ops a.tmps) = true then Oper.wp P o a w K Q else E := by
  have hw : Region.wanted o (yielded ops a.tmps) = true := by simp [Region.wanted, hg]
  rw [if_pos hw]
  unfold Oper.wp
  simp only [execOp, hop, resolve, invoke, builtin, Sem.run_bind, Sem.run_pure, Result.andThen_ok, List.map_toArray, List.map_cons, List.map_nil, hs, hx, hrun]
  exact hK
theorem wpList_copy_run9 {P : Program} {ops : Array Oper} {rest : List Oper} {o : Oper} {a : Act} {w : World} {Q : Exit → Act → World → Prop} (hgd : o.guard = none) (s x : Operand) (t : TypeId) (hop : o.op = Op.call { callee := Callee.builtin Builtin.copy, args := #[s, x], argTypes := #[t, t] }) (v1 v2 : Value) (hs : a.eval s = v1) (hx : a.eval x = v2) (v' : Value) (w' : World)
    (hrun : (Builtin.copy_ #[t, t] o.type #[v1, v2]).run P w = .ok v' w') (h : wpList P ops Q rest (a.put o.dst v') w') : wpList P ops Q (o :: rest) a w :=
  wpList_plain hgd fun K hK => by
    unfold Oper.wp
    simp only [execOp, hop, resolve, invoke, builtin, Sem.run_bind, Sem.run_pure, Result.andThen_ok, List.map_toArray, List.map_cons, List.map_nil, hs, hx, hrun]
    exact hK _ _ h
set_option maxHeartbeats 4000000 in
set_option maxRecDepth 100000 in
theorem repeatS {w : World} {v : Value} {n : Nat} (hn : n ≤ 1000000) (hv : NRow w v [-1]) :
    Calls Tryz.prog 109 #[v, .int .i64 n] w fun e w' => e = .returned (.slice (some ⟨w.heap.size, 0, none⟩) n n) ∧ Hid (Below w.heap.size w w' ∧ BRow w.heap.size w' (.slice (some ⟨w.heap.size, 0, none⟩) n n) (List.replicate n (-1))) := by
  obtain ⟨m0, W0, hm0, r0, h0⟩ := RM.copy0 hn hv
  obtain ⟨x, c, rfl, -⟩ := brow_shape hv
  have HM := hide (And.intro hn hm0)
  have r1 : ∀ ty, (Builtin.copy_ #[25, 25] ty #[.slice (some ⟨w.heap.size, 0, none⟩) n n, .slice x 1 c]).run Tryz.prog (w.alloc (.cells (madeCells #[.int .i64 0] n) 3)) = .ok (.int .i64 (m0 : Nat)) W0 := r0
  have H0 := hide h0
  have CM : Hid (Calls Tryz.prog 115 #[.int .u64 1, .int .u64 n] w fun e w' => e = .returned (.tuple #[.int .u64 0, .int .u64 n]) ∧ w' = w) := by
    refine (Tryz.bits_Mul 1 n (by omega) (by omega) w).mono ?_
    rintro e w' ⟨rfl, rfl⟩
    refine ⟨?_, rfl⟩
    rw [show 1 * n / 18446744073709551616 = 0 by omega, show 1 * n % 18446744073709551616 = n by omega]
    rfl
  have hmk := mkI hn w
  have hu1 : IntKind.u64.wrap (n : Int) = (n : Int) := by rw [IntKind.wrap_u64]; omega
  have hu2 : IntKind.i64.wrap (n : Int) = (n : Int) := by rw [IntKind.wrap_i64]; omega
  have hz : decide ((9223372036854775807 : Int) < (n : Int)) = false := by simp; omega
  have hneg : ¬ (n : Int) < 0 := by omega
  obtain ⟨g, hg⟩ : ∃ g, g = w.heap.size := ⟨_, rfl⟩
  clear hv hn hm0 r0 h0
  go_enter Tryz.func109, Tryz.ntmps109
  go_wp2_with fail
  refine (unhide CM).mono ?_
  rintro e w' ⟨rfl, rfl⟩
  clear CM
  go_upto_region 8 with fail
  clear r1 hmk
  clear hu1 hu2 hz hneg
  have HK : Hid (RM w' n m0 W0 ∧ m0 ≤ n ∧ (0 < m0 ∨ n = 0)) := ⟨unhide H0, by have := unhide HM; omega, by have := unhide HM; omega⟩
  go_loopw [8] (fun s8 wr => ∃ k : Nat, s8 = .int .i64 (k : Nat) ∧ Hid (RM w' n k wr ∧ k ≤ n ∧ (0 < k ∨ n = 0))) (fun s8 _ => n - (intOf s8).toNat)
  case atStart => exact ⟨m0, rfl, HK⟩
  case round =>
    obtain ⟨k, rfl, hR⟩ := hrel
    by_cases hlt : k < n
    · have z1 : (k : Int) < (n : Int) := by omega
      have z2 : (k : Int) ≤ (n : Int) := by omega
      have z3 : ¬ k = n := by omega
      obtain ⟨m, W2, hm, r2, h2⟩ := (unhide hR).1.drew.copy hlt
      obtain ⟨k1, hk1⟩ : ∃ k1, k1 = k + m := ⟨_, rfl⟩
      have hw : IntKind.i64.wrap ((k : Int) + (m : Int)) = (k1 : Int) := by rw [IntKind.wrap_i64]; have := (unhide HM).1; omega
      rw [← hk1] at h2
      have H2 : Hid ((RM w' n k1 W2 ∧ k1 ≤ n ∧ (0 < k1 ∨ n = 0)) ∧ n - k1 < n - k) := ⟨⟨h2, by omega, by have := (unhide hR).2.2; omega⟩, by have := (unhide hR).2.2; omega⟩
      generalize w'.heap.size = bb at *
      clear hR hlt hm hk1 h2 HK H0
      go_upto_region 9 with fail
      go_region
      go_wp2_with fail
      exact ⟨⟨k1, rfl, (unhide H2).1⟩, by have := (unhide H2).2; simp [intOf]; omega⟩
    · have z1 : ¬ (k : Int) < (n : Int) := by omega
      obtain ⟨q1, q2, -⟩ := unhide hR
      obtain rfl : k = n := by omega
      have HG := hide (And.intro q1.below (q1.done (unhide HM).1))
      clear hR hlt q1 q2 HK H0
      go_wp2_with fail
      go_ret
      exact ⟨rfl, HG⟩
end

section
open Go.RowKit Go.Maps T9
/-- Whatever order the operations come up in, a picture is kept. -/
theorem anyInv {P : Program} {ops : Array Oper} {Q : Exit → Act → World → Prop} {md : Region.Mode} {S : World → Prop} {T : List Nat} (I : Nat → Array Bool → Act → World → Prop) (base : Nat)
    (h0 : ∀ l a w, I 0 l a w → wpAnyL P md ops Q S T base l a w)
    (h1 : ∀ k l a w, I (k + 1) l a w → Region.ready md ops l ≠ [] ∧ ∀ i ∈ Region.ready md ops l, ∃ o, ops[i]? = some o ∧ ∀ K' : Act → World → Prop, Shut (∀ a w, S w → I k (l.setIfInBounds i true) a w → K' a w) → if Region.wanted o (yielded ops a.tmps) = true then Oper.wp P o a w K' Q else K' (a.put o.dst undef) w) :
    ∀ k l a w, I k l a w → wpAnyL P md ops Q S T (base + k) l a w
  | 0, l, a, w, h => h0 l a w h
  | k + 1, l, a, w, h => by
    obtain ⟨hne, hall⟩ := h1 k l a w h
    refine ⟨fun h0 => absurd h0 hne, fun j hj => ?_⟩
    obtain ⟨o, ho, hop⟩ := hall j hj
    exact wpOp_step ho (fun K' hK => hop K' (fun a w hS hW => hK a w ⟨fun _ => hS, anyInv I base h0 h1 k _ a w hW⟩))
theorem anyInvAt {P : Program} {ops : Array Oper} {Q : Exit → Act → World → Prop} {md : Region.Mode} {S : World → Prop} {T : List Nat} (I : Act → Nat → Array Bool → Act → World → Prop) (base k : Nat) (l : Array Bool) (a : Act) (w : World) (hst : I a k l a w)
    (h0 : ∀ l a' w, I a 0 l a' w → wpAnyL P md ops Q S T base l a' w)
    (h1 : ∀ k l a' w, I a (k + 1) l a' w → Region.ready md ops l ≠ [] ∧ ∀ i ∈ Region.ready md ops l, ∃ o, ops[i]? = some o ∧ ∀ K' : Act → World → Prop, Shut (∀ a2 w, S w → I a k (l.setIfInBounds i true) a2 w → K' a2 w) → if Region.wanted o (yielded ops a'.tmps) = true then Oper.wp P o a' w K' Q else K' (a'.put o.dst undef) w) :
    wpAnyL P md ops Q S T (base + k) l a w := anyInv (I a) base h0 (fun k l a' w h => by
      obtain ⟨h2, h3⟩ := h1 k l a' w h
      exact ⟨h2, h3⟩) k l a w hst
/-- A row that may have been made already, its block k's. -/
def RowB (w0 w : World) (L : Nat → Nat) (k : Nat) (b : Bool) (x : Value) (ks : List Int) : Prop := b = true → BRow w0.heap.size w x ks ∧ (∀ g, x.ownBlock = some g → L g = k) ∧ ∃ g c, x = .slice (some ⟨g, 0, none⟩) ks.length c
theorem RowB.grow {w0 w w' : World} {L : Nat → Nat} {k : Nat} {b : Bool} {x : Value} {ks : List Int} (h : RowB w0 w L k b x ks) (hb : Below w.heap.size w w') (j : Nat) : RowB w0 w' (lab L w.heap.size j) k b x ks := fun e => by
  obtain ⟨h1, h2, h3⟩ := h e
  exact ⟨brow_kept h1 (fun g eg => hb.block g (h1.lt g eg).2), fun g eg => (if_pos (h1.lt g eg).2).trans (h2 g eg), h3⟩
theorem RowB.new {w0 w w' : World} {L : Nat → Nat} {k g n c : Nat} {ks : List Int} (h : BRow w.heap.size w' (.slice (some ⟨g, 0, none⟩) n c) ks) (hw : w0.heap.size ≤ w.heap.size) : RowB w0 w' (lab L w.heap.size k) k true (.slice (some ⟨g, 0, none⟩) n c) ks := fun _ =>
  ⟨brow_low h hw, fun g eg => if_neg (by have := (h.lt g eg).1; omega), g, c, by obtain ⟨_, _, e, -⟩ := brow_shape h; injection e with _ e2 _; rw [e2]⟩
theorem RowB.off (w0 w : World) (L : Nat → Nat) (k : Nat) (x : Value) (ks : List Int) : RowB w0 w L k false x ks := fun e => by cases e
/-- What is made so far. -/
def Pic5 (w0 : World) (n : Nat) (b1 b3 b5 b7 b9 : Bool) (x9 x11 x13 x15 x17 : Value) (w : World) : Prop := ∃ L, Below w0.heap.size w0 w ∧ RowB w0 w L 9 b1 x9 [-1] ∧ RowB w0 w L 2 b3 x11 (List.replicate n (-1)) ∧ RowB w0 w L 3 b5 x13 (List.replicate n 0) ∧ RowB w0 w L 4 b7 x15 (List.replicate n 0) ∧ RowB w0 w L 5 b9 x17 (List.replicate n 0)
def cnt5 (b1 b3 b5 b7 b9 : Bool) : Nat := (!b1).toNat + (!b3).toNat + (!b5).toNat + (!b7).toNat + (!b9).toNat
def ready5 (b1 b3 b5 b7 b9 : Bool) : List Nat := (if b1 then [] else [1]) ++ (if b1 && !b3 then [3] else []) ++ (if b5 then [] else [5]) ++ (if b7 then [] else [7]) ++ (if b9 then [] else [9]) ++ (if b3 && b5 && b7 && b9 then [10] else [])
theorem ready5_ne {b1 b3 b5 b7 b9 : Bool} : ready5 b1 b3 b5 b7 b9 ≠ [] := by
  cases b1 <;> cases b3 <;> cases b5 <;> cases b7 <;> cases b9 <;> decide
theorem ready5_mem {b1 b3 b5 b7 b9 : Bool} {k i : Nat} (hc : cnt5 b1 b3 b5 b7 b9 = k + 1) (hb : b3 = true → b1 = true) (hi : i ∈ ready5 b1 b3 b5 b7 b9) : (i = 1 ∧ b1 = false ∧ b3 = false) ∨ (i = 3 ∧ b1 = true ∧ b3 = false) ∨ (i = 5 ∧ b5 = false) ∨ (i = 7 ∧ b7 = false) ∨ (i = 9 ∧ b9 = false) := by
  revert hc hb hi
  cases b1 <;> cases b3 <;> cases b5 <;> cases b7 <;> cases b9 <;> simp [ready5, cnt5] <;> omega
theorem cnt5_zero {b1 b3 b5 b7 b9 : Bool} (h : cnt5 b1 b3 b5 b7 b9 = 0) : b1 = true ∧ b3 = true ∧ b5 = true ∧ b7 = true ∧ b9 = true := by
  revert h
  cases b1 <;> cases b3 <;> cases b5 <;> cases b7 <;> cases b9 <;> simp [cnt5]
def Inv5 (a0 : Act) (w0 : World) (n : Nat) (k : Nat) (l : Array Bool) (a : Act) (w : World) : Prop :=
  ∃ (b1 b3 b5 b7 b9 : Bool) (x9 x11 x13 x15 x17 : Value), l = #[true, b1, true, b3, true, b5, true, b7, true, b9, false, false, false] ∧ a = ((((a0.put (some 9) x9).put (some 11) x11).put (some 13) x13).put (some 15) x15).put (some 17) x17 ∧ cnt5 b1 b3 b5 b7 b9 = k ∧ (b3 = true → b1 = true) ∧ Pic5 w0 n b1 b3 b5 b7 b9 x9 x11 x13 x15 x17 w
theorem rep_rowI (n : Nat) (c : Int) : List.replicate n c = rowI n (fun _ => c) := by
  unfold rowI
  apply List.ext_getElem?
  intro k
  by_cases hk : k < n
  · simp [hk]
  · simp [hk]
/-- The search as it begins. -/
theorem sm_start {w0 w : World} {n : Nat} {x9 x11 x13 x15 x17 nv : Value} (h : Pic5 w0 n true true true true true x9 x11 x13 x15 x17 w) : SM ⟨w.heap.size, nv, x11, x13, x15, x17, n, w0⟩ St.start (w.alloc (oS nv x11 x13 x15 x17 0 (.slice none 0 0) (.slice none 0 0))) := by
  obtain ⟨L, hB, -, h2, h3, h4, h5⟩ := h
  have hb := below_new w (oS nv x11 x13 x15 x17 0 (.slice none 0 0) (.slice none 0 0))
  obtain ⟨r2, l2, -⟩ := h2.grow hb 1 rfl
  obtain ⟨r3, l3, -⟩ := h3.grow hb 1 rfl
  obtain ⟨r4, l4, -⟩ := h4.grow hb 1 rfl
  obtain ⟨r5, l5, -⟩ := h5.grow hb 1 rfl
  rw [rep_rowI] at r2 r3 r4 r5
  have hnil : BRow w0.heap.size (w.alloc (oS nv x11 x13 x15 x17 0 (.slice none 0 0) (.slice none 0 0))) (.slice none 0 0) [] := ⟨rfl, .inl ⟨rfl, rfl⟩⟩
  exact ⟨lab L w.heap.size 1, .slice none 0 0, .slice none 0 0, ⟨heap_alloc_new _ _, r2, r3, r4, r5, hnil, hnil, if_neg (Nat.lt_irrefl _), l2, l3, l4, l5, fun b e => by (cases e), fun b e => by (cases e), hB.size, hB.alloc hB.size _⟩⟩
/-- All places were come to, and their components are closed. -/
def HeadsAns (w : World) (nx : Nat → List Nat) (n : Nat) (hv : Value) (w' : World) : Prop := ∃ h, Heads nx n h ∧ (∀ p, h p ≤ p) ∧ Below w.heap.size w w' ∧ BRow w.heap.size w' hv (rowI n (fun p => ((h p : Nat) : Int)))
/-- While the places are gone through. -/
def Goes (F : SF) (nx : Nat → List Nat) (k : Nat) (w : World) : Prop := ∃ st, SM F st w ∧ Inv nx st ∧ st.Cnt F.n ∧ st.tl = [] ∧ ∀ p, p < k → st.tu p ≠ 0
theorem goes_from {F : SF} {nx : Nat → List Nat} {k : Nat} {st : St} {w : World} (h : FromAns F nx (st.enter k) w) (hs : ∀ p, p < k → st.tu p ≠ 0) : Goes F nx (k + 1) w := by
  obtain ⟨s', h1, ⟨h2, h3, h4⟩, h5⟩ := h
  refine ⟨s', h1, h2, h3, h5, fun p hp => h4 p ?_⟩
  by_cases e : p = k
  · subst e; show up st.tu p (st.turn + 1) p ≠ 0; rw [up_same]; omega
  · exact seen_enter (hs p (by omega))
theorem goes_done {F : SF} {nx : Nat → List Nat} {w : World} (h : Goes F nx F.n w) : HeadsAns F.w0 nx F.n F.hv w := by
  obtain ⟨st, ⟨L, kv, ov, hM⟩, hI, hC, ht, hs⟩ := h
  have hh : ∀ p, p < F.n → st.hd p = some (if p < F.n then (st.hd p).getD p else p) := fun p hp => by
    obtain ⟨m, e, -⟩ := hI.heads ht (hs p hp)
    rw [if_pos hp, e]; rfl
  have H : Heads nx F.n (fun p => if p < F.n then (st.hd p).getD p else p) := hI.done ht hs hh
  refine ⟨_, H, fun p => ?_, hM.below, ?_⟩
  · by_cases hp : p < F.n
    · exact H.le hp
    · show (if p < F.n then (st.hd p).getD p else p) ≤ p
      rw [if_neg hp]; exact Nat.le_refl _
  · rw [← rowI_congr (f := fun p => hdI (st.hd p)) (fun p hp => by obtain ⟨m, e, -⟩ := hI.heads ht (hs p hp); rw [if_pos hp, e]; rfl)]
    exact hM.hr
set_option maxHeartbeats 8000000 in
set_option maxRecDepth 100000 in
theorem headsOfS {w : World} {nv : Value} {n : Nat} {nx : Nat → List Nat} (hN : NxAt w nv n nx) (hnx : ∀ p, p < n → ∀ q ∈ nx p, q < n) (hn : n ≤ 1000000) (hl : ∀ p, p < n → (nx p).length ≤ 1000000) :
    Calls Tryz.prog 95 #[nv] w fun e w' => Hid (∃ hv, e = .returned hv ∧ HeadsAns w nx n hv w') := by
  obtain ⟨gn, cn, rfl, -⟩ := id hN
  have HC := hide (And.intro hN (And.intro hnx (And.intro hn hl)))
  have CR : Hid (∀ (W : World) v, NRow W v [-1] → Calls Tryz.prog 109 #[v, .int .i64 n] W fun e w' => e = .returned (.slice (some ⟨W.heap.size, 0, none⟩) n n) ∧ Hid (Below W.heap.size W w' ∧ BRow W.heap.size w' (.slice (some ⟨W.heap.size, 0, none⟩) n n) (List.replicate n (-1)))) := fun W v hv => repeatS hn hv
  have hmk := @mkI n hn
  have HBM : Hid (∀ W : World, BRow W.heap.size (W.alloc (.cells (madeCells #[.int .i64 0] n) 3)) (.slice (some ⟨W.heap.size, 0, none⟩) n n) (List.replicate n 0)) := brow_made n hn
  clear hN hnx hn hl
  go_enter Tryz.func95, Tryz.ntmps95
  go_upto_region 2 with fail
  refine wp_region_noPanic ?_
  refine regionL [] (fun y => True) (by kernel_rfl) trivial (fun hHeld => ?_)
  refine takeL (i := 0) (v := ?t2v0) (some 8) rfl rfl (by kernel_rfl) (by kernel_rfl) (by kernel_rfl) (by kernel_rfl) (by kernel_rfl) (fun _ _ _ h => h) (Or.inl ⟨by rfl, ?t2h0⟩) (by assumption) ?t2r0
  case t2h0 => (intro y hSu; (try dsimp only at hSu); go_simp; first | done | with_reducible rfl)
  (try simp only [Act.put, List.setIfInBounds_toArray, List.set_cons_zero, List.set_cons_succ])
  refine takeL (i := 2) (v := ?t2v2) (some 10) rfl rfl (by kernel_rfl) (by kernel_rfl) (by kernel_rfl) (by kernel_rfl) (by kernel_rfl) (fun _ _ _ h => h) (Or.inl ⟨by rfl, ?t2h2⟩) (by assumption) ?t2r2
  case t2h2 => (intro y hSu; (try dsimp only at hSu); go_simp; first | done | with_reducible rfl)
  (try simp only [Act.put, List.setIfInBounds_toArray, List.set_cons_zero, List.set_cons_succ])
  refine takeL (i := 4) (v := ?t2v4) (some 12) rfl rfl (by kernel_rfl) (by kernel_rfl) (by kernel_rfl) (by kernel_rfl) (by kernel_rfl) (fun _ _ _ h => h) (Or.inl ⟨by rfl, ?t2h4⟩) (by assumption) ?t2r4
  case t2h4 => (intro y hSu; (try dsimp only at hSu); go_simp; first | done | with_reducible rfl)
  (try simp only [Act.put, List.setIfInBounds_toArray, List.set_cons_zero, List.set_cons_succ])
  refine takeL (i := 6) (v := ?t2v6) (some 14) rfl rfl (by kernel_rfl) (by kernel_rfl) (by kernel_rfl) (by kernel_rfl) (by kernel_rfl) (fun _ _ _ h => h) (Or.inl ⟨by rfl, ?t2h6⟩) (by assumption) ?t2r6
  case t2h6 => (intro y hSu; (try dsimp only at hSu); go_simp; first | done | with_reducible rfl)
  (try simp only [Act.put, List.setIfInBounds_toArray, List.set_cons_zero, List.set_cons_succ])
  refine takeL (i := 8) (v := ?t2v8) (some 16) rfl rfl (by kernel_rfl) (by kernel_rfl) (by kernel_rfl) (by kernel_rfl) (by kernel_rfl) (fun _ _ _ h => h) (Or.inl ⟨by rfl, ?t2h8⟩) (by assumption) ?t2r8
  case t2h8 => (intro y hSu; (try dsimp only at hSu); go_simp; first | done | with_reducible rfl)
  (try simp only [Act.put, List.setIfInBounds_toArray, List.set_cons_zero, List.set_cons_succ])
  refine anyInvAt (fun a0 => Inv5 a0 w n) 3 5 _ _ _ ?start ?h0 ?h1
  case start =>
    refine ⟨false, false, false, false, false, undef, undef, undef, undef, undef, rfl, rfl, rfl, (fun e => by cases e), fun _ => 0, (Below.refl _ _).drew, RowB.off _ _ _ _ _ _, RowB.off _ _ _ _ _ _, RowB.off _ _ _ _ _ _, RowB.off _ _ _ _ _ _, RowB.off _ _ _ _ _ _⟩
  case h1 =>
    rintro k l a W ⟨b1, b3, b5, b7, b9, x9, x11, x13, x15, x17, rfl, rfl, hc, hb, hP⟩
    generalize hr : Region.ready _ _ _ = rs
    have hrs : rs = ready5 b1 b3 b5 b7 b9 := by rw [← hr]; cases b1 <;> cases b3 <;> cases b5 <;> cases b7 <;> cases b9 <;> kernel_rfl
    subst hrs
    refine ⟨ready5_ne, fun i hi => ?_⟩
    obtain ⟨L, hB, p1, p2, p3, p4, p5⟩ := hP
    rcases ready5_mem hc hb hi with ⟨rfl, rfl, rfl⟩ | ⟨rfl, rfl, rfl⟩ | ⟨rfl, rfl⟩ | ⟨rfl, rfl⟩ | ⟨rfl, rfl⟩
    · refine ⟨_, rfl, fun K hK => ?_⟩
      clear hr hi
      go_simp
      have hb2 := below_new W (.cells #[.int .i64 (-1)] 3)
      have hnew : BRow W.heap.size (W.alloc (.cells #[.int .i64 (-1)] 3)) (.slice (some ⟨W.heap.size, 0, none⟩) 1 1) [-1] := ⟨rfl, .inr ⟨W.heap.size, 1, #[.int .i64 (-1)], rfl, Nat.le_refl _, heap_alloc_new _ _, Nat.le_refl _, by unfold maxLen; omega, rfl, rfl⟩⟩
      exact hK.out _ _ trivial ⟨true, false, b5, b7, b9, .slice (some ⟨W.heap.size, 0, none⟩) 1 1, x11, x13, x15, x17, rfl, rfl, by unfold cnt5 at hc ⊢; simp at hc ⊢; omega, (fun e => by cases e), lab L W.heap.size 9, hB.alloc hB.size _, RowB.new hnew hB.size, p2.grow hb2 9, p3.grow hb2 9, p4.grow hb2 9, p5.grow hb2 9⟩
    · refine ⟨_, rfl, fun K hK => ?_⟩
      clear hr hi
      go_simp
      refine (unhide CR W x9 (brow_at0 (p1 rfl).1)).mono ?_
      rintro e w2 ⟨rfl, hh⟩
      (try dsimp only)
      obtain ⟨hb2, hnew⟩ := unhide hh
      exact hK.out _ _ trivial ⟨true, true, b5, b7, b9, x9, .slice (some ⟨W.heap.size, 0, none⟩) n n, x13, x15, x17, rfl, rfl, by unfold cnt5 at hc ⊢; simp at hc ⊢; omega, (fun _ => rfl), lab L W.heap.size 2, hB.trans (hb2.mono hB.size), p1.grow hb2 2, RowB.new hnew hB.size, p3.grow hb2 2, p4.grow hb2 2, p5.grow hb2 2⟩
    · refine ⟨_, rfl, fun K hK => ?_⟩
      clear hr hi
      go_simp
      have hb2 := below_new W (.cells (madeCells #[.int .i64 0] n) 3)
      have hnew := unhide HBM W
      exact hK.out _ _ trivial ⟨b1, b3, true, b7, b9, x9, x11, .slice (some ⟨W.heap.size, 0, none⟩) n n, x15, x17, rfl, rfl, by unfold cnt5 at hc ⊢; simp at hc ⊢; omega, hb, lab L W.heap.size 3, hB.alloc hB.size _, p1.grow hb2 3, p2.grow hb2 3, RowB.new hnew hB.size, p4.grow hb2 3, p5.grow hb2 3⟩
    · refine ⟨_, rfl, fun K hK => ?_⟩
      clear hr hi
      go_simp
      have hb2 := below_new W (.cells (madeCells #[.int .i64 0] n) 3)
      have hnew := unhide HBM W
      exact hK.out _ _ trivial ⟨b1, b3, b5, true, b9, x9, x11, x13, .slice (some ⟨W.heap.size, 0, none⟩) n n, x17, rfl, rfl, by unfold cnt5 at hc ⊢; simp at hc ⊢; omega, hb, lab L W.heap.size 4, hB.alloc hB.size _, p1.grow hb2 4, p2.grow hb2 4, p3.grow hb2 4, RowB.new hnew hB.size, p5.grow hb2 4⟩
    · refine ⟨_, rfl, fun K hK => ?_⟩
      clear hr hi
      go_simp
      have hb2 := below_new W (.cells (madeCells #[.int .i64 0] n) 3)
      have hnew := unhide HBM W
      exact hK.out _ _ trivial ⟨b1, b3, b5, b7, true, x9, x11, x13, x15, .slice (some ⟨W.heap.size, 0, none⟩) n n, rfl, rfl, by unfold cnt5 at hc ⊢; simp at hc ⊢; omega, hb, lab L W.heap.size 5, hB.alloc hB.size _, p1.grow hb2 5, p2.grow hb2 5, p3.grow hb2 5, p4.grow hb2 5, RowB.new hnew hB.size⟩
  case h0 =>
    rintro l a W ⟨b1, b3, b5, b7, b9, x9, x11, x13, x15, x17, rfl, rfl, hc, hb, hP⟩
    obtain ⟨rfl, rfl, rfl, rfl, rfl⟩ := cnt5_zero hc
    have hS0 := sm_start (nv := .slice (some ⟨gn, 0, none⟩) n cn) hP
    obtain ⟨L, hB, p1, p2, p3, p4, p5⟩ := hP
    obtain ⟨-, -, gh, ch, rfl⟩ := p2 rfl
    obtain ⟨-, -, gt, ct, rfl⟩ := p3 rfl
    obtain ⟨-, -, gl, cl, rfl⟩ := p4 rfl
    obtain ⟨-, -, gr, cr, rfl⟩ := p5 rfl
    simp only [List.length_replicate] at hS0 ⊢
    have HS : Hid (Goes ⟨W.heap.size, .slice (some ⟨gn, 0, none⟩) n cn, .slice (some ⟨gh, 0, none⟩) n ch, .slice (some ⟨gt, 0, none⟩) n ct, .slice (some ⟨gl, 0, none⟩) n cl, .slice (some ⟨gr, 0, none⟩) n cr, n, w⟩ nx 0 (W.alloc (oS (.slice (some ⟨gn, 0, none⟩) n cn) (.slice (some ⟨gh, 0, none⟩) n ch) (.slice (some ⟨gt, 0, none⟩) n ct) (.slice (some ⟨gl, 0, none⟩) n cl) (.slice (some ⟨gr, 0, none⟩) n cr) 0 (.slice none 0 0) (.slice none 0 0)))) := ⟨St.start, hS0, Inv.start nx, cnt_start n, rfl, fun p hp => absurd hp (Nat.not_lt_zero _)⟩
    clear hS0 p1 p2 p3 p4 p5 hB L hb hc HBM CR hmk
    (try simp only [Act.put, List.setIfInBounds_toArray, List.set_cons_zero, List.set_cons_succ])
    refine readyL (i := 10) (by kernel_rfl) rfl (fun K hK => ?_)
    go_simp
    refine hK.out _ _ (fun _ => trivial) ?_
    clear hK K
    (try simp only [List.setIfInBounds_toArray, List.set_cons_zero, List.set_cons_succ])
    have hH4 := trivial
    refine readyL (i := 11) (by kernel_rfl) rfl (fun K hK => ?_)
    go_simp
    refine hK.out _ _ (fun _ => trivial) ?_
    clear hK K
    (try simp only [List.setIfInBounds_toArray, List.set_cons_zero, List.set_cons_succ])
    have hH6 := trivial
    refine readyL (i := 12) (by kernel_rfl) rfl (fun K hK => ?_)
    go_simp
    refine hK.out _ _ (fun _ => trivial) ?_
    clear hK K
    (try simp only [List.setIfInBounds_toArray, List.set_cons_zero, List.set_cons_succ])
    have hH8 := trivial
    refine doneL (by kernel_rfl) ?_ _
    refine NoPanic.normal ?_
    change Exit.then _ _ _ _ (W.alloc (oS (.slice (some ⟨gn, 0, none⟩) n cn) (.slice (some ⟨gh, 0, none⟩) n ch) (.slice (some ⟨gt, 0, none⟩) n ct) (.slice (some ⟨gl, 0, none⟩) n cl) (.slice (some ⟨gr, 0, none⟩) n cr) 0 (.slice none 0 0) (.slice none 0 0)))
    generalize W.alloc (oS (.slice (some ⟨gn, 0, none⟩) n cn) (.slice (some ⟨gh, 0, none⟩) n ch) (.slice (some ⟨gt, 0, none⟩) n ct) (.slice (some ⟨gl, 0, none⟩) n cl) (.slice (some ⟨gr, 0, none⟩) n cr) 0 (.slice none 0 0) (.slice none 0 0)) = w1 at *
    generalize W.heap.size = sb at *
    go_upto_region 4 with fail
    go_loopw [22, 5] (fun s22 s5 wr => ∃ k : Nat, s22 = .int .i64 (k : Nat) ∧ k ≤ n ∧ Hid (Goes ⟨sb, .slice (some ⟨gn, 0, none⟩) n cn, .slice (some ⟨gh, 0, none⟩) n ch, .slice (some ⟨gt, 0, none⟩) n ct, .slice (some ⟨gl, 0, none⟩) n cl, .slice (some ⟨gr, 0, none⟩) n cr, n, w⟩ nx k wr)) (fun s22 _ _ => n - (intOf s22).toNat)
    case atStart => exact ⟨0, rfl, Nat.zero_le _, HS⟩
    case round =>
      obtain ⟨k, rfl, hk, hS⟩ := hrel
      by_cases hlt : k < n
      · obtain ⟨hN, hnx, hn, hl⟩ := unhide HC
        obtain ⟨st, ⟨L, kv, ov, hM⟩, hI, hCn, ht, hs⟩ := unhide hS
        have CF : Hid (st.tu k = 0 → Calls Tryz.prog 110 #[.pointer (some ⟨sb, 0, none⟩), .int .i64 k] wr fun r w' => r = .returned (.tuple #[]) ∧ Hid (Goes ⟨sb, .slice (some ⟨gn, 0, none⟩) n cn, .slice (some ⟨gh, 0, none⟩) n ch, .slice (some ⟨gt, 0, none⟩) n ct, .slice (some ⟨gl, 0, none⟩) n cl, .slice (some ⟨gr, 0, none⟩) n cr, n, w⟩ nx (k + 1) w')) := fun hv => by
          refine (fromS (p := k) hN hM hI hCn ht hlt hv hnx hn hl).mono ?_
          rintro r w' ⟨rfl, hh⟩
          exact ⟨rfl, goes_from (unhide hh) hs⟩
        have CG : Hid (¬ st.tu k = 0 → Goes ⟨sb, .slice (some ⟨gn, 0, none⟩) n cn, .slice (some ⟨gh, 0, none⟩) n ch, .slice (some ⟨gt, 0, none⟩) n ct, .slice (some ⟨gl, 0, none⟩) n cl, .slice (some ⟨gr, 0, none⟩) n cr, n, w⟩ nx (k + 1) wr) := fun hv => ⟨st, ⟨L, kv, ov, hM⟩, hI, hCn, ht, fun p hp => by
          by_cases e : p = k
          · rw [e]; exact hv
          · exact hs p (by omega)⟩
        obtain ⟨-, -, c2, -, -, -, -, -, -⟩ := hM.cells
        have t2 := (hM.atT (by omega)).2.1 k hlt
        have z1 : (k : Int) < (n : Int) := by omega
        have zw : Hid (wrap64 ((k : Int) + 1) = ((k + 1 : Nat) : Int)) := by show wrap64 ((k : Int) + 1) = ((k + 1 : Nat) : Int); unfold wrap64; omega
        have HJ : Hid (k + 1 ≤ n ∧ n - (k + 1) < n - k) := ⟨by omega, by omega⟩
        by_cases hv : st.tu k = 0
        · have hz : (((st.tu k : Nat) : Int) == 0) = true := by simp [hv]
          have CC := hide (unhide CF hv)
          generalize st.tu k = tk at *
          clear hN hnx hn hl hM hI hCn ht hs CF CG hv hk hS hlt HS
          go_wp2_with fail
          refine (unhide CC).mono ?_
          rintro r w2 ⟨rfl, hh⟩
          go_wp2_with fail
          rw [unhide zw]
          exact ⟨⟨k + 1, rfl, (unhide HJ).1, hh⟩, by have := (unhide HJ).2; simp [intOf]; omega⟩
        · have hz : (((st.tu k : Nat) : Int) == 0) = false := by simp; omega
          have CC := hide (unhide CG hv)
          generalize st.tu k = tk at *
          clear hN hnx hn hl hM hI hCn ht hs CF CG hv hk hS hlt HS
          go_wp2_with fail
          rw [unhide zw]
          exact ⟨⟨k + 1, rfl, (unhide HJ).1, CC⟩, by have := (unhide HJ).2; simp [intOf]; omega⟩
      · have z1 : ¬ (k : Int) < (n : Int) := by omega
        obtain rfl : k = n := by omega
        obtain ⟨st, ⟨L, kv, ov, hM⟩, -⟩ := unhide hS
        obtain ⟨-, c1, -, -, -, -, -, -, -⟩ := hM.cells
        have HG := hide (goes_done (unhide hS))
        clear hM hS hlt hk HS
        go_wp2_with fail
        go_ret
        exact ⟨_, rfl, unhide HG⟩
end

end Go.Proofs.YtkmhcgmmbkchaaaGreat
