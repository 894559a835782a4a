/- The search: tryArc. -/
import Derived.Test.YtdpdghhieokcfaaSea92
namespace Go.Proofs.Ytdpdghhieokcfaa
open Go.RowKit Go.Maps T9
/-- Places as numbers. -/
def pl (l : List Nat) : List Int := l.map (fun q : Nat => (q : Int))
theorem pl_len (l : List Nat) : (pl l).length = l.length := by simp [pl]
theorem pl_at {l : List Nat} {i q : Nat} (h : l[i]? = some q) : (pl l)[i]? = some (q : Int) := by simp [pl, h]
/-- The lists of places to which arcs lead. -/
def NxAt (w : World) (nv : Value) (n : Nat) (nx : Nat → List Nat) : Prop := ∃ gn cn, nv = .slice (some ⟨gn, 0, none⟩) n cn ∧ gn < w.heap.size ∧ n ≤ cn ∧ ∀ p, p < n → ∃ v, w.cell? ⟨gn, p, none⟩ = some v ∧ NRow w v (pl (nx p))
theorem nrow_below {w w' : World} {v : Value} {ks : List Int} (h : NRow w v ks) (hb : Below w.heap.size w w') : NRow w' v ks := nrow_kept h (fun b e => hb.block b (h.lt b e).2)
theorem NxAt.arc {w w' : World} {nv : Value} {n : Nat} {nx : Nat → List Nat} (h : NxAt w nv n nx) (hb : Below w.heap.size w w') {p i q : Nat} (hp : p < n) (hq : (nx p)[i]? = some q) :
    ∃ gn cn g c, nv = .slice (some ⟨gn, 0, none⟩) n cn ∧ w'.cell? ⟨gn, p, none⟩ = some (.slice (some ⟨g, 0, none⟩) (nx p).length c) ∧ w'.cell? ⟨g, i, none⟩ = some (.int .i64 (q : Nat)) := by
  obtain ⟨gn, cn, e, hg, -, hr⟩ := h
  obtain ⟨v, hv, hr⟩ := hr p hp
  have hi : i < (nx p).length := (List.getElem?_eq_some_iff.1 hq).1
  have hr2 := nrow_below hr hb
  obtain ⟨a, c, ev, -⟩ := brow_shape hr2
  rw [pl_len] at ev
  rw [ev] at hr2
  obtain ⟨g, rfl⟩ := brow_some hr2 (by rw [pl_len]; omega)
  exact ⟨gn, cn, g, c, e, by rw [hb.cell (p := ⟨gn, p, none⟩) hg, hv, ev], brow_at hr2 (pl_at hq)⟩
/-- What tryArc does, the arc leading to q. -/
def _root_.Go.Proofs.Ytdpdghhieokcfaa.T9.St.tryStep (s : St) (a q : Nat) : St := if s.tu q = 0 then (s.tick a).enter q else if s.hd q = none then (s.tick a).lower a (min (s.lo a) (s.tu q)) else s.tick a
section
variable {L : Nat → Nat} {s : St} {kv ov nv hv tv lv rv : Value} {w w' w0 : World} {nx : Nat → List Nat} {sb n : Nat}
theorem SF.shape {F : SF} (h : SMem F L s kv ov w) (hn : 0 < F.n) : ∃ sb nv gh ch gt ct gl cl gr cr n w0, F = ⟨sb, nv, .slice (some ⟨gh, 0, none⟩) n ch, .slice (some ⟨gt, 0, none⟩) n ct, .slice (some ⟨gl, 0, none⟩) n cl, .slice (some ⟨gr, 0, none⟩) n cr, n, w0⟩ := by
  obtain ⟨gr, cr, er, -⟩ := row_slice h.rr hn
  obtain ⟨gt, ct, et, -⟩ := row_slice h.tr hn
  obtain ⟨gh, ch, eh, -⟩ := row_slice h.hr hn
  obtain ⟨gl, cl, el, -⟩ := row_slice h.lr hn
  obtain ⟨sb, nv, hv, tv, lv, rv, n, w0⟩ := F
  dsimp only at er et eh el
  exact ⟨sb, nv, gh, ch, gt, ct, gl, cl, gr, cr, n, w0, by rw [er, et, eh, el]⟩
theorem SMem.cells (h : SMem ⟨sb, nv, hv, tv, lv, rv, n, w0⟩ L s kv ov w) : w.cell? ⟨sb, 0, none⟩ = some nv ∧ w.cell? ⟨sb, 1, none⟩ = some hv ∧ w.cell? ⟨sb, 2, none⟩ = some tv ∧ w.cell? ⟨sb, 3, none⟩ = some lv ∧ w.cell? ⟨sb, 4, none⟩ = some rv ∧ w.cell? ⟨sb, 5, none⟩ = some (.int .i64 (s.turn : Nat)) ∧ w.cell? ⟨sb, 6, none⟩ = some kv ∧ w.cell? ⟨sb, 7, none⟩ = some ov ∧ ∀ o, w.frozen? ⟨sb, o, none⟩ = false := cellsS h.box
theorem SMem.atT {g c : Nat} (h : SMem ⟨sb, nv, hv, .slice (some ⟨g, 0, none⟩) n c, lv, rv, n, w0⟩ L s kv ov w) (hn : 0 < n) : (∀ o, w.frozen? ⟨g, o, none⟩ = false) ∧ (∀ p, p < n → w.cell? ⟨g, p, none⟩ = some (.int .i64 (s.tu p : Nat))) ∧ ¬ g = sb := by
  have hr : BRow w0.heap.size w (.slice (some ⟨g, 0, none⟩) n c) (rowI n (fun p => (s.tu p : Int))) := h.tr
  exact ⟨(brow_set hr (k := 0) 0 hn).1, fun p hp => brow_at hr (rowI_at _ hp), fun e => by have e1 := h.l3 g rfl; have e2 : L sb = 1 := h.l1; rw [e, e2] at e1; omega⟩
theorem SMem.atL {g c : Nat} (h : SMem ⟨sb, nv, hv, tv, .slice (some ⟨g, 0, none⟩) n c, rv, n, w0⟩ L s kv ov w) (hn : 0 < n) : (∀ o, w.frozen? ⟨g, o, none⟩ = false) ∧ (∀ p, p < n → w.cell? ⟨g, p, none⟩ = some (.int .i64 (s.lo p : Nat))) ∧ ¬ g = sb := by
  have hr : BRow w0.heap.size w (.slice (some ⟨g, 0, none⟩) n c) (rowI n (fun p => (s.lo p : Int))) := h.lr
  exact ⟨(brow_set hr (k := 0) 0 hn).1, fun p hp => brow_at hr (rowI_at _ hp), fun e => by have e1 := h.l4 g rfl; have e2 : L sb = 1 := h.l1; rw [e, e2] at e1; omega⟩
theorem SMem.atR {g c : Nat} (h : SMem ⟨sb, nv, hv, tv, lv, .slice (some ⟨g, 0, none⟩) n c, n, w0⟩ L s kv ov w) (hn : 0 < n) : (∀ o, w.frozen? ⟨g, o, none⟩ = false) ∧ (∀ p, p < n → w.cell? ⟨g, p, none⟩ = some (.int .i64 (s.tried p : Nat))) ∧ ¬ g = sb := by
  have hr : BRow w0.heap.size w (.slice (some ⟨g, 0, none⟩) n c) (rowI n (fun p => (s.tried p : Int))) := h.rr
  exact ⟨(brow_set hr (k := 0) 0 hn).1, fun p hp => brow_at hr (rowI_at _ hp), fun e => by have e1 := h.l5 g rfl; have e2 : L sb = 1 := h.l1; rw [e, e2] at e1; omega⟩
theorem SMem.atH {g c : Nat} (h : SMem ⟨sb, nv, .slice (some ⟨g, 0, none⟩) n c, tv, lv, rv, n, w0⟩ L s kv ov w) (hn : 0 < n) : (∀ o, w.frozen? ⟨g, o, none⟩ = false) ∧ (∀ p, p < n → w.cell? ⟨g, p, none⟩ = some (.int .i64 (hdI (s.hd p)))) ∧ ¬ g = sb := by
  have hr : BRow w0.heap.size w (.slice (some ⟨g, 0, none⟩) n c) (rowI n (fun p => hdI (s.hd p))) := h.hr
  exact ⟨(brow_set hr (k := 0) 0 hn).1, fun p hp => brow_at hr (rowI_at _ hp), fun e => by have e1 := h.l2 g rfl; have e2 : L sb = 1 := h.l1; rw [e, e2] at e1; omega⟩
set_option maxHeartbeats 4000000 in
set_option maxRecDepth 100000 in
theorem tryArcS {F : SF} (hN : NxAt F.w0 F.nv F.n nx) (h : SMem F L s kv ov w) {a q : Nat} (ha : a < F.n) (hq : (nx a)[s.tried a]? = some q) (hqn : q < F.n) (hn : F.n ≤ 1000000) (hl : (nx a).length ≤ 1000000) (ht : s.turn ≤ 1000000) (hk : s.tl.length ≤ 1000000) (ho : s.op.length ≤ 1000000) :
    Calls Try.prog 63 #[.pointer (some ⟨F.sb, 0, none⟩), .int .i64 a] w fun r w' => r = .returned (.tuple #[]) ∧ Hid (SM F (s.tryStep a q) w') := by
  obtain ⟨sb, nv, gh, ch, gt, ct, gl, cl, gr, cr, n, w0, rfl⟩ := SF.shape h (by omega)
  dsimp only at hN ha hqn hn ⊢
  have hn0 : 0 < n := by omega
  obtain ⟨gn, cn, g, c, rfl, an, ag⟩ := hN.arc h.below ha hq
  have hti : s.tried a < (nx a).length := (List.getElem?_eq_some_iff.1 hq).1
  obtain ⟨c0, -, -, -, c4, -, -, -, -⟩ := h.cells
  have ar := (h.atR hn0).2.1 a ha
  have H := hide h
  have HB := hide (And.intro ha (And.intro hqn (And.intro hn (And.intro ht (And.intro hk (And.intro ho hn0))))))
  have z1 : (a : Int) < (n : Int) := by omega
  have z2 : (q : Int) < (n : Int) := by omega
  have z3 : ((s.tried a : Nat) : Int) < ((nx a).length : Int) := by omega
  have hw1 : wrap64 (((s.tried a : Nat) : Int) + 1) = ((s.tried a + 1 : Nat) : Int) := by unfold wrap64; omega
  generalize (nx a).length = m at *
  clear hN h ha hq hqn hn hl ht hk ho hti hn0
  go_enter Try.func63, Try.ntmps63
  go_wp2_with fail
  go_quiet (fail)
  have h1 := (unhide H).drew nq
  generalize w.drewN nq = w1 at *
  clear H an ag c0 c4 ar z3
  obtain ⟨ha, hqn, hn, ht, hk, ho, hn0⟩ := unhide HB
  obtain ⟨-, -, -, -, c4, -, -, -, -⟩ := h1.cells
  obtain ⟨f4, a4, q4⟩ := h1.atR hn0
  have a4 := a4 a ha
  have h2 := h1.setR (g := gr) (m := n) (c := cr) rfl ha (s.tried a + 1)
  have h2' : SMem ⟨sb, .slice (some ⟨gn, 0, none⟩) n cn, .slice (some ⟨gh, 0, none⟩) n ch, .slice (some ⟨gt, 0, none⟩) n ct, .slice (some ⟨gl, 0, none⟩) n cl, .slice (some ⟨gr, 0, none⟩) n cr, n, w0⟩ L (s.tick a) kv ov (w1.setCell ⟨gr, a, none⟩ (.int .i64 (s.tried a + 1 : Nat))) := h2
  have H2 := hide h2'
  clear h1 h2 h2' ha hqn hn ht hk ho hn0
  generalize s.tried a + 1 = r1 at *
  go_upto_region 2 with fail
  clear c4 f4 a4 hw1 q4
  generalize w1.setCell ⟨gr, a, none⟩ (.int .i64 (r1 : Nat)) = w2 at *
  have h2 := unhide H2
  obtain ⟨ha, hqn, hn, ht, hk, ho, hn0⟩ := unhide HB
  obtain ⟨-, c1, c2, c3, -, -, -, -, cf⟩ := h2.cells
  obtain ⟨-, t2, -⟩ := h2.atT hn0
  obtain ⟨-, u2, -⟩ := h2.atH hn0
  obtain ⟨vf, v2, vq⟩ := h2.atL hn0
  have t2 : w2.cell? ⟨gt, q, none⟩ = some (.int .i64 (s.tu q : Nat)) := t2 q hqn
  have u2 : w2.cell? ⟨gh, q, none⟩ = some (.int .i64 (hdI (s.hd q))) := u2 q hqn
  have v2 : w2.cell? ⟨gl, a, none⟩ = some (.int .i64 (s.lo a : Nat)) := v2 a ha
  have CE := hide (enterS h2 hqn hn ht hk ho)
  dsimp only at CE
  have CL := hide (fun v => (h2.setL (g := gl) (m := n) (c := cl) rfl ha v).drew 1)
  clear h2 hn ht hk ho ha hqn HB hn0
  by_cases hv : s.tu q = 0
  · have e : s.tryStep a q = (s.tick a).enter q := if_pos hv
    have E := hide e
    have hz : (((s.tu q : Nat) : Int) == 0) = true := by simp [hv]
    generalize s.tu q = tq at *
    clear e hv CL u2 v2 vf c1 c3 H2
    go_wp2_with fail
    refine (unhide CE).mono ?_
    rintro r w3 ⟨rfl, hh⟩
    go_wp2_with fail
    go_end0
    exact ⟨rfl, by rw [unhide E]; exact hh⟩
  · have hz : (((s.tu q : Nat) : Int) == 0) = false := by simp; omega
    clear CE
    by_cases hh : s.hd q = none
    · have e : s.tryStep a q = (s.tick a).lower a (min (s.lo a) (s.tu q)) := (if_neg hv).trans (if_pos hh)
      have E := hide e
      have hz2 : (hdI (s.hd q) == -1) = true := by rw [hh]; rfl
      have HG := hide (unhide CL (min (s.lo a) (s.tu q)))
      have HM : Hid (min ((s.lo a : Nat) : Int) ((s.tu q : Nat) : Int) = ((min (s.lo a) (s.tu q) : Nat) : Int)) := by show min ((s.lo a : Nat) : Int) ((s.tu q : Nat) : Int) = ((min (s.lo a) (s.tu q) : Nat) : Int); omega
      generalize hm : min (s.lo a) (s.tu q) = mm at *
      generalize s.tu q = tq at *
      generalize s.lo a = la at *
      generalize hdI (s.hd q) = hx at *
      clear e hv hh CL hm H2
      go_upto_region 5 with fail
      go_region
      go_wp2_with fail
      go_end0
      exact ⟨rfl, by rw [unhide E, unhide HM]; exact ⟨_, _, _, unhide HG⟩⟩
    · have e : s.tryStep a q = s.tick a := (if_neg hv).trans (if_neg hh)
      have E := hide e
      have hz2 : (hdI (s.hd q) == -1) = false := by
        have := mt hdI_none.1 hh
        simp; exact this
      generalize s.tu q = tq at *
      generalize hdI (s.hd q) = hx at *
      clear e hv hh CL
      go_wp2_with fail
      go_end0
      exact ⟨rfl, by rw [unhide E]; exact ⟨_, _, _, unhide H2⟩⟩
end
end Go.Proofs.Ytdpdghhieokcfaa
