/- components: the lists built place by place. -/
import Derived.Test.YtdpdghhieokcfaaRead92
namespace Go.Proofs.Ytdpdghhieokcfaa
open Go.RowKit Go.Maps T9
/-- The vertices at some places. -/
def cv (V : List Int) (c : List Nat) : List Int := c.map (fun p => V.getD p 0)
def compsV (V : List Int) (h : Nat → Nat) (k : Nat) : List (List Int) := (compsTo h k).map (cv V)
theorem compsV_len (V : List Int) (h : Nat → Nat) (k : Nat) : (compsV V h k).length = (headsTo h k).length := by unfold compsV; rw [List.length_map, compsTo_length]
theorem headsTo_le (h : Nat → Nat) (k : Nat) : (headsTo h k).length ≤ k := by
  have := List.length_filter_le (fun p => decide (h p = p)) (List.range k)
  rw [List.length_range] at this; exact this
theorem partTo_le (h : Nat → Nat) (k m : Nat) : (partTo h k m).length ≤ k := by
  have := List.length_filter_le (fun p => decide (h p = m)) (List.range k)
  rw [List.length_range] at this; exact this
theorem compsV_new {V : List Int} {h : Nat → Nat} (hle : ∀ p, h p ≤ p) {k : Nat} (hk : h k = k) : (compsV V h k ++ [[]]).set (headsTo h k).length [V.getD k 0] = compsV V h (k + 1) := by
  rw [← compsV_len V h k, List.set_append_right _ _ (Nat.le_refl _), Nat.sub_self]
  unfold compsV
  rw [compsTo_new hle hk, List.map_append]; rfl
theorem compsV_old {V : List Int} {h : Nat → Nat} (hle : ∀ p, h p ≤ p) {k : Nat} (hk : h k ≠ k) (hh : h (h k) = h k) : (compsV V h k)[(headsTo h (h k)).length]? = some (cv V (partTo h k (h k))) ∧ (compsV V h k).set (headsTo h (h k)).length (cv V (partTo h k (h k)) ++ [V.getD k 0]) = compsV V h (k + 1) := by
  obtain ⟨l1, l2, e1, e2, e3⟩ := compsTo_old hle hk hh
  have e4 : (l1.map (cv V)).length = (headsTo h (h k)).length := by rw [List.length_map, e2]
  unfold compsV
  rw [e1, e3, List.map_append, List.map_append, List.map_cons, List.map_cons, ← e4]
  refine ⟨?_, ?_⟩
  · rw [List.getElem?_append_right (Nat.le_refl _), Nat.sub_self]; rfl
  · rw [List.set_append_right _ _ (Nat.le_refl _), Nat.sub_self]
    simp [cv]
/-- A graph, as it is read. -/
structure GAt (w : World) (gb : Nat) (vv nv : Value) (V : List Int) (nx : Nat → List Nat) : Prop where
  box : w.heap[gb]? = some (oG9 vv nv)
  vr : NRow w vv V
  nx : NxAt w nv V.length nx
theorem GM.at_ {w0 w : World} {gb : Nat} {V : List Int} {nx : Nat → List Nat} (h : GM w0 gb V nx w) : ∃ vv nv, GAt w gb vv nv V nx := by
  obtain ⟨gn, vv, L, vs, hR⟩ := h
  exact ⟨vv, _, hR.box, brow_at0 hR.vr, hR.ll.nx⟩
theorem NxAt.below {w w' : World} {nv : Value} {n : Nat} {nx : Nat → List Nat} (h : NxAt w nv n nx) (hb : Below w.heap.size w w') : NxAt w' nv n nx := by
  obtain ⟨gn, cn, e, h1, h2, h3⟩ := h
  refine ⟨gn, cn, e, Nat.lt_of_lt_of_le h1 hb.size, h2, fun p hp => ?_⟩
  obtain ⟨v, v1, v2⟩ := h3 p hp
  exact ⟨v, (hb.cell (p := ⟨gn, p, none⟩) h1).trans v1, nrow_below v2 hb⟩
theorem GAt.below {w w' : World} {gb : Nat} {vv nv : Value} {V : List Int} {nx : Nat → List Nat} (h : GAt w gb vv nv V nx) (hb : Below w.heap.size w w') : GAt w' gb vv nv V nx :=
  ⟨(hb.block gb (heap_lt h.box)).trans h.box, nrow_below h.vr hb, h.nx.below hb⟩
/-- What components has made so far. -/
structure CM (w0 : World) (n : Nat) (wh hvv : Value) (h : Nat → Nat) (f : Nat → Int) (L : Nat → Nat) (lv : Value) (lvs : List Value) (xss : List (List Int)) (w : World) : Prop where
  ll : LLat w0.heap.size L 10 w lv lvs xss
  wr : BRow w0.heap.size w wh (rowI n f)
  hr : BRow w0.heap.size w hvv (rowI n (fun p => ((h p : Nat) : Int)))
  l2 : ∀ b, wh.ownBlock = some b → L b = 2
  l3 : ∀ b, hvv.ownBlock = some b → L b = 3
  below : Below w0.heap.size w0 w
section
variable {w0 w w' : World} {n : Nat} {wh hvv lv : Value} {h : Nat → Nat} {f : Nat → Int} {L : Nat → Nat} {lvs : List Value} {xss : List (List Int)}
theorem CM.drew (hC : CM w0 n wh hvv h f L lv lvs xss w) (q : Nat) : CM w0 n wh hvv h f L lv lvs xss (w.drewN q) :=
  ⟨hC.ll.kept (fun _ _ _ => rfl), brow_kept hC.wr (fun _ _ => rfl), brow_kept hC.hr (fun _ _ => rfl), hC.l2, hC.l3, ⟨hC.below.os, hC.below.tape, hC.below.output, hC.below.size, hC.below.block⟩⟩
theorem CM.setW (hC : CM w0 n wh hvv h f L lv lvs xss w) {g m c p : Nat} (e : wh = .slice (some ⟨g, 0, none⟩) m c) (hp : p < m) (x : Int) : CM w0 n wh hvv h (fun y => if y = p then x else f y) L lv lvs xss (w.setCell ⟨g, p, none⟩ (.int .i64 x)) := by
  have hk : ∀ b, L b ≠ 2 → (w.setCell ⟨g, p, none⟩ (.int .i64 x)).heap[b]? = w.heap[b]? := fun b hL => heap_setCell_other _ _ _ _ (fun q => hL (hC.l2 b (by rw [e, q]; rfl)))
  have h1 := hC.wr
  rw [e] at h1
  have h2 := (brow_set h1 (k := p) x hp).2
  rw [rowI_set, ← e] at h2
  exact ⟨hC.ll.kept (fun b _ hL => hk b (by omega)), h2, brow_kept hC.hr (fun b eb => hk b (by rw [hC.l3 b eb]; decide)), hC.l2, hC.l3, hC.below.setCell (row_own hC.wr e).1 _⟩
/-- One empty list more. -/
theorem CM.push (hC : CM w0 n wh hvv h f L lv lvs xss w) (hl : xss.length ≤ 1000000) : ∃ x m c w', (∀ ty, (Builtin.append_ #[27, 27] ty #[lv, .slice (some ⟨w.heap.size, 0, none⟩) 1 1]).run Try.prog (w.alloc (.cells #[.slice none 0 0] 22)) = .ok (.slice x m c) w') ∧ CM w0 n wh hvv h f (lab L w.heap.size 10) (.slice x m c) (lvs ++ [.slice none 0 0]) (xss ++ [[]]) w' := by
  obtain ⟨x, m, c, w', r, h1, ht⟩ := hC.ll.push hC.below.size hl
  refine ⟨x, m, c, w', r, h1, brow_kept hC.wr (fun b e => ht.block b (hC.wr.lt b e).2 (fun q => by have := hC.ll.lo b q; have := hC.l2 b e; omega)), brow_kept hC.hr (fun b e => ht.block b (hC.hr.lt b e).2 (fun q => by have := hC.ll.lo b q; have := hC.l3 b e; omega)), fun b e => (if_pos (hC.wr.lt b e).2).trans (hC.l2 b e), fun b e => (if_pos (hC.hr.lt b e).2).trans (hC.l3 b e), hC.below.trans (ht.below hC.below.size (fun k e => (hC.ll.outlt e).1))⟩
/-- One number more at the end of a list. -/
theorem CM.put {gl m c i : Nat} {ks : List Int} (hC : CM w0 n wh hvv h f L (.slice (some ⟨gl, 0, none⟩) m c) lvs xss w) (hi : xss[i]? = some ks) (hl : ks.length ≤ 1000000) (y : Int) :
    ∃ x xn xc x' xn' xc' w', w.cell? ⟨gl, i, none⟩ = some (.slice x xn xc) ∧ (∀ ty, (Builtin.append_ #[22, 22] ty #[.slice x xn xc, .slice (some ⟨w.heap.size, 0, none⟩) 1 1]).run Try.prog (w.alloc (.cells #[.int .i64 y] 3)) = .ok (.slice x' xn' xc') w') ∧
      (w.alloc (.cells #[.int .i64 y] 3)).cell? ⟨gl, i, none⟩ = some (.slice x xn xc) ∧ w'.cell? ⟨gl, i, none⟩ = some (.slice x xn xc) ∧ (∀ o, w'.frozen? ⟨gl, o, none⟩ = false) ∧ Below w0.heap.size w0 w' ∧
      ∃ L' lvs', CM w0 n wh hvv h f L' (.slice (some ⟨gl, 0, none⟩) m c) lvs' (xss.set i (ks ++ [y])) (w'.setCell ⟨gl, i, none⟩ (.slice x' xn' xc')) := by
  obtain ⟨xv, hx, hr⟩ := hC.ll.inrow hi
  obtain ⟨x, xc, rfl, -⟩ := brow_shape hr
  obtain ⟨x', xn', xc', w', r, hr', ht, hn⟩ := run_app8 y hr hC.below.size (by omega)
  have hb1 := below_new w (.cells #[.int .i64 y] 3)
  have hLx : ∀ b, (Value.slice x ks.length xc).ownBlock = some b → L b = 10 + 1 + i := fun b e => hC.ll.li i _ b hx e
  have hkn : w'.heap[gl]? = w.heap[gl]? := ht.block gl (hC.ll.outlt rfl).2 (fun e => by have := hLx gl e; have := hC.ll.lo gl rfl; omega)
  have hcell := hC.ll.cell hx
  have h3 := hC.ll.put hx ht hr' hn
  have hB : Below w0.heap.size w0 w' := hC.below.trans (ht.below hC.below.size (fun k e => (hC.ll.inlt hx e).1))
  have hoth : ∀ b, L b ≠ 10 → L b ≠ 10 + 1 + i → b < w.heap.size → (w'.setCell ⟨gl, i, none⟩ (.slice x' xn' xc')).heap[b]? = w.heap[b]? := fun b q1 q2 q3 => (heap_setCell_other _ _ _ _ (fun q => q1 (by rw [show b = gl from q]; exact hC.ll.lo gl rfl))).trans (ht.block b q3 (fun q => q2 (hLx b q)))
  refine ⟨x, _, xc, x', xn', xc', w', hcell, r, (hC.ll.below hb1).cell hx, (cell_of_heap (x := ⟨gl, i, none⟩) hkn).trans hcell, ?_, hB, lab L w.heap.size (10 + 1 + i), lvs.set i (.slice x' xn' xc'), ⟨h3, ?_, ?_, ?_, ?_, ?_⟩⟩
  · intro o
    rw [World.frozen?_of_block (w := w) hkn]
    exact hC.ll.frozen o
  · exact brow_kept hC.wr (fun b e => hoth b (by rw [hC.l2 b e]; decide) (by rw [hC.l2 b e]; omega) (hC.wr.lt b e).2)
  · exact brow_kept hC.hr (fun b e => hoth b (by rw [hC.l3 b e]; decide) (by rw [hC.l3 b e]; omega) (hC.hr.lt b e).2)
  · exact fun b e => (if_pos (hC.wr.lt b e).2).trans (hC.l2 b e)
  · exact fun b e => (if_pos (hC.hr.lt b e).2).trans (hC.l3 b e)
  · exact hB.setCell (hC.ll.outlt (b := gl) rfl).1 _
end
/-- At the k-th place. -/
def CMk (w0 : World) (V : List Int) (wh hvv : Value) (h : Nat → Nat) (k : Nat) (lv : Value) (w : World) : Prop := ∃ f L lvs, CM w0 V.length wh hvv h f L lv lvs (compsV V h k) w ∧ ∀ m, m < k → h m = m → f m = ((headsTo h m).length : Nat)
/-- A list of lists of new memory. -/
def LLs (w0 : World) (v : Value) (xss : List (List Int)) (w : World) : Prop := ∃ L lvs, LLat w0.heap.size L 10 w v lvs xss
end Go.Proofs.Ytdpdghhieokcfaa
