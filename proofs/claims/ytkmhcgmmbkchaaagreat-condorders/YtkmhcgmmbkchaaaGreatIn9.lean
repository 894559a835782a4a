/- The reference's in and Comp. -/
import Derived.Test.YtkmhcgmmbkchaaaGreatLow9
import Derived.Laws.Rows
import Derived.Test.YtkmhcgmmbkchaaaGreatArcsW10
namespace Go.Proofs.YtkmhcgmmbkchaaaGreat

section
open Go.RowKit Go.Maps T9
/-- A record: its number, where it begins and ends, its weight's bits. -/
abbrev EdV := Int × Int × Int × Int
def encE9 (es : List EdV) : List Value := es.flatMap (fun a => [.int .i64 a.1, .int .i64 a.2.1, .int .i64 a.2.2.1, .int .u32 a.2.2.2])
theorem encE9_len (l : List EdV) : (encE9 l).length = l.length * 4 := by
  induction l with
  | nil => rfl
  | cons a l ih => show (_ :: _ :: _ :: _ :: encE9 l).length = _; simp only [List.length_cons, ih]; omega
theorem encE9_append (a b : List EdV) : encE9 (a ++ b) = encE9 a ++ encE9 b := by simp [encE9]
theorem encE9_one (l : List EdV) : ∀ u ∈ encE9 l, u.oneCell' = true := by
  intro u hu
  simp only [encE9, List.mem_flatMap, List.mem_cons, List.not_mem_nil, or_false] at hu
  obtain ⟨r, -, rfl | rfl | rfl | rfl⟩ := hu <;> rfl
theorem encE9_at : ∀ {l : List EdV} {i : Nat} {a : EdV}, l[i]? = some a → (encE9 l)[i * 4]? = some (.int .i64 a.1) ∧ (encE9 l)[i * 4 + 1]? = some (.int .i64 a.2.1) ∧ (encE9 l)[i * 4 + 2]? = some (.int .i64 a.2.2.1) ∧ (encE9 l)[i * 4 + 3]? = some (.int .u32 a.2.2.2)
  | [], i, a, h => by cases h
  | x :: l, 0, a, h => by injection h with h; subst h; exact ⟨rfl, rfl, rfl, rfl⟩
  | x :: l, i + 1, a, h => by
    have := encE9_at (l := l) (i := i) (a := a) h
    rw [show (i + 1) * 4 = i * 4 + 1 + 1 + 1 + 1 by omega]
    exact this
abbrev ERow (B : Nat) (w : World) (v : Value) (l : List EdV) : Prop := w.ownsRow B 45 4 v l.length (encE9 l)
theorem erow_kept {B : Nat} {w w' : World} {v : Value} {l : List EdV} (h : ERow B w v l) (hk : ∀ b, v.ownBlock = some b → w'.heap[b]? = w.heap[b]?) : ERow B w' v l := by
  refine ⟨h.1, ?_⟩
  rcases h.2 with hn | ⟨g, cap, cur, e, hb, hgg, rest⟩
  · exact .inl hn
  · exact .inr ⟨g, cap, cur, e, hb, (hk g (by rw [e]; rfl)).trans hgg, rest⟩
theorem erow_below {B : Nat} {w w' : World} {v : Value} {l : List EdV} (h : ERow B w v l) (hb : Below w.heap.size w w') : ERow B w' v l := erow_kept h (fun b e => hb.block b (h.lt b e).2)
theorem erow_zero {B : Nat} {w : World} {v : Value} {l : List EdV} (h : ERow B w v l) : ERow 0 w v l := ⟨h.1, h.2.imp id (fun ⟨g, cap, cur, e, _, r⟩ => ⟨g, cap, cur, e, Nat.zero_le _, r⟩)⟩
theorem erow_shape {B : Nat} {w : World} {v : Value} {l : List EdV} (h : ERow B w v l) : ∃ a c, v = .slice a l.length c ∧ l.length ≤ c := by
  rcases h.2 with ⟨e, h0⟩ | ⟨g', cap, cur, e, -, -, hc, -⟩
  · exact ⟨none, 0, by rw [e, h0], by omega⟩
  · exact ⟨_, _, e, hc⟩
theorem erow_some {B : Nat} {w : World} {a : Option Addr} {n c : Nat} {l : List EdV} (h : ERow B w (.slice a n c) l) (h0 : 0 < l.length) : ∃ g, a = some ⟨g, 0, none⟩ := by
  rcases h.2 with ⟨e, h1⟩ | ⟨g', cap, cur, e, -⟩
  · omega
  · injection e with e1; exact ⟨g', e1⟩
theorem erow_at {B : Nat} {w : World} {g n c i : Nat} {l : List EdV} {a : EdV} (h : ERow B w (.slice (some ⟨g, 0, none⟩) n c) l) (hi : l[i]? = some a) : w.cell? ⟨g, i * 4, none⟩ = some (.int .i64 a.1) ∧ w.cell? ⟨g, i * 4 + 1, none⟩ = some (.int .i64 a.2.1) ∧ w.cell? ⟨g, i * 4 + 2, none⟩ = some (.int .i64 a.2.2.1) ∧ w.cell? ⟨g, i * 4 + 3, none⟩ = some (.int .u32 a.2.2.2) := by
  obtain ⟨h1, h2, h3, h4⟩ := encE9_at hi
  have f1 := h.cells (g := g) rfl _ _ h1
  have f2 := h.cells (g := g) rfl _ _ h2
  have f3 := h.cells (g := g) rfl _ _ h3
  have f4 := h.cells (g := g) rfl _ _ h4
  rw [addr_off, Nat.zero_add] at f1 f2 f3 f4
  exact ⟨f1, f2, f3, f4⟩
set_option maxHeartbeats 1000000 in
set_option maxRecDepth 100000 in
theorem infoED : (Tryz.prog.info? 45).map (fun i => (i.zero, i.size, i.bytes)) = some (some (.agg #[.int .i64 0, .int .i64 0, .int .i64 0, .int .u32 0]), 4, 32) := by kernel_rfl
/-- A record in a block of its own. -/
def oEd (x : EdV) : Obj := .cells #[.int .i64 x.1, .int .i64 x.2.1, .int .i64 x.2.2.1, .int .u32 x.2.2.2] 45 (0, 0)
/-- One record more. -/
theorem run_appE {B : Nat} {w : World} {v : Value} {l : List EdV} (x : EdV) (h : ERow B w v l) (hB : B ≤ w.heap.size) (hl : l.length ≤ 1000000) :
    ∃ a' n' c' w', (∀ ty, (Builtin.append_ #[26, 26] ty #[v, .slice (some ⟨w.heap.size, 0, none⟩) 1 1]).run Tryz.prog (w.alloc (oEd x)) = .ok (.slice a' n' c') w') ∧ ERow B w' (.slice a' n' c') (l ++ [x]) ∧ Turned (fun b => v.ownBlock = some b) w w' ∧ ∀ b, (Value.slice a' n' c').ownBlock = some b → v.ownBlock = some b ∨ w.heap.size ≤ b := by
  have hb1 := below_new w (oEd x)
  have h1 := erow_below h hb1
  obtain ⟨i, hi, hz, hsz, hb⟩ := info_parts infoED
  have hcell : ∀ j u, (encE9 [x])[j]? = some u → (w.alloc (oEd x)).cell? ((⟨w.heap.size, 0, none⟩ : Addr).add j) = some u := fun j u hj => by
    rw [addr_off, Nat.zero_add, cell_of_row _ _ j _ _ (0, 0) (heap_alloc_new w (oEd x)), ← hj]; simp [encE9]
  obtain ⟨v', w', hr, g1, g2, -, g5⟩ := run_append_own_at (P := Tryz.prog) (w.alloc (oEd x)) B 26 0 45 i _ 4 32 Tryz.underlying26 hi hz hsz hb rfl (by omega) v l.length (encE9 l) h1 ⟨w.heap.size, 0, none⟩ 1 1 (encE9 [x]) (by simp [encE9]) hcell (encE9_one [x]) (by unfold maxLen; omega) (by omega) (Nat.le_trans hB hb1.size)
  have e2 : l.length + 1 = (l ++ [x]).length := by simp
  rw [← encE9_append, e2] at g1
  have g1' : ERow B w' v' (l ++ [x]) := g1
  obtain ⟨a', c', e, -⟩ := erow_shape g1'
  subst e
  refine ⟨a', _, c', w', fun ty => hr, g1', (turned_of_below hb1).trans ⟨g2.os, g2.tape, g2.output, g2.size, fun k hk hn => g2.block k hk (fun e => hn e.symm)⟩, fun b eb => ?_⟩
  rcases g5 with q | q
  · exact .inl (by rw [← q]; exact eb)
  · have eb2 := Option.some.inj (q.symm.trans eb); exact .inr (by have := hb1.size; omega)
/-- The graph that is built: its box and the box of the result. -/
structure GP (w0 : World) (gr gb : Nat) (vv ev : Value) (V : List Int) (es : List EdV) (L : Nat → Nat) (W : World) : Prop where
  base : Below w0.heap.size w0 W
  box : W.heap[gb]? = some (oGr vv ev 0 0)
  res : W.heap[gr]? = some (oGr (.slice none 0 0) (.slice none 0 0) 0 0)
  vs : BRow w0.heap.size W vv V
  es : ERow w0.heap.size W ev es
  l1 : L gb = 1
  l2 : L gr = 2
  lv : ∀ b, vv.ownBlock = some b → L b = 3
  le : ∀ b, ev.ownBlock = some b → L b = 4
  hb : w0.heap.size ≤ gb
  hr : w0.heap.size ≤ gr
section
variable {w0 W W' : World} {gr gb : Nat} {vv ev : Value} {V : List Int} {es : List EdV} {L : Nat → Nat}
theorem GP.below (h : GP w0 gr gb vv ev V es L W) (hb : Below W.heap.size W W') : GP w0 gr gb vv ev V es L W' :=
  ⟨h.base.trans (hb.mono h.base.size), (hb.block gb (heap_lt h.box)).trans h.box, (hb.block gr (heap_lt h.res)).trans h.res, brow_kept h.vs (fun b e => hb.block b (h.vs.lt b e).2), erow_below h.es hb, h.l1, h.l2, h.lv, h.le, h.hb, h.hr⟩
theorem GP.app (h : GP w0 gr gb vv ev V es L W) (x : EdV) (hl : es.length ≤ 1000000) :
    ∃ a' n' c' w', (∀ ty, (Builtin.append_ #[26, 26] ty #[ev, .slice (some ⟨W.heap.size, 0, none⟩) 1 1]).run Tryz.prog (W.alloc (oEd x)) = .ok (.slice a' n' c') w') ∧ w'.heap[gb]? = some (oGr vv ev 0 0) ∧ Below w0.heap.size w0 w' ∧ ∃ L', GP w0 gr gb vv (.slice a' n' c') V (es ++ [x]) L' (w'.setCell ⟨gb, 1, none⟩ (.slice a' n' c')) := by
  obtain ⟨a', n', c', w', r, g1, g2, g3⟩ := run_appE x h.es h.base.size hl
  have hlt := heap_lt h.box
  have hlr := heap_lt h.res
  have hbx : w'.heap[gb]? = some (oGr vv ev 0 0) := (g2.block gb hlt (fun q => by have := h.le gb q; have := h.l1; omega)).trans h.box
  have hne : ∀ b, b ≠ gb → (w'.setCell ⟨gb, 1, none⟩ (.slice a' n' c')).heap[b]? = w'.heap[b]? := fun b q => heap_setCell_other _ _ _ _ q
  have hB' : Below w0.heap.size w0 w' := h.base.trans (g2.below h.base.size (fun b e => (h.es.lt b e).1))
  refine ⟨a', n', c', w', r, hbx, hB', lab L W.heap.size 4, ?_, ?_, ?_, ?_, ?_, ?_, ?_, ?_, ?_, h.hb, h.hr⟩
  · exact hB'.setCell (p := ⟨gb, 1, none⟩) h.hb _
  · rw [heap_setCell_same _ _ _ _ _ _ hbx]; rfl
  · rw [hne gr (fun e => by have := h.l1; have := h.l2; rw [e] at this; omega)]
    exact (g2.block gr hlr (fun q => by have := h.le gr q; have := h.l2; omega)).trans h.res
  · refine brow_kept h.vs (fun b e => ?_)
    have := h.lv b e
    rw [hne b (fun q => by rw [q, h.l1] at this; omega)]
    exact g2.block b (h.vs.lt b e).2 (fun q => by have := h.le b q; omega)
  · refine erow_kept g1 (fun b e => hne b (fun q => ?_))
    rcases g3 b e with z | z
    · have := h.le b z; rw [q, h.l1] at this; omega
    · omega
  · exact (if_pos hlt).trans h.l1
  · exact (if_pos hlr).trans h.l2
  · exact fun b e => (if_pos (h.vs.lt b e).2).trans (h.lv b e)
  · intro b e
    rcases g3 b e with z | z
    · exact (if_pos (h.es.lt b z).2).trans (h.le b z)
    · exact if_neg (by omega)
end
/-- The records of arcs. -/
def edgesOf (l : List (Int × Int)) : List EdV := (List.range l.length).map (fun i : Nat => ((i : Int) + 1, (l.getD i (0, 0)).1, (l.getD i (0, 0)).2, 0))
theorem edgesOf_len (l : List (Int × Int)) : (edgesOf l).length = l.length := by simp [edgesOf]
theorem edgesOf_at {l : List (Int × Int)} {i : Nat} {a : Int × Int} (h : l[i]? = some a) : (edgesOf l)[i]? = some ((i : Int) + 1, a.1, a.2, 0) := by
  have hl := (List.getElem?_eq_some_iff.1 h).1
  unfold edgesOf
  rw [List.getElem?_map, List.getElem?_range hl, Option.map_some, List.getD_eq_getElem?_getD, h]; rfl
theorem edgesOf_snoc {l : List (Int × Int)} {i : Nat} {a : Int × Int} (h : l[i]? = some a) : edgesOf (l.take i) ++ [((i : Int) + 1, a.1, a.2, 0)] = edgesOf (l.take (i + 1)) := by
  have hl := (List.getElem?_eq_some_iff.1 h).1
  apply List.ext_getElem?
  intro k
  have hlen : (edgesOf (l.take i)).length = i := by rw [edgesOf_len, List.length_take]; omega
  rcases Nat.lt_trichotomy k i with q | q | q
  · rw [List.getElem?_append_left (by omega), edgesOf_at (a := l[k]) (by rw [List.getElem?_take, if_pos q]; exact List.getElem?_eq_getElem (by omega)), edgesOf_at (a := l[k]) (by rw [List.getElem?_take, if_pos (by omega)]; exact List.getElem?_eq_getElem (by omega))]
  · subst q
    rw [List.getElem?_append_right (by omega), hlen, Nat.sub_self, edgesOf_at (a := a) (by rw [List.getElem?_take, if_pos (by omega)]; exact h)]; rfl
  · rw [List.getElem?_eq_none (by rw [List.length_append, hlen]; simp; omega), List.getElem?_eq_none (by rw [edgesOf_len, List.length_take]; omega)]
/-- The arcs of records. -/
def arcsE (es : List EdV) : List (Int × Int) := es.map (fun e => (e.2.1, e.2.2.1))
theorem arcsE_of (l : List (Int × Int)) : arcsE (edgesOf l) = l := by
  unfold arcsE
  apply List.ext_getElem?
  intro k
  rw [List.getElem?_map]
  cases h : l[k]? with
  | none => rw [List.getElem?_eq_none (by rw [edgesOf_len]; exact List.getElem?_eq_none_iff.1 h)]; rfl
  | some a => rw [edgesOf_at h]; rfl
def GrAns (w : World) (ks : List Int) (l : List (Int × Int)) (e : Ending) (w' : World) : Prop := ∃ va vn vc ea en ec V, e = .returned (.agg #[.slice va vn vc, .slice ea en ec, .int .i64 0, .int .i64 0]) ∧ V.Perm ks ∧ V.Pairwise (· ≤ ·) ∧ NRow w' (.slice va vn vc) V ∧ ERow 0 w' (.slice ea en ec) (edgesOf l) ∧ Below w.heap.size w w'
def set4r (w : World) (g : Nat) (a b c d : Value) : World := (((w.setCell ⟨g, 0, none⟩ a).setCell ⟨g, 1, none⟩ b).setCell ⟨g, 2, none⟩ c).setCell ⟨g, 3, none⟩ d
theorem set4r_at {w : World} {g : Nat} {x0 x1 x2 x3 : Value} (h : w.heap[g]? = some (.cells #[x0, x1, x2, x3] 28 (0, 0))) (a b c d : Value) : (set4r w g a b c d).heap[g]? = some (.cells #[a, b, c, d] 28 (0, 0)) := by
  have e0 : (w.setCell ⟨g, 0, none⟩ a).heap[g]? = some (.cells #[a, x1, x2, x3] 28 (0, 0)) := by rw [heap_setCell_same _ _ _ _ _ _ h]; rfl
  have e1 : ((w.setCell ⟨g, 0, none⟩ a).setCell ⟨g, 1, none⟩ b).heap[g]? = some (.cells #[a, b, x2, x3] 28 (0, 0)) := by rw [heap_setCell_same _ _ _ _ _ _ e0]; rfl
  have e2 : (((w.setCell ⟨g, 0, none⟩ a).setCell ⟨g, 1, none⟩ b).setCell ⟨g, 2, none⟩ c).heap[g]? = some (.cells #[a, b, c, x3] 28 (0, 0)) := by rw [heap_setCell_same _ _ _ _ _ _ e1]; rfl
  unfold set4r
  rw [heap_setCell_same _ _ _ _ _ _ e2]; rfl
theorem set4r_turned (w : World) (g : Nat) (a b c d : Value) : Turned (fun k => k = g) w (set4r w g a b c d) := setCells_turned (S := fun k => k = g) g rfl [a, b, c, d] 0 w
end

section
open Go.RowKit Go.Maps T9
/-- A row of truth values. -/
abbrev TRow (B : Nat) (w : World) (v : Value) (bs : List Bool) : Prop := w.ownsRow B 4 1 v bs.length (bs.map Value.bool)
theorem trow_kept {B : Nat} {w w' : World} {v : Value} {bs : List Bool} (h : TRow B w v bs) (hk : ∀ b, v.ownBlock = some b → w'.heap[b]? = w.heap[b]?) : TRow B w' v bs := by
  refine ⟨h.1, ?_⟩
  rcases h.2 with hn | ⟨g, cap, cur, e, hb, hgg, rest⟩
  · exact .inl hn
  · exact .inr ⟨g, cap, cur, e, hb, (hk g (by rw [e]; rfl)).trans hgg, rest⟩
theorem trow_at {B : Nat} {w : World} {g n c : Nat} {bs : List Bool} (h : TRow B w (.slice (some ⟨g, 0, none⟩) n c) bs) {j : Nat} {e : Bool} (hj : bs[j]? = some e) : w.cell? ⟨g, j, none⟩ = some (.bool e) := by
  have := h.cells (g := g) rfl j (.bool e) (by rw [List.getElem?_map, hj]; rfl)
  rwa [addr_off, Nat.zero_add] at this
theorem trow_zero {B : Nat} {w : World} {v : Value} {bs : List Bool} (h : TRow B w v bs) : TRow 0 w v bs := ⟨h.1, h.2.imp id (fun ⟨g, cap, cur, e, _, r⟩ => ⟨g, cap, cur, e, Nat.zero_le _, r⟩)⟩
theorem trow_low {B B' : Nat} {w : World} {v : Value} {bs : List Bool} (h : TRow B' w v bs) (hb : B ≤ B') : TRow B w v bs := ⟨h.1, h.2.imp id (fun ⟨g, cap, cur, e, q, r⟩ => ⟨g, cap, cur, e, Nat.le_trans hb q, r⟩)⟩
theorem trow_set {B : Nat} {W : World} {g n c k : Nat} {bs : List Bool} (h : TRow B W (.slice (some ⟨g, 0, none⟩) n c) bs) (x : Bool) : (∀ o, W.frozen? ⟨g, o, none⟩ = false) ∧ TRow B (W.setCell ⟨g, k, none⟩ (.bool x)) (.slice (some ⟨g, 0, none⟩) n c) (bs.set k x) := by
  rcases h.2 with ⟨e, -⟩ | ⟨g', cap, cur, e, hb, hgg, hc, hm, hs, ht⟩
  · cases e
  · obtain rfl : g = g' := by injection e with e1; injection e1 with e1; injection e1
    refine ⟨fun o => frozen_of_row W _ o _ _ hgg, by simp, .inr ⟨g, cap, _, ?_, hb, heap_setCell_same W g k cur 4 _ hgg, ?_, hm, by simpa using hs, ?_⟩⟩
    · rw [List.length_set]; exact e
    · rw [List.length_set]; exact hc
    · rw [List.length_set, Array.toList_setIfInBounds, List.take_set, ht, List.map_set]
set_option maxHeartbeats 1000000 in
set_option maxRecDepth 100000 in
theorem info4 : (Tryz.prog.info? 4).map (fun i => (i.zero, i.size, i.bytes)) = some (some (.bool false), 1, 1) := by kernel_rfl
theorem mkB {n : Nat} (hn : n ≤ 1000000) (w : World) : (Instr.makeSlice 94 (.int .i64 (n : Nat)) (.int .i64 (n : Nat))).run Tryz.prog w = .ok (.slice (some ⟨w.heap.size, 0, none⟩) n n) (w.alloc (.cells (madeCells #[.bool false] n) 4)) :=
  run_make_row' 94 4 (.bool false) 1 Tryz.underlying94 info4 rfl .i64 .i64 n (by omega) (by omega) w
theorem trow_made (n : Nat) (hn : n ≤ 1000000) (w : World) : TRow w.heap.size (w.alloc (.cells (madeCells #[.bool false] n) 4)) (.slice (some ⟨w.heap.size, 0, none⟩) n n) (List.replicate n false) := by
  refine ⟨by simp, .inr ⟨w.heap.size, n, madeCells #[.bool false] n, by simp, Nat.le_refl _, heap_alloc_new _ _, by simp, by unfold maxLen; omega, ?_, ?_⟩⟩
  · rw [← Array.length_toList, made_list]; simp
  · rw [made_list]; simp
/-- The search as it stands: what is marked is reached, and where it begins is marked. -/
structure Mk (nx : Nat → List Nat) (V : List Int) (s : Int) (bs : List Bool) : Prop where
  len : bs.length = V.length
  sound : ∀ j : Nat, bs[j]? = some true → ∃ p : Nat, V[p]? = some s ∧ T9.Reach nx p j
  start : ∀ p : Nat, V[p]? = some s → bs[p]? = some true
/-- Of the first k records each one's end is marked where its beginning is. -/
def Shut9 (V : List Int) (es : List EdV) (bs : List Bool) (k : Nat) : Prop := ∀ (j : Nat) (e : EdV), j < k → es[j]? = some e → bs[V.idxOf e.2.1]? = some true → bs[V.idxOf e.2.2.1]? = some true
theorem idx_at9 {V : List Int} (hs : V.Pairwise (· < ·)) {p : Nat} {x : Int} (h : V[p]? = some x) : V.idxOf x = p := by
  obtain ⟨l1, e1⟩ := List.getElem?_eq_some_iff.1 h
  have hm : x ∈ V := List.mem_of_getElem? h
  obtain ⟨l2, e2⟩ := List.getElem?_eq_some_iff.1 (idx_some hm)
  have hne := List.pairwise_iff_getElem.1 hs
  rcases Nat.lt_trichotomy (V.idxOf x) p with q | q | q
  · have := hne _ p l2 l1 q; rw [e1, e2] at this; simp at this
  · exact q
  · have := hne p _ l1 l2 q; rw [e1, e2] at this; simp at this
section
variable {V : List Int} {es : List EdV} {s : Int} {bs : List Bool}
theorem next_edge {i : Nat} {e : EdV} (h : es[i]? = some e) (hu : e.2.1 ∈ V) : V.idxOf e.2.2.1 ∈ nextOf V (arcsE es) (V.idxOf e.2.1) :=
  mem_nextOf.2 ⟨(e.2.1, e.2.2.1), List.mem_map.2 ⟨e, List.mem_of_getElem? h, rfl⟩, idx_some hu, rfl⟩
theorem Mk.mark (h : Mk (nextOf V (arcsE es)) V s bs) {i : Nat} {e : EdV} (hi : es[i]? = some e) (hu : e.2.1 ∈ V) (hm : bs[V.idxOf e.2.1]? = some true) : Mk (nextOf V (arcsE es)) V s (bs.set (V.idxOf e.2.2.1) true) := by
  refine ⟨by rw [List.length_set]; exact h.len, fun j hj => ?_, fun p hp => ?_⟩
  · by_cases q : V.idxOf e.2.2.1 = j
    · obtain ⟨p, h1, h2⟩ := h.sound _ hm
      exact ⟨p, h1, by rw [← q]; exact h2.step (next_edge hi hu)⟩
    · rw [List.getElem?_set_ne q] at hj; exact h.sound j hj
  · by_cases q : V.idxOf e.2.2.1 = p
    · rw [q, List.getElem?_set_self]; exact (by rw [h.len]; exact (List.getElem?_eq_some_iff.1 hp).1)
    · rw [List.getElem?_set_ne q]; exact h.start p hp
theorem Mk.done (h : Mk (nextOf V (arcsE es)) V s bs) (hsd : V.Pairwise (· < ·)) (hc : Shut9 V es bs es.length) : ∀ j : Nat, bs[j]? = some true ↔ ∃ p : Nat, V[p]? = some s ∧ T9.Reach (nextOf V (arcsE es)) p j := fun j => by
  refine ⟨h.sound j, fun ⟨p, h1, h2⟩ => ?_⟩
  refine Reach.closed (C := fun q => bs[q]? = some true) (fun q hq r hr => ?_) h2 (h.start p h1)
  obtain ⟨a, ha, e1, e2⟩ := mem_nextOf.1 hr
  obtain ⟨e, he, rfl⟩ := List.mem_map.1 ha
  obtain ⟨i, hi⟩ := List.mem_iff_getElem?.1 he
  have h5 : V.idxOf e.2.1 = q := idx_at9 hsd e1
  rw [← e2]
  exact hc i e (List.getElem?_eq_some_iff.1 hi).1 hi (by rw [h5]; exact hq)
end
theorem falses_set : ∀ {bs : List Bool} {i : Nat}, bs[i]? = some false → (bs.set i true).count false + 1 = bs.count false
  | [], i, h => by cases h
  | b :: bs, 0, h => by injection h with h; subst h; simp
  | b :: bs, i + 1, h => by
    have := falses_set (bs := bs) (i := i) h
    rw [List.set_cons_succ, List.count_cons, List.count_cons]; omega
def RcAns (w : World) (V : List Int) (es : List EdV) (s : Int) (e : Ending) (w' : World) : Prop := ∃ g n c bs, e = .returned (.slice (some ⟨g, 0, none⟩) n c) ∧ n = V.length ∧ TRow w.heap.size w' (.slice (some ⟨g, 0, none⟩) n c) bs ∧ bs.length = V.length ∧ (∀ j : Nat, bs[j]? = some true ↔ ∃ p : Nat, V[p]? = some s ∧ T9.Reach (nextOf V (arcsE es)) p j) ∧ Below w.heap.size w w'
/-- The row of marks; all that was there when it was made stands. -/
def RP (wb : World) (gi n : Nat) (bs : List Bool) (W : World) : Prop := TRow wb.heap.size W (.slice (some ⟨gi, 0, none⟩) n n) bs ∧ Below wb.heap.size wb W
theorem RP.below {wb W W' : World} {gi n : Nat} {bs : List Bool} (h : RP wb gi n bs W) (hb : Below W.heap.size W W') : RP wb gi n bs W' := ⟨trow_kept h.1 (fun b e => hb.block b (h.1.lt b e).2), h.2.trans (hb.mono h.2.size)⟩
theorem RP.set {wb W : World} {gi n k : Nat} {bs : List Bool} (h : RP wb gi n bs W) (x : Bool) : (∀ o, W.frozen? ⟨gi, o, none⟩ = false) ∧ RP wb gi n (bs.set k x) (W.setCell ⟨gi, k, none⟩ (.bool x)) := by
  obtain ⟨f, r⟩ := trow_set (k := k) h.1 x
  have ht : Turned (fun b => b = gi) W (W.setCell ⟨gi, k, none⟩ (.bool x)) := setCells_turned (S := fun b => b = gi) gi rfl [.bool x] k W
  exact ⟨f, r, h.2.trans (ht.below h.2.size (fun b e => by rw [e]; exact (h.1.lt gi rfl).1))⟩
/-- What is read of the graph in a round. -/
def SeenE (gb g2 i : Nat) (vv ev : Value) (rd wr : Int) (u x : Int) (y : World) : Prop := (y.cell? ⟨gb, 0, none⟩ = some vv ∧ y.cell? ⟨gb, 1, none⟩ = some ev ∧ y.cell? ⟨gb, 2, none⟩ = some (.int .i64 rd) ∧ y.cell? ⟨gb, 3, none⟩ = some (.int .i64 wr)) ∧ y.cell? ⟨g2, i * 4 + 1, none⟩ = some (.int .i64 u) ∧ y.cell? ⟨g2, i * 4 + 2, none⟩ = some (.int .i64 x)
set_option maxHeartbeats 8000000 in
set_option maxRecDepth 100000 in
theorem reachedS {w : World} {vv ev : Value} {rd wr_ s : Int} {V : List Int} {es : List EdV} (h : NRow w vv V) (he : ERow 0 w ev es) (hs : V.Pairwise (· < ·)) (hok : okArcs V (arcsE es)) (hl : V.length ≤ 100000) (hl2 : es.length ≤ 100000) :
    Calls Tryz.prog 73 #[.agg #[vv, ev, .int .i64 rd, .int .i64 wr_], .int .i64 s] w fun e w' => Hid (RcAns w V es s e w') := by
  have hb := below_new w (oGr vv ev rd wr_)
  have hbx := heap_alloc_new w (oGr vv ev rd wr_)
  have h1 := nrow_below h hb
  have h2 := erow_below he hb
  obtain ⟨a, c, hvv, -⟩ := brow_shape h1
  obtain ⟨ea, ec, hev, -⟩ := erow_shape h2
  obtain ⟨n, hn⟩ : ∃ n, n = V.length := ⟨_, rfl⟩
  obtain ⟨m, hm⟩ : ∃ m, m = es.length := ⟨_, rfl⟩
  rw [← hn] at hvv
  rw [← hm] at hev
  subst hvv hev
  have HB : Hid (Below w.heap.size w (w.alloc (oGr (.slice a n c) (.slice ea m ec) rd wr_)) ∧ (w.alloc (oGr (.slice a n c) (.slice ea m ec) rd wr_)).heap[w.heap.size]? = some (oGr (.slice a n c) (.slice ea m ec) rd wr_) ∧ NRow (w.alloc (oGr (.slice a n c) (.slice ea m ec) rd wr_)) (.slice a n c) V ∧ ERow 0 (w.alloc (oGr (.slice a n c) (.slice ea m ec) rd wr_)) (.slice ea m ec) es) := ⟨hb, hbx, h1, h2⟩
  have HN : Hid (n = V.length ∧ n ≤ 100000 ∧ m = es.length ∧ m ≤ 100000 ∧ V.Pairwise (· < ·) ∧ okArcs V (arcsE es)) := ⟨hn, by omega, hm, by omega, hs, hok⟩
  clear h h1 h2 hb hbx he hl hl2 hn hm hs hok
  go_enter Tryz.func73, Tryz.ntmps73
  go_upto_region 1 with fail
  change Code.wp _ _ _ _ (w.alloc (oGr (.slice a n c) (.slice ea m ec) rd wr_))
  generalize w.alloc (oGr (.slice a n c) (.slice ea m ec) rd wr_) = wb at *
  obtain ⟨gb, hgb⟩ : ∃ gb, gb = w.heap.size := ⟨_, rfl⟩
  have HGB := hide hgb
  rw [← hgb] at HB ⊢
  clear hgb
  have HC : Hid (∀ W, Below wb.heap.size wb W → W.cell? ⟨gb, 0, none⟩ = some (.slice a n c) ∧ W.cell? ⟨gb, 1, none⟩ = some (.slice ea m ec) ∧ W.cell? ⟨gb, 2, none⟩ = some (.int .i64 rd) ∧ W.cell? ⟨gb, 3, none⟩ = some (.int .i64 wr_)) := fun W hW => by
    have q := (hW.block gb (heap_lt (unhide HB).2.1)).trans (unhide HB).2.1
    obtain ⟨d0, d1, d2, d3, -⟩ := cellsGr q
    exact ⟨d0, d1, d2, d3⟩
  have k0 := (unhide HC wb (Below.refl _ _)).1
  have MK := mkB (n := n) (by have := unhide HN; omega) wb
  obtain ⟨gi, hgi⟩ : ∃ gi, gi = wb.heap.size := ⟨_, rfl⟩
  obtain ⟨w1, hw1⟩ : ∃ w1, w1 = wb.alloc (.cells (madeCells #[.bool false] n) 4) := ⟨_, rfl⟩
  have HP : Hid (RP wb gi n (List.replicate n false) w1) := by
    rw [hgi, hw1]; exact ⟨trow_made n (by have := unhide HN; omega) wb, below_new _ _⟩
  rw [← hgi, ← hw1] at MK
  have HGI := hide hgi
  clear hgi hw1
  go_upto_region 3 with fail
  clear MK k0
  go_loopw [6] (fun s6 W => ∃ (i : Nat), s6 = .int .i64 (i : Nat) ∧ i ≤ n ∧ Hid (∃ bs, RP wb gi n bs W ∧ bs.length = n ∧ ∀ j : Nat, j < i → bs[j]? = some (decide (V[j]? = some s)))) (fun s6 _ => n - (intOf s6).toNat)
  case atStart => exact ⟨0, rfl, Nat.zero_le _, _, unhide HP, by simp, fun j hj => absurd hj (Nat.not_lt_zero _)⟩
  case round =>
    obtain ⟨i, rfl, hi, hS⟩ := hrel
    clear HP
    obtain ⟨bs, hP, hbl, hbs⟩ := unhide hS
    obtain ⟨l1, l2, l3, l4, l5, l6⟩ := unhide HN
    have k0 := (unhide HC wr hP.2).1
    by_cases hlt : i < n
    · obtain ⟨y, hy⟩ : ∃ y, V[i]? = some y := ⟨_, List.getElem?_eq_getElem (by omega)⟩
      have hV := nrow_below (unhide HB).2.2.1 hP.2
      obtain ⟨g, hg⟩ := brow_some hV (by omega)
      subst hg
      have k1 := brow_at hV hy
      obtain ⟨b0, hb0⟩ : ∃ b0, bs[i]? = some b0 := ⟨_, List.getElem?_eq_getElem (by omega)⟩
      have k2 := trow_at hP.1 hb0
      obtain ⟨i1, hi1⟩ : ∃ i1, i1 = i + 1 := ⟨_, rfl⟩
      have zw : Hid (wrap64 ((i : Int) + 1) = (i1 : Int)) := by show wrap64 ((i : Int) + 1) = (i1 : Int); unfold wrap64; omega
      have HI1 := hide hi1
      have z1 : (i : Int) < (n : Int) := by omega
      have HJ : Hid (i1 ≤ n ∧ n - i1 < n - i) := ⟨by omega, by omega⟩
      obtain ⟨tv, htv⟩ : ∃ tv, tv = decide (y = s) := ⟨_, rfl⟩
      have hz : (y == s) = tv := by rw [htv]; by_cases q : y = s <;> simp [q]
      obtain ⟨fz, hP2⟩ := hP.set (k := i) tv
      have HD : Hid (∃ bs, RP wb gi n bs (wr.setCell ⟨gi, i, none⟩ (.bool tv)) ∧ bs.length = n ∧ ∀ j : Nat, j < i1 → bs[j]? = some (decide (V[j]? = some s))) := ⟨_, hP2, by rw [List.length_set]; exact hbl, fun j hj => by
        by_cases q : i = j
        · subst q
          rw [List.getElem?_set_self (by omega), htv, hy]; simp
        · rw [List.getElem?_set_ne q]; exact hbs j (by omega)⟩
      clear hP hbl hbs l1 l2 l3 l4 l5 l6 hlt hi hS hy hV hb0 hi1 htv hP2
      go_wp2_with fail
      (try rw [unhide zw])
      exact ⟨⟨i1, by first | rfl | (rw [unhide HI1]; rfl), (unhide HJ).1, by first | exact HD | (simp only [hz]; exact HD)⟩, by have := (unhide HJ).2; simp [intOf]; omega⟩
    · have z1 : ¬ (i : Int) < (n : Int) := by omega
      obtain ⟨f0, hf0⟩ : ∃ f0, f0 = bs.count false := ⟨_, rfl⟩
      have HM : Hid (∃ bs, RP wb gi n bs wr ∧ Mk (nextOf V (arcsE es)) V s bs ∧ bs.count false = f0) := by
        refine ⟨bs, hP, ⟨by omega, fun j hj => ?_, fun p hp => ?_⟩, hf0.symm⟩
        · have hj2 : j < n := by have := (List.getElem?_eq_some_iff.1 hj).1; omega
          rw [hbs j (by omega)] at hj
          have hj := Option.some.inj hj
          exact ⟨j, of_decide_eq_true hj, Reach.refl _ _⟩
        · have hj2 : p < n := by have := (List.getElem?_eq_some_iff.1 hp).1; omega
          rw [hbs p (by omega)]; simp [hp]
      clear hP hbl hbs l1 l2 l3 l4 l5 l6 hlt hi hS hf0
      go_upto_region 7 with fail
      clear z1 k0
      go_loopg [7, 8, 9, 10] (f0 + 1) (fun kk s7 s8 s9 s10 W => ∃ t : Bool, s7 = .bool t ∧ Hid (∃ bs, RP wb gi n bs W ∧ Mk (nextOf V (arcsE es)) V s bs ∧ bs.count false + t.toNat = kk ∧ (t = false → Shut9 V es bs es.length)))
      case atStart => exact ⟨true, rfl, by obtain ⟨bs, q1, q2, q3⟩ := unhide HM; exact ⟨bs, q1, q2, by rw [q3]; rfl, fun e => by cases e⟩⟩
      case round =>
        obtain ⟨t, rfl, hR⟩ := hrel
        clear HM
        obtain ⟨bs, hP, hM, hkk, hsh⟩ := unhide hR
        cases t with
        | false =>
          have HE : Hid (TRow w.heap.size wr (.slice (some ⟨gi, 0, none⟩) n n) bs ∧ bs.length = V.length ∧ (∀ j : Nat, bs[j]? = some true ↔ ∃ p : Nat, V[p]? = some s ∧ T9.Reach (nextOf V (arcsE es)) p j) ∧ Below w.heap.size w wr) := by
            have hb := (unhide HB).1
            rw [unhide HGB] at hb
            exact ⟨trow_low hP.1 (by have := hb.size; omega), hM.len, hM.done (unhide HN).2.2.2.2.1 (hsh rfl), hb.trans (hP.2.mono hb.size)⟩
          clear hP hM hkk hsh hR
          go_wp2_with fail
          go_ret
          exact ⟨gi, n, n, bs, rfl, (unhide HN).1, unhide HE⟩
        | true =>
          obtain ⟨fc, hfc⟩ : ∃ fc, fc = bs.count false := ⟨_, rfl⟩
          rw [← hfc] at hkk
          have HK := hide hkk
          have HS : Hid (∃ bs, RP wb gi n bs wr ∧ Mk (nextOf V (arcsE es)) V s bs ∧ bs.count false = fc) := ⟨bs, hP, hM, hfc.symm⟩
          clear hP hM hkk hsh hR hfc
          go_upto_region 10 with fail
          go_loopw [8, 7, 9, 10] (fun s8 s7 s9 s10 W => ∃ (k : Nat) (t : Bool), s8 = .int .i64 (k : Nat) ∧ s7 = .bool t ∧ k ≤ m ∧ Hid (∃ bs, RP wb gi n bs W ∧ Mk (nextOf V (arcsE es)) V s bs ∧ bs.count false + t.toNat ≤ fc ∧ (t = false → Shut9 V es bs k))) (fun s8 _ _ _ _ => m - (intOf s8).toNat)
          case atStart => exact ⟨0, false, rfl, rfl, Nat.zero_le _, by obtain ⟨bs, q1, q2, q3⟩ := unhide HS; exact ⟨bs, q1, q2, by rw [q3]; exact Nat.le_refl _, fun _ j e hj => absurd hj (Nat.not_lt_zero _)⟩⟩
          case round =>
            obtain ⟨k, t, rfl, rfl, hk, hR⟩ := hrel
            clear HS
            obtain ⟨bs, hP, hM, hle, hsh⟩ := unhide hR
            obtain ⟨l1, l2, l3, l4, l5, l6⟩ := unhide HN
            by_cases hlt : k < m
            · obtain ⟨⟨en, u, x, ew⟩, hux⟩ : ∃ e, es[k]? = some e := ⟨_, List.getElem?_eq_getElem (by omega)⟩
              obtain ⟨hu, hx⟩ : u ∈ V ∧ x ∈ V := l6 (u, x) (List.mem_map.2 ⟨_, List.mem_of_getElem? hux, rfl⟩)
              obtain ⟨g2, hg2⟩ := erow_some (unhide HB).2.2.2 (by omega)
              subst hg2
              have HSN : Hid (∀ W, Below wb.heap.size wb W → (W.cell? ⟨gb, 0, none⟩ = some (.slice a n c) ∧ W.cell? ⟨gb, 1, none⟩ = some (.slice (some ⟨g2, 0, none⟩) m ec) ∧ W.cell? ⟨gb, 2, none⟩ = some (.int .i64 rd) ∧ W.cell? ⟨gb, 3, none⟩ = some (.int .i64 wr_)) ∧ W.cell? ⟨g2, k * 4 + 1, none⟩ = some (.int .i64 u) ∧ W.cell? ⟨g2, k * 4 + 2, none⟩ = some (.int .i64 x)) := fun W hW => by
                obtain ⟨-, e2, e3, -⟩ := erow_at (erow_below (unhide HB).2.2.2 hW) hux
                exact ⟨unhide HC W hW, e2, e3⟩
              obtain ⟨pu, hpu⟩ : ∃ pu, pu = V.idxOf u := ⟨_, rfl⟩
              obtain ⟨px, hpx⟩ : ∃ px, px = V.idxOf x := ⟨_, rfl⟩
              have CP : Hid (∀ (y : Int) (py : Nat) (W : World), y ∈ V → py = V.idxOf y → RP wb gi n bs W → Calls Tryz.prog 47 #[.agg #[.slice a n c, .slice (some ⟨g2, 0, none⟩) m ec, .int .i64 rd, .int .i64 wr_], .int .i64 y] W fun e w' => e = .returned (.int .i64 (py : Nat)) ∧ Hid (RP wb gi n bs w')) := fun y py W hy hpy hW => by
                refine (placeS (nrow_below (unhide HB).2.2.1 hW.2) l5 (by omega)).mono (fun e w' hh => ⟨?_, hW.below hh.2⟩)
                have : placeOf V y = (py : Int) := by unfold placeOf; rw [if_pos hy, hpy]
                rw [hh.1, this]
              have hpl : pu < n ∧ px < n := by
                rw [hpu, hpx, l1]; exact ⟨List.idxOf_lt_length_of_mem hu, List.idxOf_lt_length_of_mem hx⟩
              obtain ⟨bu, hbu⟩ : ∃ b, bs[pu]? = some b := ⟨_, List.getElem?_eq_getElem (by rw [hM.len]; omega)⟩
              obtain ⟨bx, hbx⟩ : ∃ b, bs[px]? = some b := ⟨_, List.getElem?_eq_getElem (by rw [hM.len]; omega)⟩
              have hd := unhide HSN wr hP.2
              obtain ⟨⟨d0, d1, d2, d3⟩, d4, d5⟩ := hd
              have hPd : Hid (RP wb gi n bs wr.drew) := hP.below ⟨rfl, rfl, rfl, Nat.le_refl _, fun _ _ => rfl⟩
              have z1 : (k : Int) < (m : Int) := by omega
              obtain ⟨k1, hk1⟩ : ∃ k1, k1 = k + 1 := ⟨_, rfl⟩
              have zw : Hid (wrap64 ((k : Int) + 1) = (k1 : Int)) := by show wrap64 ((k : Int) + 1) = (k1 : Int); unfold wrap64; omega
              have HI1 := hide hk1
              have HJ : Hid (k1 ≤ m ∧ m - k1 < m - k) := ⟨by omega, by omega⟩
              have HU : Hid (u ∈ V ∧ pu = V.idxOf u) := ⟨hu, hpu⟩
              have HX : Hid (x ∈ V ∧ px = V.idxOf x) := ⟨hx, hpx⟩
              have z2 : (pu : Int) < (n : Int) := by omega
              have z3 : (px : Int) < (n : Int) := by omega
              have HQ : Hid (∀ W, RP wb gi n bs W → W.cell? ⟨gi, pu, none⟩ = some (.bool bu) ∧ W.cell? ⟨gi, px, none⟩ = some (.bool bx) ∧ (bu = true ∧ bx = false → (∀ o, W.frozen? ⟨gi, o, none⟩ = false) ∧ ∃ bs, RP wb gi n bs (W.setCell ⟨gi, px, none⟩ (.bool true)) ∧ Mk (nextOf V (arcsE es)) V s bs ∧ bs.count false + (true).toNat ≤ fc ∧ (true = false → Shut9 V es bs k1)) ∧ (¬ (bu = true ∧ bx = false) → ∃ bs, RP wb gi n bs W ∧ Mk (nextOf V (arcsE es)) V s bs ∧ bs.count false + t.toNat ≤ fc ∧ (t = false → Shut9 V es bs k1))) := fun W hW => by
                refine ⟨trow_at hW.1 hbu, trow_at hW.1 hbx, fun ⟨q1, q2⟩ => ?_, fun q => ?_⟩
                · obtain ⟨f, r⟩ := hW.set (k := px) true
                  refine ⟨f, _, r, ?_, ?_, fun e => by cases e⟩
                  · rw [hpx]; exact hM.mark hux hu (by rw [← hpu, hbu, q1])
                  · have := falses_set (bs := bs) (i := px) (by rw [hbx, q2])
                    have h7 : bs.count false ≤ fc := Nat.le_trans (Nat.le_add_right _ _) hle
                    show _ + 1 ≤ fc
                    omega
                · refine ⟨bs, hW, hM, hle, fun e j z hj hz => ?_⟩
                  by_cases q3 : j = k
                  · subst q3
                    rw [hux] at hz
                    injection hz with hz
                    subst hz
                    show bs[V.idxOf u]? = some true → bs[V.idxOf x]? = some true
                    rw [← hpu, ← hpx, hbu, hbx]
                    intro q4
                    injection q4 with q4
                    cases hb : bx with
                    | true => rfl
                    | false => exact absurd ⟨q4, hb⟩ q
                  · exact hsh e j z (by omega) hz
              clear hM hle hsh l1 l2 l3 l4 l5 l6 hlt hk hR hux hu hx hpu hpx hpl hbu hbx hk1 hP
              go_upto_region 12 with fail
              refine wp_region_noPanic ?_
              refine regionL [] (fun y => (y.cell? ⟨gb, 0, none⟩ = some (.slice a n c) ∧ y.cell? ⟨gb, 1, none⟩ = some (.slice (some ⟨g2, 0, none⟩) m ec) ∧ y.cell? ⟨gb, 2, none⟩ = some (.int .i64 rd) ∧ y.cell? ⟨gb, 3, none⟩ = some (.int .i64 wr_)) ∧ y.cell? ⟨g2, k * 4 + 1, none⟩ = some (.int .i64 u) ∧ y.cell? ⟨g2, k * 4 + 2, none⟩ = some (.int .i64 x)) (by kernel_rfl) ⟨⟨d0, d1, d2, d3⟩, d4, d5⟩ (fun hHeld => ?_)
              refine takeL (i := 0) (v := ?t2v0) (some 40) rfl rfl (by kernel_rfl) (by kernel_rfl) (by kernel_rfl) (by kernel_rfl) (by kernel_rfl) (fun _ _ _ h => h) (Or.inl ⟨by rfl, ?t2h0⟩) (by assumption) ?t2r0
              case t2h0 => (intro y hSu; (try dsimp only at hSu); go_simp; first | done | with_reducible rfl)
              (try simp only [Act.put, List.setIfInBounds_toArray, List.set_cons_zero, List.set_cons_succ])
              refine takeL (i := 1) (v := ?t2v1) (some 41) rfl rfl (by kernel_rfl) (by kernel_rfl) (by kernel_rfl) (by kernel_rfl) (by kernel_rfl) (fun _ _ _ h => h) (Or.inl ⟨by rfl, ?t2h1⟩) (by assumption) ?t2r1
              case t2h1 => (intro y hSu; (try dsimp only at hSu); go_simp; first | done | with_reducible rfl)
              (try simp only [Act.put, List.setIfInBounds_toArray, List.set_cons_zero, List.set_cons_succ])
              refine takeL (i := 2) (v := ?t2v2) (some 42) rfl rfl (by kernel_rfl) (by kernel_rfl) (by kernel_rfl) (by kernel_rfl) (by kernel_rfl) (fun _ _ _ h => h) (Or.inl ⟨by rfl, ?t2h2⟩) (by assumption) ?t2r2
              case t2h2 => (intro y hSu; (try dsimp only at hSu); go_simp; first | done | with_reducible rfl)
              (try simp only [Act.put, List.setIfInBounds_toArray, List.set_cons_zero, List.set_cons_succ])
              refine takeL (i := 3) (v := ?t2v3) (some 43) rfl rfl (by kernel_rfl) (by kernel_rfl) (by kernel_rfl) (by kernel_rfl) (by kernel_rfl) (fun _ _ _ h => h) (Or.inl ⟨by rfl, ?t2h3⟩) (by assumption) ?t2r3
              case t2h3 => (intro y hSu; (try dsimp only at hSu); go_simp; first | done | with_reducible rfl)
              (try simp only [Act.put, List.setIfInBounds_toArray, List.set_cons_zero, List.set_cons_succ])
              refine takeL (i := 4) (v := ?t2v4) (some 44) rfl rfl (by kernel_rfl) (by kernel_rfl) (by kernel_rfl) (by kernel_rfl) (by kernel_rfl) (fun _ _ _ h => h) (Or.inl ⟨by rfl, ?t2h4⟩) (by assumption) ?t2r4
              case t2h4 => (intro y hSu; (try dsimp only at hSu); go_simp; first | done | with_reducible rfl)
              (try simp only [Act.put, List.setIfInBounds_toArray, List.set_cons_zero, List.set_cons_succ])
              refine takeL (i := 5) (v := ?t2v5) (some 45) rfl rfl (by kernel_rfl) (by kernel_rfl) (by kernel_rfl) (by kernel_rfl) (by kernel_rfl) (fun _ _ _ h => h) (Or.inl ⟨by rfl, ?t2h5⟩) (by assumption) ?t2r5
              case t2h5 => (intro y hSu; (try dsimp only at hSu); go_simp; first | done | with_reducible rfl)
              (try simp only [Act.put, List.setIfInBounds_toArray, List.set_cons_zero, List.set_cons_succ])
              refine takeL (i := 6) (v := ?t2v6) (some 46) rfl rfl (by kernel_rfl) (by kernel_rfl) (by kernel_rfl) (by kernel_rfl) (by kernel_rfl) (fun _ _ _ h => h) (Or.inl ⟨by rfl, ?t2h6⟩) (by assumption) ?t2r6
              case t2h6 => (intro y hSu; (try dsimp only at hSu); go_simp; first | done | with_reducible rfl)
              (try simp only [Act.put, List.setIfInBounds_toArray, List.set_cons_zero, List.set_cons_succ])
              refine takeL (i := 8) (v := ?t2v8) (some 48) rfl rfl (by kernel_rfl) (by kernel_rfl) (by kernel_rfl) (by kernel_rfl) (by kernel_rfl) (fun _ _ _ h => h) (Or.inl ⟨by rfl, ?t2h8⟩) (by assumption) ?t2r8
              case t2h8 => (intro y hSu; (try dsimp only at hSu); go_simp; first | done | with_reducible rfl)
              (try simp only [Act.put, List.setIfInBounds_toArray, List.set_cons_zero, List.set_cons_succ])
              refine takeL (i := 9) (v := ?t2v9) (some 49) rfl rfl (by kernel_rfl) (by kernel_rfl) (by kernel_rfl) (by kernel_rfl) (by kernel_rfl) (fun _ _ _ h => h) (Or.inl ⟨by rfl, ?t2h9⟩) (by assumption) ?t2r9
              case t2h9 => (intro y hSu; (try dsimp only at hSu); go_simp; first | done | with_reducible rfl)
              (try simp only [Act.put, List.setIfInBounds_toArray, List.set_cons_zero, List.set_cons_succ])
              refine takeL (i := 10) (v := ?t2v10) (some 50) rfl rfl (by kernel_rfl) (by kernel_rfl) (by kernel_rfl) (by kernel_rfl) (by kernel_rfl) (fun _ _ _ h => h) (Or.inl ⟨by rfl, ?t2h10⟩) (by assumption) ?t2r10
              case t2h10 => (intro y hSu; (try dsimp only at hSu); go_simp; first | done | with_reducible rfl)
              (try simp only [Act.put, List.setIfInBounds_toArray, List.set_cons_zero, List.set_cons_succ])
              refine takeL (i := 11) (v := ?t2v11) (some 51) rfl rfl (by kernel_rfl) (by kernel_rfl) (by kernel_rfl) (by kernel_rfl) (by kernel_rfl) (fun _ _ _ h => h) (Or.inl ⟨by rfl, ?t2h11⟩) (by assumption) ?t2r11
              case t2h11 => (intro y hSu; (try dsimp only at hSu); go_simp; first | done | with_reducible rfl)
              (try simp only [Act.put, List.setIfInBounds_toArray, List.set_cons_zero, List.set_cons_succ])
              refine takeL (i := 12) (v := ?t2v12) (some 52) rfl rfl (by kernel_rfl) (by kernel_rfl) (by kernel_rfl) (by kernel_rfl) (by kernel_rfl) (fun _ _ _ h => h) (Or.inl ⟨by rfl, ?t2h12⟩) (by assumption) ?t2r12
              case t2h12 => (intro y hSu; (try dsimp only at hSu); go_simp; first | done | with_reducible rfl)
              (try simp only [Act.put, List.setIfInBounds_toArray, List.set_cons_zero, List.set_cons_succ])
              refine takeL (i := 13) (v := ?t2v13) (some 53) rfl rfl (by kernel_rfl) (by kernel_rfl) (by kernel_rfl) (by kernel_rfl) (by kernel_rfl) (fun _ _ _ h => h) (Or.inl ⟨by rfl, ?t2h13⟩) (by assumption) ?t2r13
              case t2h13 => (intro y hSu; (try dsimp only at hSu); go_simp; first | done | with_reducible rfl)
              (try simp only [Act.put, List.setIfInBounds_toArray, List.set_cons_zero, List.set_cons_succ])
              refine takeL (i := 14) (v := ?t2v14) (some 54) rfl rfl (by kernel_rfl) (by kernel_rfl) (by kernel_rfl) (by kernel_rfl) (by kernel_rfl) (fun _ _ _ h => h) (Or.inl ⟨by rfl, ?t2h14⟩) (by assumption) ?t2r14
              case t2h14 => (intro y hSu; (try dsimp only at hSu); go_simp; first | done | with_reducible rfl)
              (try simp only [Act.put, List.setIfInBounds_toArray, List.set_cons_zero, List.set_cons_succ])
              refine readyL (i := 7) (by kernel_rfl) rfl (fun K hK => ?_)
              go_simp
              refine (unhide CP _ _ _ (unhide HU).1 (unhide HU).2 (unhide hPd)).mono ?_
              rintro e w4 ⟨rfl, hP4⟩
              (try dsimp only)
              refine hK.out _ _ (fun _ => (unhide HSN w4 (unhide hP4).2)) ?_
              clear hK K
              (try simp only [Act.put, List.setIfInBounds_toArray, List.set_cons_zero, List.set_cons_succ])
              have hH4 := (unhide HSN w4 (unhide hP4).2)
              refine readyL (i := 15) (by kernel_rfl) rfl (fun K hK => ?_)
              go_simp
              refine (unhide CP _ _ _ (unhide HX).1 (unhide HX).2 (unhide hP4)).mono ?_
              rintro e w5 ⟨rfl, hP5⟩
              (try dsimp only)
              refine hK.out _ _ (fun _ => (unhide HSN w5 (unhide hP5).2)) ?_
              clear hK K
              (try simp only [Act.put, List.setIfInBounds_toArray, List.set_cons_zero, List.set_cons_succ])
              have hH6 := (unhide HSN w5 (unhide hP5).2)
              refine readyL (i := 16) (by kernel_rfl) rfl (fun K hK => ?_)
              go_simp
              refine hK.out _ _ (fun _ => (unhide HSN w5 (unhide hP5).2)) ?_
              clear hK K
              (try simp only [Act.put, List.setIfInBounds_toArray, List.set_cons_zero, List.set_cons_succ])
              have hH8 := (unhide HSN w5 (unhide hP5).2)
              refine readyL (i := 17) (by kernel_rfl) rfl (fun K hK => ?_)
              go_simp
              refine hK.out _ _ (fun _ => (unhide HSN w5 (unhide hP5).2)) ?_
              clear hK K
              (try simp only [Act.put, List.setIfInBounds_toArray, List.set_cons_zero, List.set_cons_succ])
              have hH10 := (unhide HSN w5 (unhide hP5).2)
              refine doneL (by kernel_rfl) ?_ _
              refine NoPanic.normal ?_
              obtain ⟨k2, k3, q1, q2⟩ := unhide HQ w5 (unhide hP5)
              clear hHeld d0 d1 d2 d3 d4 d5 CP HSN
              by_cases hbb : bu = true ∧ bx = false
              · obtain ⟨rfl, rfl⟩ := hbb
                obtain ⟨fz, hD⟩ := q1 ⟨rfl, rfl⟩
                have HD := hide hD
                clear q1 q2 hD HQ
                go_wp2_with fail
                (try rw [unhide zw])
                exact ⟨⟨k1, true, by first | rfl | (rw [unhide HI1]; rfl), rfl, (unhide HJ).1, HD⟩, by have := (unhide HJ).2; simp [intOf]; omega⟩
              · have HD := hide (q2 hbb)
                clear q1 q2 HQ
                cases bu with
                | false =>
                  clear hbb
                  go_wp2_with fail
                  (try rw [unhide zw])
                  exact ⟨⟨k1, t, by first | rfl | (rw [unhide HI1]; rfl), rfl, (unhide HJ).1, HD⟩, by have := (unhide HJ).2; simp [intOf]; omega⟩
                | true =>
                  cases bx with
                  | false => exact absurd ⟨rfl, rfl⟩ hbb
                  | true =>
                    clear hbb
                    go_wp2_with fail
                    (try rw [unhide zw])
                    exact ⟨⟨k1, t, by first | rfl | (rw [unhide HI1]; rfl), rfl, (unhide HJ).1, HD⟩, by have := (unhide HJ).2; simp [intOf]; omega⟩
            · have z1 : ¬ (k : Int) < (m : Int) := by omega
              have k0 := (unhide HC wr hP.2).2.1
              obtain ⟨k2, hk2⟩ : ∃ k2, k2 = bs.count false + t.toNat := ⟨_, rfl⟩
              have HD : Hid (∃ bs, RP wb gi n bs wr ∧ Mk (nextOf V (arcsE es)) V s bs ∧ bs.count false + t.toNat = k2 ∧ (t = false → Shut9 V es bs es.length)) := ⟨bs, hP, hM, hk2.symm, fun e => by have := hsh e; rwa [show k = es.length by omega] at this⟩
              have HLE : Hid (k2 ≤ fc) := by show k2 ≤ fc; omega
              clear hP hM hle hsh l1 l2 l3 l4 l5 l6 hlt hk hR hk2
              go_wp2_with fail
              go_roundg k2
              case measure => (have h1 : fc + 1 = _ := unhide HK; have h2 := unhide HLE; omega)
              case rel => exact ⟨t, rfl, HD⟩
end

section
open Go.RowKit Go.Maps T9
/-- A list of rows of truth values that can be read. -/
def LTr (w : World) (v : Value) (css : List (List Bool)) : Prop := ∃ x c, v = .slice x css.length c ∧ ∀ (i : Nat) (bs : List Bool), css[i]? = some bs → ∃ g h n k, x = some ⟨g, 0, none⟩ ∧ w.cell? ⟨g, i, none⟩ = some (.slice (some ⟨h, 0, none⟩) n k) ∧ n = bs.length ∧ TRow 0 w (.slice (some ⟨h, 0, none⟩) n k) bs
theorem ltr_below {w w' : World} {v : Value} {css : List (List Bool)} (h : LTr w v css) (hb : Below w.heap.size w w') : LTr w' v css := by
  obtain ⟨x, c, e, hh⟩ := h
  refine ⟨x, c, e, fun i bs hi => ?_⟩
  obtain ⟨g, h, n, k, e1, e2, e3, e4⟩ := hh i bs hi
  have hl : g < w.heap.size := by
    have h2 := e2
    unfold World.cell? at h2
    rcases Nat.lt_or_ge g w.heap.size with q | q
    · exact q
    · rw [Array.getElem?_eq_none q] at h2; cases h2
  exact ⟨g, h, n, k, e1, (hb.cell (p := ⟨g, i, none⟩) hl).trans e2, e3, trow_kept e4 (fun b e => hb.block b (e4.lt b e).2)⟩
set_option maxHeartbeats 1000000 in
set_option maxRecDepth 100000 in
theorem infoBS : (Tryz.prog.info? 94).map (fun i => (i.zero, i.size, i.bytes)) = some (some (.slice none 0 0), 1, 24) := by kernel_rfl
/-- The list of rows while it grows: the outer block is no row's. -/
structure CB (w0 : World) (L : Nat → Nat) (v : Value) (vs : List Value) (css : List (List Bool)) (W : World) : Prop where
  base : Below w0.heap.size w0 W
  outer : W.ownsRow w0.heap.size 94 1 v css.length vs
  inner : ∀ (i : Nat) (y : Value) (bs : List Bool), vs[i]? = some y → css[i]? = some bs → TRow w0.heap.size W y bs ∧ ∃ h k, y = .slice (some ⟨h, 0, none⟩) bs.length k
  lo : ∀ b, v.ownBlock = some b → L b = 1
  li : ∀ (i : Nat) (y : Value) (b : Nat), vs[i]? = some y → y.ownBlock = some b → L b = 0
section
variable {w0 W W' : World} {L : Nat → Nat} {v : Value} {vs : List Value} {css : List (List Bool)}
theorem CB.len (h : CB w0 L v vs css W) : vs.length = css.length := by have := h.outer.1; omega
theorem CB.below (h : CB w0 L v vs css W) (hb : Below W.heap.size W W') : CB w0 L v vs css W' := by
  refine ⟨h.base.trans (hb.mono h.base.size), ⟨h.outer.1, ?_⟩, fun i y bs h1 h2 => ⟨trow_kept (h.inner i y bs h1 h2).1 (fun b e => hb.block b ((h.inner i y bs h1 h2).1.lt b e).2), (h.inner i y bs h1 h2).2⟩, h.lo, h.li⟩
  rcases h.outer.2 with hn | ⟨g, cap, cur, e, hb2, hgg, rest⟩
  · exact .inl hn
  · exact .inr ⟨g, cap, cur, e, hb2, (hb.block g (heap_lt hgg)).trans hgg, rest⟩
theorem CB.inlt (h : CB w0 L v vs css W) {i b : Nat} {y : Value} (hi : vs[i]? = some y) (e : y.ownBlock = some b) : b < W.heap.size := by
  have hl : i < css.length := by rw [← h.len]; exact (List.getElem?_eq_some_iff.1 hi).1
  exact ((h.inner i y _ hi (List.getElem?_eq_getElem hl)).1.lt b e).2
theorem CB.read (h : CB w0 L v vs css W) : LTr W v css := by
  have hsh : ∃ x c, v = .slice x css.length c := by
    rcases h.outer.2 with ⟨e, h0⟩ | ⟨g', cap, cur, e, -⟩
    · exact ⟨none, 0, by rw [e, h0]⟩
    · exact ⟨_, _, e⟩
  obtain ⟨x, c, e⟩ := hsh
  refine ⟨x, c, e, fun i bs hi => ?_⟩
  have hil := (List.getElem?_eq_some_iff.1 hi).1
  obtain ⟨y, hy⟩ : ∃ y, vs[i]? = some y := ⟨_, List.getElem?_eq_getElem (by rw [h.len]; exact hil)⟩
  obtain ⟨r, hh, k, rfl⟩ := h.inner i y bs hy hi
  subst e
  obtain ⟨g, hg⟩ : ∃ g, x = some ⟨g, 0, none⟩ := by
    rcases h.outer.2 with ⟨e, h1⟩ | ⟨g', cap, cur, e, -⟩
    · omega
    · injection e with e1; exact ⟨g', e1⟩
  subst hg
  have hc := h.outer.cells (g := g) rfl i _ hy
  rw [addr_off, Nat.zero_add] at hc
  exact ⟨g, hh, _, k, rfl, hc, rfl, trow_zero r⟩
/-- One row more: made anew, so in a block of its own. -/
theorem CB.push (h : CB w0 L v vs css W) {g k : Nat} {bs : List Bool} (hb : Below W.heap.size W W') (hr : TRow W.heap.size W' (.slice (some ⟨g, 0, none⟩) bs.length k) bs) (hl : css.length ≤ 1000000) :
    ∃ a' n' c' w', (∀ ty, (Builtin.append_ #[92, 92] ty #[v, .slice (some ⟨W'.heap.size, 0, none⟩) 1 1]).run Tryz.prog (W'.alloc (.cells #[.slice (some ⟨g, 0, none⟩) bs.length k] 94)) = .ok (.slice a' n' c') w') ∧ Below w0.heap.size w0 w' ∧ ∃ L', CB w0 L' (.slice a' n' c') (vs ++ [.slice (some ⟨g, 0, none⟩) bs.length k]) (css ++ [bs]) w' := by
  have h1 := h.below hb
  have hb1 := below_new W' (.cells #[.slice (some ⟨g, 0, none⟩) bs.length k] 94)
  have h2 := h1.below hb1
  obtain ⟨ii, hi1, hz, hs, hbb⟩ := info_parts infoBS
  have hc : ∀ j u, [Value.slice (some ⟨g, 0, none⟩) bs.length k][j]? = some u → (W'.alloc (.cells #[.slice (some ⟨g, 0, none⟩) bs.length k] 94)).cell? ((⟨W'.heap.size, 0, none⟩ : Addr).add j) = some u := cell_one_new W' _ _
  obtain ⟨v', w', hrun, g1, g2, -, g5⟩ := run_append_own_at (P := Tryz.prog) (W'.alloc (.cells #[.slice (some ⟨g, 0, none⟩) bs.length k] 94)) w0.heap.size 92 0 94 ii _ 1 24 Tryz.underlying92 hi1 hz hs hbb rfl (by omega) v css.length vs h2.outer ⟨W'.heap.size, 0, none⟩ 1 1 [.slice (some ⟨g, 0, none⟩) bs.length k] (by simp) hc (by intro u hu; rw [List.mem_singleton.1 hu]; rfl) (by unfold maxLen; omega) (by omega) h2.base.size
  have g1' : w'.ownsRow w0.heap.size 94 1 v' (css ++ [bs]).length (vs ++ [.slice (some ⟨g, 0, none⟩) bs.length k]) := by rw [List.length_append]; exact g1
  have hsh : ∃ x n c, v' = .slice x n c := by
    rcases g1'.2 with ⟨e, -⟩ | ⟨g', cap, cur, e, -⟩
    · exact ⟨_, _, _, e⟩
    · exact ⟨_, _, _, e⟩
  obtain ⟨x, n, c, rfl⟩ := hsh
  have hold : ∀ b, b < W'.heap.size → v.ownBlock ≠ some b → w'.heap[b]? = W'.heap[b]? := fun b hb' hne => (g2.block b (Nat.lt_of_lt_of_le hb' hb1.size) (fun e => hne e.symm)).trans (hb1.block b hb')
  have ho := h.outer.lt
  have hB' : Below w0.heap.size w0 w' := by
    have ht : Turned (fun b => v.ownBlock = some b) (W'.alloc (.cells #[.slice (some ⟨g, 0, none⟩) bs.length k] 94)) w' := ⟨g2.os, g2.tape, g2.output, g2.size, fun k hk hn => g2.block k hk (fun e => hn e.symm)⟩
    exact h2.base.trans (ht.below h2.base.size (fun b e => (ho b e).1))
  have hgl := hr.lt g rfl
  refine ⟨x, n, c, w', fun ty => hrun, hB', fun b => if b < W.heap.size then L b else if b = g then 0 else 1, hB', g1', fun i y ks e1 e2 => ?_, fun b e => ?_, fun i y b e1 e => ?_⟩
  · have hlen := h.len
    rcases Nat.lt_or_ge i vs.length with q | q
    · rw [List.getElem?_append_left q] at e1
      rw [List.getElem?_append_left (by omega)] at e2
      have h5 := h1.inner i y ks e1 e2
      exact ⟨trow_kept h5.1 (fun b eb => hold b (h5.1.lt b eb).2 (fun e => by have := h.lo b e; have := h.li i y b e1 eb; omega)), h5.2⟩
    · have hi : i = vs.length := by have := (List.getElem?_eq_some_iff.1 e1).1; simp at this; omega
      subst hi
      rw [List.getElem?_append_right (Nat.le_refl _), Nat.sub_self] at e1
      rw [hlen, List.getElem?_append_right (Nat.le_refl _), Nat.sub_self] at e2
      have e1 := Option.some.inj (show some (Value.slice (some ⟨g, 0, none⟩) bs.length k) = some y from e1)
      have e2 := Option.some.inj (show some bs = some ks from e2)
      subst e1 e2
      refine ⟨trow_low (trow_kept hr (fun b eb => hold b (hr.lt b eb).2 (fun e => ?_))) h.base.size, g, k, rfl⟩
      have := (ho b e).2; have := (hr.lt b eb).1; omega
  · show (if b < W.heap.size then L b else if b = g then 0 else 1) = 1
    rcases g5 with q | q
    · have e3 : v.ownBlock = some b := by rw [← q]; exact e
      rw [if_pos (ho b e3).2]; exact h.lo b e3
    · have eb2 := Option.some.inj (q.symm.trans e)
      have := hb1.size
      have := hb.size
      rw [if_neg (by omega), if_neg (by omega)]
  · show (if b < W.heap.size then L b else if b = g then 0 else 1) = 0
    rcases Nat.lt_or_ge i vs.length with q | q
    · rw [List.getElem?_append_left q] at e1
      rw [if_pos (h.inlt e1 e)]; exact h.li i y b e1 e
    · have hi : i = vs.length := by have := (List.getElem?_eq_some_iff.1 e1).1; simp at this; omega
      subst hi
      rw [List.getElem?_append_right (Nat.le_refl _), Nat.sub_self] at e1
      have e1 := Option.some.inj (show some (Value.slice (some ⟨g, 0, none⟩) bs.length k) = some y from e1)
      subst e1
      have := own_eq e
      rw [if_neg (by omega), if_pos this.symm]
end
/-- css tells of each vertex, at its place, whom it reaches. -/
def Clo (V : List Int) (es : List EdV) (css : List (List Bool)) : Prop := ∀ (i : Nat) (bs : List Bool), css[i]? = some bs → bs.length = V.length ∧ ∀ j : Nat, bs[j]? = some true ↔ T9.Reach (nextOf V (arcsE es)) i j
def CloAns (w : World) (V : List Int) (es : List EdV) (e : Ending) (w' : World) : Prop := ∃ x n c css, e = .returned (.slice x n c) ∧ css.length = V.length ∧ LTr w' (.slice x n c) css ∧ Clo V es css ∧ Below w.heap.size w w'
set_option maxHeartbeats 8000000 in
set_option maxRecDepth 100000 in
theorem closureS {w : World} {vv ev : Value} {rd wr_ : Int} {V : List Int} {es : List EdV} (h : NRow w vv V) (he : ERow 0 w ev es) (hs : V.Pairwise (· < ·)) (hok : okArcs V (arcsE es)) (hl : V.length ≤ 100000) (hl2 : es.length ≤ 100000) :
    Calls Tryz.prog 54 #[.agg #[vv, ev, .int .i64 rd, .int .i64 wr_]] w fun e w' => Hid (CloAns w V es e w') := by
  have hb := below_new w (oGr vv ev rd wr_)
  have hbx := heap_alloc_new w (oGr vv ev rd wr_)
  have h1 := nrow_below h hb
  have h2 := erow_below he hb
  obtain ⟨a, c, hvv, -⟩ := brow_shape h1
  obtain ⟨ea, ec, hev, -⟩ := erow_shape h2
  obtain ⟨n, hn⟩ : ∃ n, n = V.length := ⟨_, rfl⟩
  obtain ⟨m, hm⟩ : ∃ m, m = es.length := ⟨_, rfl⟩
  rw [← hn] at hvv
  rw [← hm] at hev
  subst hvv hev
  have HB : Hid (Below w.heap.size w (w.alloc (oGr (.slice a n c) (.slice ea m ec) rd wr_)) ∧ (w.alloc (oGr (.slice a n c) (.slice ea m ec) rd wr_)).heap[w.heap.size]? = some (oGr (.slice a n c) (.slice ea m ec) rd wr_) ∧ NRow (w.alloc (oGr (.slice a n c) (.slice ea m ec) rd wr_)) (.slice a n c) V ∧ ERow 0 (w.alloc (oGr (.slice a n c) (.slice ea m ec) rd wr_)) (.slice ea m ec) es) := ⟨hb, hbx, h1, h2⟩
  have HN : Hid (n = V.length ∧ n ≤ 100000 ∧ m = es.length ∧ m ≤ 100000 ∧ V.Pairwise (· < ·) ∧ okArcs V (arcsE es)) := ⟨hn, by omega, hm, by omega, hs, hok⟩
  clear h h1 h2 hb hbx he hl hl2 hn hm hs hok
  go_enter Tryz.func54, Tryz.ntmps54
  go_upto_region 1 with fail
  change Code.wp _ _ _ _ (w.alloc (oGr (.slice a n c) (.slice ea m ec) rd wr_))
  generalize w.alloc (oGr (.slice a n c) (.slice ea m ec) rd wr_) = wb at *
  obtain ⟨gb, hgb⟩ : ∃ gb, gb = w.heap.size := ⟨_, rfl⟩
  have HGB := hide hgb
  rw [← hgb] at HB ⊢
  clear hgb
  have HC : Hid (∀ W, Below wb.heap.size wb W → W.cell? ⟨gb, 0, none⟩ = some (.slice a n c) ∧ W.cell? ⟨gb, 1, none⟩ = some (.slice ea m ec) ∧ W.cell? ⟨gb, 2, none⟩ = some (.int .i64 rd) ∧ W.cell? ⟨gb, 3, none⟩ = some (.int .i64 wr_)) := fun W hW => by
    have q := (hW.block gb (heap_lt (unhide HB).2.1)).trans (unhide HB).2.1
    obtain ⟨d0, d1, d2, d3, -⟩ := cellsGr q
    exact ⟨d0, d1, d2, d3⟩
  go_upto_region 3 with fail
  go_loopw [4, 3] (fun s4 s3 W => ∃ (i : Nat) (x : Option Addr) (xn xc : Nat), s4 = .int .i64 (i : Nat) ∧ s3 = .slice x xn xc ∧ i ≤ n ∧ Hid (∃ L vs css, CB wb L (.slice x xn xc) vs css W ∧ css.length = i ∧ Clo V es css)) (fun s4 _ _ => n - (intOf s4).toNat)
  case atStart => exact ⟨0, none, 0, 0, rfl, rfl, Nat.zero_le _, fun _ => 0, [], [], ⟨Below.refl _ _, ⟨rfl, .inl ⟨rfl, rfl⟩⟩, fun i y bs h => (by cases h), fun b e => (by cases e), fun i y b h => (by cases h)⟩, rfl, fun i bs h => by cases h⟩
  case round =>
    obtain ⟨i, x, xn, xc, rfl, rfl, hi, hS⟩ := hrel
    obtain ⟨L, vs, css, hCB, hcl, hCl⟩ := unhide hS
    obtain ⟨l1, l2, l3, l4, l5, l6⟩ := unhide HN
    have k0 := (unhide HC wr hCB.base).1
    by_cases hlt : i < n
    · obtain ⟨s, hy⟩ : ∃ y, V[i]? = some y := ⟨_, List.getElem?_eq_getElem (by omega)⟩
      have HV : Hid (∀ W, Below wb.heap.size wb W → NRow W (.slice a n c) V) := fun W hW => nrow_below (unhide HB).2.2.1 hW
      obtain ⟨g, hg⟩ := brow_some (unhide HV wb (Below.refl _ _)) (by omega)
      subst hg
      have HSN : Hid (∀ W, Below wb.heap.size wb W → (W.cell? ⟨gb, 0, none⟩ = some (.slice (some ⟨g, 0, none⟩) n c) ∧ W.cell? ⟨gb, 1, none⟩ = some (.slice ea m ec) ∧ W.cell? ⟨gb, 2, none⟩ = some (.int .i64 rd) ∧ W.cell? ⟨gb, 3, none⟩ = some (.int .i64 wr_)) ∧ W.cell? ⟨g, i, none⟩ = some (.int .i64 s)) := fun W hW => ⟨unhide HC W hW, brow_at (unhide HV W hW) hy⟩
      obtain ⟨⟨d0, d1, d2, d3⟩, d4⟩ := unhide HSN wr hCB.base
      have bd : Below wr.heap.size wr wr.drew := ⟨rfl, rfl, rfl, Nat.le_refl _, fun _ _ => rfl⟩
      have hCd := hCB.below bd
      have CR := hide (reachedS (rd := rd) (wr_ := wr_) (s := s) (unhide HV _ hCd.base) (erow_below (unhide HB).2.2.2 hCd.base) l5 l6 (by omega) (by omega))
      have HCD : Hid (CB wb L (.slice x xn xc) vs css wr.drew ∧ css.length ≤ 1000000) := ⟨hCd, by omega⟩
      obtain ⟨i1, hi1⟩ : ∃ i1, i1 = i + 1 := ⟨_, rfl⟩
      have zw : Hid (wrap64 ((i : Int) + 1) = (i1 : Int)) := by show wrap64 ((i : Int) + 1) = (i1 : Int); unfold wrap64; omega
      have HI1 := hide hi1
      have z1 : (i : Int) < (n : Int) := by omega
      have HJ : Hid (i1 ≤ n ∧ n - i1 < n - i) := ⟨by omega, by omega⟩
      have HCL : Hid (∀ bs : List Bool, bs.length = V.length → (∀ j : Nat, bs[j]? = some true ↔ ∃ p : Nat, V[p]? = some s ∧ T9.Reach (nextOf V (arcsE es)) p j) → (css ++ [bs]).length = i1 ∧ Clo V es (css ++ [bs])) := fun bs q1 q2 => by
        refine ⟨by simp [hcl, hi1], fun j zs hj => ?_⟩
        rcases Nat.lt_or_ge j css.length with z | z
        · rw [List.getElem?_append_left z] at hj; exact hCl j zs hj
        · have hji : j = i := by have := (List.getElem?_eq_some_iff.1 hj).1; simp at this; omega
          subst hji
          rw [← hcl, List.getElem?_append_right (Nat.le_refl _), Nat.sub_self] at hj
          have hj := Option.some.inj (show some bs = some zs from hj)
          subst hj
          refine ⟨q1, fun k => (q2 k).trans ⟨fun ⟨p, h1, h2⟩ => ?_, fun h => ⟨j, hy, h⟩⟩⟩
          have e1 := idx_at9 l5 h1
          have e2 := idx_at9 l5 hy
          rw [← e2, e1]; exact h2
      clear hCB hCl l1 l2 l3 l4 l5 l6 hlt hi hS hi1 hy bd hCd hcl k0
      have k0 := d0
      go_upto_region 5 with fail
      clear k0
      refine wp_region_noPanic ?_
      refine regionL [] (fun y => (y.cell? ⟨gb, 0, none⟩ = some (.slice (some ⟨g, 0, none⟩) n c) ∧ y.cell? ⟨gb, 1, none⟩ = some (.slice ea m ec) ∧ y.cell? ⟨gb, 2, none⟩ = some (.int .i64 rd) ∧ y.cell? ⟨gb, 3, none⟩ = some (.int .i64 wr_)) ∧ y.cell? ⟨g, i, none⟩ = some (.int .i64 s)) (by kernel_rfl) ⟨⟨d0, d1, d2, d3⟩, d4⟩ (fun hHeld => ?_)
      refine takeL (i := 0) (v := ?t2v0) (some 12) rfl rfl (by kernel_rfl) (by kernel_rfl) (by kernel_rfl) (by kernel_rfl) (by kernel_rfl) (fun _ _ _ h => h) (Or.inl ⟨by rfl, ?t2h0⟩) (by assumption) ?t2r0
      case t2h0 => (intro y hSu; (try dsimp only at hSu); go_simp; first | done | with_reducible rfl)
      (try simp only [Act.put, List.setIfInBounds_toArray, List.set_cons_zero, List.set_cons_succ])
      refine takeL (i := 1) (v := ?t2v1) (some 13) rfl rfl (by kernel_rfl) (by kernel_rfl) (by kernel_rfl) (by kernel_rfl) (by kernel_rfl) (fun _ _ _ h => h) (Or.inl ⟨by rfl, ?t2h1⟩) (by assumption) ?t2r1
      case t2h1 => (intro y hSu; (try dsimp only at hSu); go_simp; first | done | with_reducible rfl)
      (try simp only [Act.put, List.setIfInBounds_toArray, List.set_cons_zero, List.set_cons_succ])
      refine takeL (i := 2) (v := ?t2v2) (some 14) rfl rfl (by kernel_rfl) (by kernel_rfl) (by kernel_rfl) (by kernel_rfl) (by kernel_rfl) (fun _ _ _ h => h) (Or.inl ⟨by rfl, ?t2h2⟩) (by assumption) ?t2r2
      case t2h2 => (intro y hSu; (try dsimp only at hSu); go_simp; first | done | with_reducible rfl)
      (try simp only [Act.put, List.setIfInBounds_toArray, List.set_cons_zero, List.set_cons_succ])
      refine takeL (i := 3) (v := ?t2v3) (some 15) rfl rfl (by kernel_rfl) (by kernel_rfl) (by kernel_rfl) (by kernel_rfl) (by kernel_rfl) (fun _ _ _ h => h) (Or.inl ⟨by rfl, ?t2h3⟩) (by assumption) ?t2r3
      case t2h3 => (intro y hSu; (try dsimp only at hSu); go_simp; first | done | with_reducible rfl)
      (try simp only [Act.put, List.setIfInBounds_toArray, List.set_cons_zero, List.set_cons_succ])
      refine takeL (i := 4) (v := ?t2v4) (some 16) rfl rfl (by kernel_rfl) (by kernel_rfl) (by kernel_rfl) (by kernel_rfl) (by kernel_rfl) (fun _ _ _ h => h) (Or.inl ⟨by rfl, ?t2h4⟩) (by assumption) ?t2r4
      case t2h4 => (intro y hSu; (try dsimp only at hSu); go_simp; first | done | with_reducible rfl)
      (try simp only [Act.put, List.setIfInBounds_toArray, List.set_cons_zero, List.set_cons_succ])
      refine takeL (i := 5) (v := ?t2v5) (some 17) rfl rfl (by kernel_rfl) (by kernel_rfl) (by kernel_rfl) (by kernel_rfl) (by kernel_rfl) (fun _ _ _ h => h) (Or.inl ⟨by rfl, ?t2h5⟩) (by assumption) ?t2r5
      case t2h5 => (intro y hSu; (try dsimp only at hSu); go_simp; first | done | with_reducible rfl)
      (try simp only [Act.put, List.setIfInBounds_toArray, List.set_cons_zero, List.set_cons_succ])
      refine takeL (i := 6) (v := ?t2v6) (some 18) rfl rfl (by kernel_rfl) (by kernel_rfl) (by kernel_rfl) (by kernel_rfl) (by kernel_rfl) (fun _ _ _ h => h) (Or.inl ⟨by rfl, ?t2h6⟩) (by assumption) ?t2r6
      case t2h6 => (intro y hSu; (try dsimp only at hSu); go_simp; first | done | with_reducible rfl)
      (try simp only [Act.put, List.setIfInBounds_toArray, List.set_cons_zero, List.set_cons_succ])
      refine readyL (i := 7) (by kernel_rfl) rfl (fun K hK => ?_)
      go_simp
      refine (unhide CR).mono ?_
      intro r w4 hh
      obtain ⟨gh, nh, ch, bs, rfl, hnh, hT, hbl, hiff, hB4⟩ := unhide hh
      clear CR hh
      rw [show nh = bs.length by omega] at hT ⊢
      have hnb := hbl
      obtain ⟨a5, n5, c5, w5, r5, hB5, L5, hC5⟩ := (unhide HCD).1.push hB4 hT (unhide HCD).2
      obtain ⟨q1, q2⟩ := unhide HCL bs hbl hiff
      have HR5 := hide r5
      have hB4' := (unhide HCD).1.base.trans (hB4.mono (unhide HCD).1.base.size)
      have hB4'' := hB4'.trans ((below_new w4 (.cells #[.slice (some ⟨gh, 0, none⟩) bs.length ch] 94)).mono hB4'.size)
      have HE4 := hide (unhide HSN w4 hB4')
      have HE5 := hide (unhide HSN _ hB4'')
      have HE6 := hide (unhide HSN w5 hB5)
      have HD : Hid (∃ L vs css, CB wb L (.slice a5 n5 c5) vs css w5 ∧ css.length = i1 ∧ Clo V es css) := ⟨_, _, _, hC5, q1, q2⟩
      clear hT hbl hiff hB4 hnh r5 hB5 hC5 q1 q2 hB4' hB4'' hnb HCD HCL
      generalize bs.length = nb at *
      (try dsimp only)
      refine hK.out _ _ (fun _ => (unhide HE4)) ?_
      clear hK K
      (try simp only [Act.put, List.setIfInBounds_toArray, List.set_cons_zero, List.set_cons_succ])
      have hH4 := (unhide HE4)
      refine readyL (i := 8) (by kernel_rfl) rfl (fun K hK => ?_)
      go_simp
      refine hK.out _ _ (fun _ => (unhide HE5)) ?_
      clear hK K
      (try simp only [Act.put, List.setIfInBounds_toArray, List.set_cons_zero, List.set_cons_succ])
      have hH6 := (unhide HE5)
      refine readyL (i := 9) (by kernel_rfl) rfl (fun K hK => ?_)
      refine step_append_run rfl (.tmp 12) (.tmp 20) 92 rfl _ _ (by simp [Act.eval]; first | rfl | done) (by simp [Act.eval]; first | rfl | done) _ _ (unhide HR5 _) ?_
      refine hK.out _ _ (fun _ => (unhide HE6)) ?_
      clear hK K
      (try simp only [Act.put, List.setIfInBounds_toArray])
      have hH7 := (unhide HE6)
      refine readyL (i := 10) (by kernel_rfl) rfl (fun K hK => ?_)
      go_simp
      refine hK.out _ _ (fun _ => (unhide HE6)) ?_
      clear hK K
      (try simp only [Act.put, List.setIfInBounds_toArray, List.set_cons_zero, List.set_cons_succ])
      have hH9 := (unhide HE6)
      refine doneL (by kernel_rfl) ?_ _
      refine NoPanic.normal ?_
      clear d0 d1 d2 d3 d4 hHeld HR5 HE4 HE5 HE6
      go_wp2_with fail
      (try rw [unhide zw])
      exact ⟨⟨i1, a5, n5, c5, by first | rfl | (rw [unhide HI1]; rfl), rfl, (unhide HJ).1, HD⟩, by have := (unhide HJ).2; simp [intOf]; omega⟩
    · have z1 : ¬ (i : Int) < (n : Int) := by omega
      have HE : Hid (css.length = V.length ∧ LTr wr (.slice x xn xc) css ∧ Clo V es css ∧ Below w.heap.size w wr) := by
        have hb := (unhide HB).1
        rw [unhide HGB] at hb
        exact ⟨by omega, hCB.read, hCl, hb.trans (hCB.base.mono hb.size)⟩
      clear hCB hCl l1 l2 l3 l4 l5 l6 hlt hi hS hcl
      go_wp2_with fail
      go_ret
      exact ⟨x, xn, xc, css, rfl, unhide HE⟩
end

section
open Go.RowKit Go.Maps T9
set_option maxHeartbeats 4000000 in
set_option maxRecDepth 100000 in
theorem sameInts9 {w : World} {v1 v2 : Value} {a b : List Int} (h1 : NRow w v1 a) (h2 : NRow w v2 b) (hl : a.length ≤ 1000000) :
    Calls Tryz.prog 17 #[v1, v2] w fun e w' => e = .returned (.bool (decide (a = b))) ∧ ∃ q, w' = w.drewN q := by
  obtain ⟨x1, c1, e1, -⟩ := brow_shape h1
  obtain ⟨x2, c2, e2, -⟩ := brow_shape h2
  obtain ⟨n1, hn1⟩ : ∃ n1, n1 = a.length := ⟨_, rfl⟩
  obtain ⟨n2, hn2⟩ : ∃ n2, n2 = b.length := ⟨_, rfl⟩
  rw [← hn1] at e1
  rw [← hn2] at e2
  have HN : Hid (n1 = a.length ∧ n2 = b.length ∧ n1 ≤ 1000000) := ⟨hn1, hn2, by omega⟩
  have HC := hide (And.intro h1 h2)
  clear h1 h2 hl hn1 hn2
  subst e1 e2
  generalize hrr : decide (a = b) = rr
  have HRR := hide hrr
  clear hrr
  by_cases hlen : n1 = n2
  · subst hlen
    go_enter Tryz.func17, Tryz.ntmps17
    go_wp2_with fail
    go_loopw [13] (fun s13 wr => ∃ i q : Nat, s13 = .int .i64 (i : Nat) ∧ wr = w.drewN q ∧ i ≤ n1 ∧ Hid (∀ j, j < i → a[j]? = b[j]?)) (fun s13 _ => n1 - (intOf s13).toNat)
    case atStart => exact ⟨0, 0, rfl, rfl, Nat.zero_le _, fun j hj => absurd hj (Nat.not_lt_zero _)⟩
    case round =>
      obtain ⟨i, q, rfl, rfl, hi, hS⟩ := hrel
      obtain ⟨l1, l2, l3⟩ := unhide HN
      by_cases hlt : i < n1
      · obtain ⟨y1, hy1⟩ : ∃ y, a[i]? = some y := ⟨_, List.getElem?_eq_getElem (by omega)⟩
        obtain ⟨y2, hy2⟩ : ∃ y, b[i]? = some y := ⟨_, List.getElem?_eq_getElem (by omega)⟩
        obtain ⟨g1, hg1⟩ := brow_some (unhide HC).1 (by omega)
        subst hg1
        obtain ⟨g2, hg2⟩ := brow_some (unhide HC).2 (by omega)
        subst hg2
        have k1 := brow_at (unhide HC).1 hy1
        have k2 := brow_at (unhide HC).2 hy2
        have z1 : (i : Int) < (n1 : Int) := by omega
        obtain ⟨i1, hi1⟩ : ∃ i1, i1 = i + 1 := ⟨_, rfl⟩
        have zw : Hid (wrap64 ((i : Int) + 1) = (i1 : Int)) := by show wrap64 ((i : Int) + 1) = (i1 : Int); unfold wrap64; omega
        by_cases hyy : y1 = y2
        · subst hyy
          have HJ : Hid ((∀ j, j < i1 → a[j]? = b[j]?) ∧ i1 ≤ n1 ∧ n1 - i1 < n1 - i) := ⟨fun j hj => by
            by_cases e : j = i
            · rw [e, hy1, hy2]
            · exact unhide hS j (by omega), by omega, by omega⟩
          clear hy1 hy2 hi1 hlt hi hS l1 l2 l3
          go_wp2_with fail
          go_quiet (fail)
          go_wp2_with fail
          rw [unhide zw]
          exact ⟨⟨i1, _, rfl, rfl, (unhide HJ).2.1, (unhide HJ).1⟩, by have := (unhide HJ).2.2; simp [intOf]; omega⟩
        · have hz : (y1 == y2) = false := by simpa using hyy
          have HG : Hid (rr = false) := by
            rw [← unhide HRR]
            refine decide_eq_false (fun e => ?_)
            rw [e, hy2] at hy1
            injection hy1 with hy1
            exact hyy hy1.symm
          clear hy1 hy2 hi1 hlt hi hS l1 l2 l3 hyy
          go_wp2_with fail
          go_quiet (fail)
          go_wp2_with fail
          go_ret
          exact ⟨by rw [unhide HG]; rfl, _, World.drewN_drewN _ _ _⟩
      · have z1 : ¬ (i : Int) < (n1 : Int) := by omega
        have HG : Hid (rr = true) := by
          rw [← unhide HRR]
          refine decide_eq_true (List.ext_getElem? (fun j => ?_))
          by_cases hj : j < n1
          · exact unhide hS j (by omega)
          · rw [List.getElem?_eq_none (by omega), List.getElem?_eq_none (by omega)]
        clear hlt hi hS l1 l2 l3
        go_wp2_with fail
        go_ret
        exact ⟨by rw [unhide HG]; rfl, _, rfl⟩
  · have hz : ((n1 : Int) == (n2 : Int)) = false := by simp; omega
    have HG : Hid (rr = false) := by
      rw [← unhide HRR]
      refine decide_eq_false (fun e => ?_)
      obtain ⟨l1, l2, -⟩ := unhide HN
      rw [e] at l1; omega
    clear hlen
    go_enter Tryz.func17, Tryz.ntmps17
    go_wp2_with fail
    go_ret
    exact ⟨by rw [unhide HG]; rfl, 0, rfl⟩
/-- A list of lists that can be read. -/
def LLr (w : World) (v : Value) (xss : List (List Int)) : Prop := ∃ x c, v = .slice x xss.length c ∧ ∀ (i : Nat) (ks : List Int), xss[i]? = some ks → ∃ g y, x = some ⟨g, 0, none⟩ ∧ w.cell? ⟨g, i, none⟩ = some y ∧ NRow w y ks
theorem LLat.r {B a : Nat} {L : Nat → Nat} {w : World} {v : Value} {vs : List Value} {xss : List (List Int)} (h : LLat B L a w v vs xss) : LLr w v xss := by
  obtain ⟨x, c, e, -⟩ := h.shape
  subst e
  refine ⟨x, c, rfl, fun i ks hi => ?_⟩
  obtain ⟨g, hg⟩ := h.some_ (by have := (List.getElem?_eq_some_iff.1 hi).1; omega)
  subst hg
  obtain ⟨y, h1, h2⟩ := h.inrow hi
  exact ⟨g, y, rfl, h.cell h1, brow_at0 h2⟩
theorem llr_below {w w' : World} {v : Value} {xss : List (List Int)} (h : LLr w v xss) (hb : Below w.heap.size w w') : LLr w' v xss := by
  obtain ⟨x, c, e, hh⟩ := h
  refine ⟨x, c, e, fun i ks hi => ?_⟩
  obtain ⟨g, y, e1, e2, e3⟩ := hh i ks hi
  have hl : g < w.heap.size := by
    have h2 := e2
    unfold World.cell? at h2
    rcases Nat.lt_or_ge g w.heap.size with q | q
    · exact q
    · rw [Array.getElem?_eq_none q] at h2; cases h2
  exact ⟨g, y, e1, (hb.cell (p := ⟨g, i, none⟩) hl).trans e2, nrow_below e3 hb⟩
theorem llr_drew {w : World} {v : Value} {xss : List (List Int)} (h : LLr w v xss) (q : Nat) : LLr (w.drewN q) v xss := llr_below h ⟨rfl, rfl, rfl, Nat.le_refl _, fun _ _ => rfl⟩
end

section
open Go.RowKit Go.Maps T9
/-- The place of the list that has it, or -1. -/
def compAt (xss : List (List Int)) (x : Int) : Int := match xss.findIdx? (fun l => decide (x ∈ l)) with | some i => (i : Nat) | none => -1
theorem compAt_some {xss : List (List Int)} {x : Int} {i : Nat} {y : List Int} (hy : xss[i]? = some y) (hx : x ∈ y) (hS : ∀ (j : Nat) (l : List Int), j < i → xss[j]? = some l → x ∉ l) : compAt xss x = (i : Int) := by
  obtain ⟨hl, e⟩ := List.getElem?_eq_some_iff.1 hy
  have : xss.findIdx? (fun l => decide (x ∈ l)) = some i := by
    rw [List.findIdx?_eq_some_iff_getElem]
    refine ⟨hl, by rw [e]; exact decide_eq_true hx, fun j hj => ?_⟩
    have := hS j xss[j] hj (List.getElem?_eq_getElem (by omega))
    simpa using this
  unfold compAt; rw [this]
theorem compAt_none {xss : List (List Int)} {x : Int} (hS : ∀ (j : Nat) (l : List Int), xss[j]? = some l → x ∉ l) : compAt xss x = -1 := by
  have : xss.findIdx? (fun l => decide (x ∈ l)) = none := by
    rw [List.findIdx?_eq_none_iff]
    intro l hl
    obtain ⟨j, hj⟩ := List.mem_iff_getElem?.1 hl
    exact decide_eq_false (hS j l hj)
  unfold compAt; rw [this]
set_option maxHeartbeats 4000000 in
set_option maxRecDepth 100000 in
theorem inS {w : World} {v : Value} {ks : List Int} {x : Int} (h : NRow w v ks) (hl : ks.length ≤ 1000000) :
    Calls Tryz.prog 72 #[v, .int .i64 x] w fun e w' => e = .returned (.bool (decide (x ∈ ks))) ∧ w' = w := by
  obtain ⟨x1, c1, e1, -⟩ := brow_shape h
  obtain ⟨n1, hn1⟩ : ∃ n1, n1 = ks.length := ⟨_, rfl⟩
  rw [← hn1] at e1
  have HN : Hid (n1 = ks.length ∧ n1 ≤ 1000000) := ⟨hn1, by omega⟩
  have HC := hide h
  clear h hl hn1
  subst e1
  generalize hrr : decide (x ∈ ks) = rr
  have HRR := hide hrr
  clear hrr
  go_enter Tryz.func72, Tryz.ntmps72
  go_wp2_with fail
  go_loopw [5] (fun s5 wr => ∃ i : Nat, s5 = .int .i64 (i : Nat) ∧ wr = w ∧ i ≤ n1 ∧ Hid (∀ j : Nat, j < i → ks[j]? ≠ some x)) (fun s5 _ => n1 - (intOf s5).toNat)
  case atStart => exact ⟨0, rfl, rfl, Nat.zero_le _, fun j hj => absurd hj (Nat.not_lt_zero _)⟩
  case round =>
    obtain ⟨i, rfl, rfl, hi, hS⟩ := hrel
    obtain ⟨l1, l2⟩ := unhide HN
    by_cases hlt : i < n1
    · obtain ⟨y, hy⟩ : ∃ y, ks[i]? = some y := ⟨_, List.getElem?_eq_getElem (by omega)⟩
      obtain ⟨g1, hg1⟩ := brow_some (unhide HC) (by omega)
      subst hg1
      have k1 := brow_at (unhide HC) hy
      have z1 : (i : Int) < (n1 : Int) := by omega
      by_cases hyy : y = x
      · subst hyy
        have HG : Hid (rr = true) := by
          show rr = true
          rw [← unhide HRR]; exact decide_eq_true (List.mem_of_getElem? hy)
        clear hy hlt hi hS l1 l2
        go_wp2_with fail
        go_ret
        exact ⟨by rw [unhide HG]; rfl, rfl⟩
      · have hz : (y == x) = false := by simpa using hyy
        obtain ⟨i1, hi1⟩ : ∃ i1, i1 = i + 1 := ⟨_, rfl⟩
        have zw : Hid (wrap64 ((i : Int) + 1) = (i1 : Int)) := by show wrap64 ((i : Int) + 1) = (i1 : Int); unfold wrap64; omega
        have HJ : Hid ((∀ j : Nat, j < i1 → ks[j]? ≠ some x) ∧ i1 ≤ n1 ∧ n1 - i1 < n1 - i) := ⟨fun j hj => by
            by_cases e : j = i
            · rw [e, hy]; exact fun q => hyy (by injection q)
            · exact unhide hS j (by omega), by omega, by omega⟩
        clear hy hlt hi hS l1 l2 hyy hi1
        go_wp2_with fail
        rw [unhide zw]
        exact ⟨⟨i1, rfl, trivial, (unhide HJ).2.1, (unhide HJ).1⟩, by have := (unhide HJ).2.2; simp [intOf]; omega⟩
    · have HG : Hid (rr = false) := by
        show rr = false
        rw [← unhide HRR]
        refine decide_eq_false (fun e => ?_)
        obtain ⟨j, hj⟩ := List.mem_iff_getElem?.1 e
        exact unhide hS j (by have := (List.getElem?_eq_some_iff.1 hj).1; omega) hj
      have z1 : ¬ (i : Int) < (n1 : Int) := by omega
      clear hlt hi hS l1 l2
      go_wp2_with fail
      go_ret
      exact ⟨by rw [unhide HG]; rfl, rfl⟩
set_option maxHeartbeats 4000000 in
set_option maxRecDepth 100000 in
theorem compS {w : World} {v : Value} {xss : List (List Int)} {x : Int} (h : LLr w v xss) (hl : xss.length ≤ 1000000) (hll : ∀ l ∈ xss, l.length ≤ 1000000) :
    Calls Tryz.prog 53 #[v, .int .i64 x] w fun e w' => e = .returned (.int .i64 (compAt xss x)) ∧ w' = w := by
  obtain ⟨x1, c1, e1, H1⟩ := h
  obtain ⟨n1, hn1⟩ : ∃ n1, n1 = xss.length := ⟨_, rfl⟩
  rw [← hn1] at e1
  have HN : Hid (n1 = xss.length ∧ n1 ≤ 1000000 ∧ ∀ l ∈ xss, l.length ≤ 1000000) := ⟨hn1, by omega, hll⟩
  have HC := hide H1
  clear H1 hl hn1 hll
  subst e1
  generalize hrr : compAt xss x = rr
  have HRR := hide hrr
  clear hrr
  go_enter Tryz.func53, Tryz.ntmps53
  go_wp2_with fail
  go_loopw [5] (fun s5 wr => ∃ i : Nat, s5 = .int .i64 (i : Nat) ∧ wr = w ∧ i ≤ n1 ∧ Hid (∀ (j : Nat) (l : List Int), j < i → xss[j]? = some l → x ∉ l)) (fun s5 _ => n1 - (intOf s5).toNat)
  case atStart => exact ⟨0, rfl, rfl, Nat.zero_le _, fun j l hj => absurd hj (Nat.not_lt_zero _)⟩
  case round =>
    obtain ⟨i, rfl, rfl, hi, hS⟩ := hrel
    obtain ⟨l1, l2, l3⟩ := unhide HN
    by_cases hlt : i < n1
    · obtain ⟨y, hy⟩ : ∃ y, xss[i]? = some y := ⟨_, List.getElem?_eq_getElem (by omega)⟩
      obtain ⟨g1, u1, hg1, k1, r1⟩ := unhide HC i y hy
      subst hg1
      have CI := hide (inS (x := x) r1 (l3 y (List.mem_of_getElem? hy)))
      obtain ⟨ux1, uc1, ue1, -⟩ := brow_shape r1
      subst ue1
      have z1 : (i : Int) < (n1 : Int) := by omega
      by_cases hyy : x ∈ y
      · have HG : Hid (rr = (i : Int)) := by
          show rr = (i : Int)
          rw [← unhide HRR]; exact compAt_some hy hyy (unhide hS)
        rw [decide_eq_true hyy] at CI
        clear hy hlt hi hS l1 l2 l3 r1 hyy
        generalize y.length = m1 at *
        go_wp2_with fail
        refine (unhide CI).mono ?_
        rintro e w' ⟨rfl, rfl⟩
        go_wp2_with fail
        go_ret
        exact ⟨by rw [unhide HG]; rfl, rfl⟩
      · rw [decide_eq_false hyy] at CI
        obtain ⟨i1, hi1⟩ : ∃ i1, i1 = i + 1 := ⟨_, rfl⟩
        have zw : Hid (wrap64 ((i : Int) + 1) = (i1 : Int)) := by show wrap64 ((i : Int) + 1) = (i1 : Int); unfold wrap64; omega
        have HJ : Hid ((∀ (j : Nat) (l : List Int), j < i1 → xss[j]? = some l → x ∉ l) ∧ i1 ≤ n1 ∧ n1 - i1 < n1 - i) := ⟨fun j l hj hl => by
            by_cases e : j = i
            · rw [e, hy] at hl; injection hl with hl; rw [← hl]; exact hyy
            · exact unhide hS j l (by omega) hl, by omega, by omega⟩
        clear hy hlt hi hS l1 l2 l3 r1 hyy hi1
        generalize y.length = m1 at *
        go_wp2_with fail
        refine (unhide CI).mono ?_
        rintro e w' ⟨rfl, rfl⟩
        clear CI
        go_wp2_with fail
        rw [unhide zw]
        exact ⟨⟨i1, rfl, trivial, (unhide HJ).2.1, (unhide HJ).1⟩, by have := (unhide HJ).2.2; simp [intOf]; omega⟩
    · have HG : Hid (rr = -1) := by
        show rr = -1
        rw [← unhide HRR]
        exact compAt_none (fun j l hl => unhide hS j l (by have := (List.getElem?_eq_some_iff.1 hl).1; omega) hl)
      have z1 : ¬ (i : Int) < (n1 : Int) := by omega
      clear hlt hi hS l1 l2 l3
      go_wp2_with fail
      go_ret
      exact ⟨by rw [unhide HG]; rfl, rfl⟩
end

end Go.Proofs.YtkmhcgmmbkchaaaGreat
