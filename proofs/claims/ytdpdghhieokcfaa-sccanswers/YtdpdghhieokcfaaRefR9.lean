/- The reference's Reached: whom a vertex reaches. -/
import Derived.Test.YtdpdghhieokcfaaApi92
import Derived.Test.YtdpdghhieokcfaaRefE9
import Derived.Laws.Rows
namespace Go.Proofs.Ytdpdghhieokcfaa

section
open Go.RowKit Go.Maps T9
theorem addr_off (b off j : Nat) : (⟨b, off, none⟩ : Addr).add j = ⟨b, off + j, none⟩ := by
  unfold Addr.add
  split <;> simp_all
/-- A row of lists' heads. -/
abbrev HRow (B : Nat) (w : World) (v : Value) (vs : List Value) : Prop := w.ownsRow B 22 1 v vs.length vs
theorem hrow_kept {B : Nat} {w w' : World} {v : Value} {vs : List Value} (h : HRow B w v vs) (hk : ∀ b, v.ownBlock = some b → w'.heap[b]? = w.heap[b]?) : HRow B w' v vs := by
  refine ⟨h.1, ?_⟩
  rcases h.2 with hn | ⟨g, cap, cur, e, hb, hgg, rest⟩
  · exact .inl hn
  · exact .inr ⟨g, cap, cur, e, hb, (hk g (by rw [e]; rfl)).trans hgg, rest⟩
theorem hrow_shape {B : Nat} {w : World} {v : Value} {vs : List Value} (h : HRow B w v vs) : ∃ a c, v = .slice a vs.length c ∧ vs.length ≤ c := by
  rcases h.2 with ⟨e, h0⟩ | ⟨g', cap, cur, e, -, -, hc, -⟩
  · exact ⟨none, 0, by rw [e, h0], by omega⟩
  · exact ⟨_, _, e, hc⟩
theorem hrow_some {B : Nat} {w : World} {a : Option Addr} {n c : Nat} {vs : List Value} (h : HRow B w (.slice a n c) vs) (h0 : 0 < vs.length) : ∃ g, a = some ⟨g, 0, none⟩ := by
  rcases h.2 with ⟨e, h1⟩ | ⟨g', cap, cur, e, -⟩
  · omega
  · injection e with e1; exact ⟨g', e1⟩
theorem hrow_at {B : Nat} {w : World} {g n c : Nat} {vs : List Value} (h : HRow B w (.slice (some ⟨g, 0, none⟩) n c) vs) {j : Nat} {e : Value} (hj : vs[j]? = some e) : w.cell? ⟨g, j, none⟩ = some e := by
  have := h.cells (g := g) rfl j e hj
  rwa [addr_off, Nat.zero_add] at this
theorem hrow_low {B B' : Nat} {w : World} {v : Value} {vs : List Value} (h : HRow B' w v vs) (hb : B ≤ B') : HRow B w v vs := ⟨h.1, h.2.imp id (fun ⟨g, cap, cur, e, q, r⟩ => ⟨g, cap, cur, e, Nat.le_trans hb q, r⟩)⟩
theorem run_append_nilH (w : World) (base : Option Addr) (l c : Nat) (hlc : l ≤ c) (ty : TypeId) : (Builtin.append_ #[27, 27] ty #[.slice base l c, .slice none 0 0]).run Try.prog w = .ok (.slice base l c) w := by
  obtain ⟨i, hi, hz, hs, hb⟩ := info_parts infoIS
  cases base <;> simp [Builtin.append_, run_underlying Try.underlying27, sizeOf, typeInfo, hi, Builtin.lenOf, Builtin.firstCells, hlc, storeCells]
/-- Heads of lists, appended from wherever they lie. -/
theorem run_appH {B : Nat} {w : World} {v : Value} {l l2 : List Value} {ad : Addr} {c : Nat} (h : HRow B w v l) (hB : B ≤ w.heap.size) (hcell : ∀ j u, l2[j]? = some u → w.cell? (ad.add j) = some u) (h1 : ∀ u ∈ l2, u.oneCell' = true) (hl : l.length + l2.length ≤ 1000000) :
    ∃ a' n' c' w', (∀ ty, (Builtin.append_ #[27, 27] ty #[v, .slice (some ad) l2.length c]).run Try.prog w = .ok (.slice a' n' c') w') ∧ HRow B w' (.slice a' n' c') (l ++ l2) ∧ Turned (fun b => v.ownBlock = some b) w w' ∧ ∀ b, (Value.slice a' n' c').ownBlock = some b → v.ownBlock = some b ∨ w.heap.size ≤ b := by
  obtain ⟨i, hi, hz, hsz, hb⟩ := info_parts infoIS
  obtain ⟨v', w', hr, g1, g2, -, g5⟩ := run_append_own_at (P := Try.prog) w B 27 0 22 i _ 1 24 Try.underlying27 hi hz hsz hb rfl (by omega) v l.length l h ad l2.length c l2 (by omega) hcell h1 (by unfold maxLen; omega) (by omega) hB
  have e2 : l.length + l2.length = (l ++ l2).length := by simp
  rw [e2] at g1
  have g1' : HRow B w' v' (l ++ l2) := g1
  obtain ⟨a', c', e, -⟩ := hrow_shape g1'
  subst e
  refine ⟨a', _, c', w', fun ty => hr, g1', ⟨g2.os, g2.tape, g2.output, g2.size, fun k hk hn => g2.block k hk (fun e => hn e.symm)⟩, fun b eb => ?_⟩
  rcases g5 with q | q
  · exact .inl (by rw [← q]; exact eb)
  · have eb2 := Option.some.inj (q.symm.trans eb); exact .inr (by omega)
end

section
open Go.RowKit Go.Maps T9
/-- A record: its number, where it begins and ends, its weight's bits. -/
abbrev EdV := Int × Int × Int × Int
def encE9 (es : List EdV) : List Value := es.flatMap (fun a => [.int .i64 a.1, .int .i64 a.2.1, .int .i64 a.2.2.1, .int .u32 a.2.2.2])
theorem encE9_len (l : List EdV) : (encE9 l).length = l.length * 4 := by
  induction l with
  | nil => rfl
  | cons a l ih => show (_ :: _ :: _ :: _ :: encE9 l).length = _; simp only [List.length_cons, ih]; omega
theorem encE9_append (a b : List EdV) : encE9 (a ++ b) = encE9 a ++ encE9 b := by simp [encE9]
theorem encE9_one (l : List EdV) : ∀ u ∈ encE9 l, u.oneCell' = true := by
  intro u hu
  simp only [encE9, List.mem_flatMap, List.mem_cons, List.not_mem_nil, or_false] at hu
  obtain ⟨r, -, rfl | rfl | rfl | rfl⟩ := hu <;> rfl
theorem encE9_at : ∀ {l : List EdV} {i : Nat} {a : EdV}, l[i]? = some a → (encE9 l)[i * 4]? = some (.int .i64 a.1) ∧ (encE9 l)[i * 4 + 1]? = some (.int .i64 a.2.1) ∧ (encE9 l)[i * 4 + 2]? = some (.int .i64 a.2.2.1) ∧ (encE9 l)[i * 4 + 3]? = some (.int .u32 a.2.2.2)
  | [], i, a, h => by cases h
  | x :: l, 0, a, h => by injection h with h; subst h; exact ⟨rfl, rfl, rfl, rfl⟩
  | x :: l, i + 1, a, h => by
    have := encE9_at (l := l) (i := i) (a := a) h
    rw [show (i + 1) * 4 = i * 4 + 1 + 1 + 1 + 1 by omega]
    exact this
abbrev ERow (B : Nat) (w : World) (v : Value) (l : List EdV) : Prop := w.ownsRow B 58 4 v l.length (encE9 l)
theorem erow_kept {B : Nat} {w w' : World} {v : Value} {l : List EdV} (h : ERow B w v l) (hk : ∀ b, v.ownBlock = some b → w'.heap[b]? = w.heap[b]?) : ERow B w' v l := by
  refine ⟨h.1, ?_⟩
  rcases h.2 with hn | ⟨g, cap, cur, e, hb, hgg, rest⟩
  · exact .inl hn
  · exact .inr ⟨g, cap, cur, e, hb, (hk g (by rw [e]; rfl)).trans hgg, rest⟩
theorem erow_below {B : Nat} {w w' : World} {v : Value} {l : List EdV} (h : ERow B w v l) (hb : Below w.heap.size w w') : ERow B w' v l := erow_kept h (fun b e => hb.block b (h.lt b e).2)
theorem erow_zero {B : Nat} {w : World} {v : Value} {l : List EdV} (h : ERow B w v l) : ERow 0 w v l := ⟨h.1, h.2.imp id (fun ⟨g, cap, cur, e, _, r⟩ => ⟨g, cap, cur, e, Nat.zero_le _, r⟩)⟩
theorem erow_shape {B : Nat} {w : World} {v : Value} {l : List EdV} (h : ERow B w v l) : ∃ a c, v = .slice a l.length c ∧ l.length ≤ c := by
  rcases h.2 with ⟨e, h0⟩ | ⟨g', cap, cur, e, -, -, hc, -⟩
  · exact ⟨none, 0, by rw [e, h0], by omega⟩
  · exact ⟨_, _, e, hc⟩
theorem erow_some {B : Nat} {w : World} {a : Option Addr} {n c : Nat} {l : List EdV} (h : ERow B w (.slice a n c) l) (h0 : 0 < l.length) : ∃ g, a = some ⟨g, 0, none⟩ := by
  rcases h.2 with ⟨e, h1⟩ | ⟨g', cap, cur, e, -⟩
  · omega
  · injection e with e1; exact ⟨g', e1⟩
theorem erow_at {B : Nat} {w : World} {g n c i : Nat} {l : List EdV} {a : EdV} (h : ERow B w (.slice (some ⟨g, 0, none⟩) n c) l) (hi : l[i]? = some a) : w.cell? ⟨g, i * 4, none⟩ = some (.int .i64 a.1) ∧ w.cell? ⟨g, i * 4 + 1, none⟩ = some (.int .i64 a.2.1) ∧ w.cell? ⟨g, i * 4 + 2, none⟩ = some (.int .i64 a.2.2.1) ∧ w.cell? ⟨g, i * 4 + 3, none⟩ = some (.int .u32 a.2.2.2) := by
  obtain ⟨h1, h2, h3, h4⟩ := encE9_at hi
  have f1 := h.cells (g := g) rfl _ _ h1
  have f2 := h.cells (g := g) rfl _ _ h2
  have f3 := h.cells (g := g) rfl _ _ h3
  have f4 := h.cells (g := g) rfl _ _ h4
  rw [addr_off, Nat.zero_add] at f1 f2 f3 f4
  exact ⟨f1, f2, f3, f4⟩
set_option maxHeartbeats 1000000 in
set_option maxRecDepth 100000 in
theorem infoED : (Try.prog.info? 58).map (fun i => (i.zero, i.size, i.bytes)) = some (some (.agg #[.int .i64 0, .int .i64 0, .int .i64 0, .int .u32 0]), 4, 32) := by kernel_rfl
/-- A record in a block of its own. -/
def oEd (x : EdV) : Obj := .cells #[.int .i64 x.1, .int .i64 x.2.1, .int .i64 x.2.2.1, .int .u32 x.2.2.2] 58 (0, 0)
/-- One record more. -/
theorem run_appE {B : Nat} {w : World} {v : Value} {l : List EdV} (x : EdV) (h : ERow B w v l) (hB : B ≤ w.heap.size) (hl : l.length ≤ 1000000) :
    ∃ a' n' c' w', (∀ ty, (Builtin.append_ #[36, 36] ty #[v, .slice (some ⟨w.heap.size, 0, none⟩) 1 1]).run Try.prog (w.alloc (oEd x)) = .ok (.slice a' n' c') w') ∧ ERow B w' (.slice a' n' c') (l ++ [x]) ∧ Turned (fun b => v.ownBlock = some b) w w' ∧ ∀ b, (Value.slice a' n' c').ownBlock = some b → v.ownBlock = some b ∨ w.heap.size ≤ b := by
  have hb1 := below_new w (oEd x)
  have h1 := erow_below h hb1
  obtain ⟨i, hi, hz, hsz, hb⟩ := info_parts infoED
  have hcell : ∀ j u, (encE9 [x])[j]? = some u → (w.alloc (oEd x)).cell? ((⟨w.heap.size, 0, none⟩ : Addr).add j) = some u := fun j u hj => by
    rw [addr_off, Nat.zero_add, cell_of_row _ _ j _ _ (0, 0) (heap_alloc_new w (oEd x)), ← hj]; simp [encE9]
  obtain ⟨v', w', hr, g1, g2, -, g5⟩ := run_append_own_at (P := Try.prog) (w.alloc (oEd x)) B 36 0 58 i _ 4 32 Try.underlying36 hi hz hsz hb rfl (by omega) v l.length (encE9 l) h1 ⟨w.heap.size, 0, none⟩ 1 1 (encE9 [x]) (by simp [encE9]) hcell (encE9_one [x]) (by unfold maxLen; omega) (by omega) (Nat.le_trans hB hb1.size)
  have e2 : l.length + 1 = (l ++ [x]).length := by simp
  rw [← encE9_append, e2] at g1
  have g1' : ERow B w' v' (l ++ [x]) := g1
  obtain ⟨a', c', e, -⟩ := erow_shape g1'
  subst e
  refine ⟨a', _, c', w', fun ty => hr, g1', (turned_of_below hb1).trans ⟨g2.os, g2.tape, g2.output, g2.size, fun k hk hn => g2.block k hk (fun e => hn e.symm)⟩, fun b eb => ?_⟩
  rcases g5 with q | q
  · exact .inl (by rw [← q]; exact eb)
  · have eb2 := Option.some.inj (q.symm.trans eb); exact .inr (by have := hb1.size; omega)
/-- The graph that is built: its box and the box of the result. -/
structure GP (w0 : World) (gr gb : Nat) (vv ev : Value) (V : List Int) (es : List EdV) (L : Nat → Nat) (W : World) : Prop where
  base : Below w0.heap.size w0 W
  box : W.heap[gb]? = some (oGr vv ev 0 0)
  res : W.heap[gr]? = some (oGr (.slice none 0 0) (.slice none 0 0) 0 0)
  vs : BRow w0.heap.size W vv V
  es : ERow w0.heap.size W ev es
  l1 : L gb = 1
  l2 : L gr = 2
  lv : ∀ b, vv.ownBlock = some b → L b = 3
  le : ∀ b, ev.ownBlock = some b → L b = 4
  hb : w0.heap.size ≤ gb
  hr : w0.heap.size ≤ gr
section
variable {w0 W W' : World} {gr gb : Nat} {vv ev : Value} {V : List Int} {es : List EdV} {L : Nat → Nat}
theorem GP.below (h : GP w0 gr gb vv ev V es L W) (hb : Below W.heap.size W W') : GP w0 gr gb vv ev V es L W' :=
  ⟨h.base.trans (hb.mono h.base.size), (hb.block gb (heap_lt h.box)).trans h.box, (hb.block gr (heap_lt h.res)).trans h.res, brow_kept h.vs (fun b e => hb.block b (h.vs.lt b e).2), erow_below h.es hb, h.l1, h.l2, h.lv, h.le, h.hb, h.hr⟩
theorem GP.app (h : GP w0 gr gb vv ev V es L W) (x : EdV) (hl : es.length ≤ 1000000) :
    ∃ a' n' c' w', (∀ ty, (Builtin.append_ #[36, 36] ty #[ev, .slice (some ⟨W.heap.size, 0, none⟩) 1 1]).run Try.prog (W.alloc (oEd x)) = .ok (.slice a' n' c') w') ∧ w'.heap[gb]? = some (oGr vv ev 0 0) ∧ Below w0.heap.size w0 w' ∧ ∃ L', GP w0 gr gb vv (.slice a' n' c') V (es ++ [x]) L' (w'.setCell ⟨gb, 1, none⟩ (.slice a' n' c')) := by
  obtain ⟨a', n', c', w', r, g1, g2, g3⟩ := run_appE x h.es h.base.size hl
  have hlt := heap_lt h.box
  have hlr := heap_lt h.res
  have hbx : w'.heap[gb]? = some (oGr vv ev 0 0) := (g2.block gb hlt (fun q => by have := h.le gb q; have := h.l1; omega)).trans h.box
  have hne : ∀ b, b ≠ gb → (w'.setCell ⟨gb, 1, none⟩ (.slice a' n' c')).heap[b]? = w'.heap[b]? := fun b q => heap_setCell_other _ _ _ _ q
  have hB' : Below w0.heap.size w0 w' := h.base.trans (g2.below h.base.size (fun b e => (h.es.lt b e).1))
  refine ⟨a', n', c', w', r, hbx, hB', lab L W.heap.size 4, ?_, ?_, ?_, ?_, ?_, ?_, ?_, ?_, ?_, h.hb, h.hr⟩
  · exact hB'.setCell (p := ⟨gb, 1, none⟩) h.hb _
  · rw [heap_setCell_same _ _ _ _ _ _ hbx]; rfl
  · rw [hne gr (fun e => by have := h.l1; have := h.l2; rw [e] at this; omega)]
    exact (g2.block gr hlr (fun q => by have := h.le gr q; have := h.l2; omega)).trans h.res
  · refine brow_kept h.vs (fun b e => ?_)
    have := h.lv b e
    rw [hne b (fun q => by rw [q, h.l1] at this; omega)]
    exact g2.block b (h.vs.lt b e).2 (fun q => by have := h.le b q; omega)
  · refine erow_kept g1 (fun b e => hne b (fun q => ?_))
    rcases g3 b e with z | z
    · have := h.le b z; rw [q, h.l1] at this; omega
    · omega
  · exact (if_pos hlt).trans h.l1
  · exact (if_pos hlr).trans h.l2
  · exact fun b e => (if_pos (h.vs.lt b e).2).trans (h.lv b e)
  · intro b e
    rcases g3 b e with z | z
    · exact (if_pos (h.es.lt b z).2).trans (h.le b z)
    · exact if_neg (by omega)
end
/-- The records of arcs. -/
def edgesOf (l : List (Int × Int)) : List EdV := (List.range l.length).map (fun i : Nat => ((i : Int) + 1, (l.getD i (0, 0)).1, (l.getD i (0, 0)).2, 0))
theorem edgesOf_len (l : List (Int × Int)) : (edgesOf l).length = l.length := by simp [edgesOf]
theorem edgesOf_at {l : List (Int × Int)} {i : Nat} {a : Int × Int} (h : l[i]? = some a) : (edgesOf l)[i]? = some ((i : Int) + 1, a.1, a.2, 0) := by
  have hl := (List.getElem?_eq_some_iff.1 h).1
  unfold edgesOf
  rw [List.getElem?_map, List.getElem?_range hl, Option.map_some, List.getD_eq_getElem?_getD, h]; rfl
theorem edgesOf_snoc {l : List (Int × Int)} {i : Nat} {a : Int × Int} (h : l[i]? = some a) : edgesOf (l.take i) ++ [((i : Int) + 1, a.1, a.2, 0)] = edgesOf (l.take (i + 1)) := by
  have hl := (List.getElem?_eq_some_iff.1 h).1
  apply List.ext_getElem?
  intro k
  have hlen : (edgesOf (l.take i)).length = i := by rw [edgesOf_len, List.length_take]; omega
  rcases Nat.lt_trichotomy k i with q | q | q
  · rw [List.getElem?_append_left (by omega), edgesOf_at (a := l[k]) (by rw [List.getElem?_take, if_pos q]; exact List.getElem?_eq_getElem (by omega)), edgesOf_at (a := l[k]) (by rw [List.getElem?_take, if_pos (by omega)]; exact List.getElem?_eq_getElem (by omega))]
  · subst q
    rw [List.getElem?_append_right (by omega), hlen, Nat.sub_self, edgesOf_at (a := a) (by rw [List.getElem?_take, if_pos (by omega)]; exact h)]; rfl
  · rw [List.getElem?_eq_none (by rw [List.length_append, hlen]; simp; omega), List.getElem?_eq_none (by rw [edgesOf_len, List.length_take]; omega)]
/-- The arcs of records. -/
def arcsE (es : List EdV) : List (Int × Int) := es.map (fun e => (e.2.1, e.2.2.1))
theorem arcsE_of (l : List (Int × Int)) : arcsE (edgesOf l) = l := by
  unfold arcsE
  apply List.ext_getElem?
  intro k
  rw [List.getElem?_map]
  cases h : l[k]? with
  | none => rw [List.getElem?_eq_none (by rw [edgesOf_len]; exact List.getElem?_eq_none_iff.1 h)]; rfl
  | some a => rw [edgesOf_at h]; rfl
def GrAns (w : World) (ks : List Int) (l : List (Int × Int)) (e : Ending) (w' : World) : Prop := ∃ va vn vc ea en ec V, e = .returned (.agg #[.slice va vn vc, .slice ea en ec, .int .i64 0, .int .i64 0]) ∧ V.Perm ks ∧ V.Pairwise (· ≤ ·) ∧ NRow w' (.slice va vn vc) V ∧ ERow 0 w' (.slice ea en ec) (edgesOf l) ∧ Below w.heap.size w w'
def set4r (w : World) (g : Nat) (a b c d : Value) : World := (((w.setCell ⟨g, 0, none⟩ a).setCell ⟨g, 1, none⟩ b).setCell ⟨g, 2, none⟩ c).setCell ⟨g, 3, none⟩ d
theorem set4r_at {w : World} {g : Nat} {x0 x1 x2 x3 : Value} (h : w.heap[g]? = some (.cells #[x0, x1, x2, x3] 38 (0, 0))) (a b c d : Value) : (set4r w g a b c d).heap[g]? = some (.cells #[a, b, c, d] 38 (0, 0)) := by
  have e0 : (w.setCell ⟨g, 0, none⟩ a).heap[g]? = some (.cells #[a, x1, x2, x3] 38 (0, 0)) := by rw [heap_setCell_same _ _ _ _ _ _ h]; rfl
  have e1 : ((w.setCell ⟨g, 0, none⟩ a).setCell ⟨g, 1, none⟩ b).heap[g]? = some (.cells #[a, b, x2, x3] 38 (0, 0)) := by rw [heap_setCell_same _ _ _ _ _ _ e0]; rfl
  have e2 : (((w.setCell ⟨g, 0, none⟩ a).setCell ⟨g, 1, none⟩ b).setCell ⟨g, 2, none⟩ c).heap[g]? = some (.cells #[a, b, c, x3] 38 (0, 0)) := by rw [heap_setCell_same _ _ _ _ _ _ e1]; rfl
  unfold set4r
  rw [heap_setCell_same _ _ _ _ _ _ e2]; rfl
theorem set4r_turned (w : World) (g : Nat) (a b c d : Value) : Turned (fun k => k = g) w (set4r w g a b c d) := setCells_turned (S := fun k => k = g) g rfl [a, b, c, d] 0 w
set_option maxHeartbeats 8000000 in
set_option maxRecDepth 100000 in
theorem graphS {w : World} {v v2 : Value} {ks : List Int} {l : List (Int × Int)} (h : NRow w v ks) (h2 : ARow w v2 l) (hl : ks.length ≤ 100000) (hl2 : l.length ≤ 100000) :
    Calls Try.prog 14 #[v, v2] w fun e w' => Hid (GrAns w ks l e w') := by
  have hbz := below_new w (oGr (.slice none 0 0) (.slice none 0 0) 0 0)
  have CS := hide (sortedS (nrow_below h hbz) hl)
  have HZ : Hid (Below w.heap.size w (w.alloc (oGr (.slice none 0 0) (.slice none 0 0) 0 0)) ∧ (w.alloc (oGr (.slice none 0 0) (.slice none 0 0) 0 0)).heap[w.heap.size]? = some (oGr (.slice none 0 0) (.slice none 0 0) 0 0)) := ⟨hbz, heap_alloc_new _ _⟩
  obtain ⟨x1, c1, e1, -⟩ := brow_shape h
  obtain ⟨x2, c2, e2, -⟩ := arow_shape h2
  obtain ⟨n1, hn1⟩ : ∃ n1, n1 = ks.length := ⟨_, rfl⟩
  obtain ⟨n2, hn2⟩ : ∃ n2, n2 = l.length := ⟨_, rfl⟩
  rw [← hn1] at e1
  rw [← hn2] at e2
  have HN : Hid (n1 = ks.length ∧ n1 ≤ 100000 ∧ n2 = l.length ∧ n2 ≤ 100000) := ⟨hn1, by omega, hn2, by omega⟩
  have HA := hide h2
  clear h h2 hl hl2 hn1 hn2 hbz
  subst e1 e2
  go_enter Try.func14, Try.ntmps14
  go_upto_region 1 with fail
  change Code.wp _ _ _ _ (w.alloc (oGr (.slice none 0 0) (.slice none 0 0) 0 0))
  obtain ⟨gr, hgr⟩ : ∃ gr, gr = w.heap.size := ⟨_, rfl⟩
  have HGR := hide hgr
  rw [← hgr] at HZ ⊢
  clear hgr
  generalize w.alloc (oGr (.slice none 0 0) (.slice none 0 0) 0 0) = wz at *
  go_wp2_with fail
  refine (unhide CS).mono ?_
  intro r w1 hh
  obtain ⟨a, n, c, V, rfl, hp, hs, hr, hb⟩ := unhide hh
  clear CS hh
  obtain ⟨w3, hw3⟩ : ∃ w3, w3 = w1.alloc (oGr (.slice a n c) (.slice none 0 0) 0 0) := ⟨_, rfl⟩
  obtain ⟨gb, hgb⟩ : ∃ gb, gb = w1.heap.size := ⟨_, rfl⟩
  have HP : Hid (V.Perm ks ∧ V.Pairwise (· ≤ ·)) := ⟨hp, hs⟩
  have HG : Hid (∃ L, GP w gr gb (.slice a n c) (.slice none 0 0) V [] L w3) := by
    have hz := unhide HZ
    have hg := unhide HGR
    have b3 := below_new w1 (oGr (.slice a n c) (.slice none 0 0) 0 0)
    have hgl := heap_lt hz.2
    refine ⟨fun b => if b = gb then 1 else if b = gr then 2 else 3, ?_, ?_, ?_, ?_, ⟨rfl, .inl ⟨rfl, rfl⟩⟩, if_pos rfl, ?_, fun b e => ?_, fun b e => (by cases e), ?_, ?_⟩
    · rw [hw3]; have h5 := hz.1; rw [hg] at h5; exact (h5.trans (hb.mono h5.size)).trans (b3.mono (Nat.le_trans h5.size hb.size))
    · rw [hw3, hgb]; exact heap_alloc_new _ _
    · rw [hw3]; exact (b3.block gr (by have := hb.size; omega)).trans ((hb.block gr hgl).trans hz.2)
    · rw [hw3]; have h5 := hz.1.size; exact brow_low (brow_kept hr (fun b e => b3.block b (hr.lt b e).2)) (by omega)
    · show (if gr = gb then 1 else if gr = gr then 2 else 3) = 2
      rw [if_neg (by have := hb.size; omega), if_pos rfl]
    · have := hr.lt b e
      show (if b = gb then 1 else if b = gr then 2 else 3) = 3
      rw [if_neg (by omega), if_neg (by omega)]
    · have := hz.1.size; have := hb.size; omega
    · omega
  have HR3 : Hid (ARow w3 (.slice x2 n2 c2) l) := by
    obtain ⟨L, hG⟩ := unhide HG
    exact arow_kept (unhide HA) hG.base
  have HA0 := HA
  clear hp hs hr hb HA HZ HGR
  go_upto_region 3 with fail
  rw [show w1.alloc (Obj.cells #[Value.slice a n c, Value.slice none 0 0, Value.int IntKind.i64 0, Value.int IntKind.i64 0] 38) = w3 from hw3.symm]
  (try rw [← hgb])
  clear hw3 hgb
  go_loopw [6] (fun s6 W => ∃ (i : Nat), s6 = .int .i64 (i : Nat) ∧ i ≤ n2 ∧ Hid (∃ ea en ec L, GP w gr gb (.slice a n c) (.slice ea en ec) V (edgesOf (l.take i)) L W ∧ ARow W (.slice x2 n2 c2) l)) (fun s6 _ => n2 - (intOf s6).toNat)
  case atStart => exact ⟨0, rfl, Nat.zero_le _, by obtain ⟨L, hG⟩ := unhide HG; exact ⟨none, 0, 0, L, hG, unhide HR3⟩⟩
  case round =>
    obtain ⟨i, rfl, hi, hS⟩ := hrel
    clear HG HR3
    obtain ⟨ea, en, ec, L, hG, hA⟩ := unhide hS
    obtain ⟨l1, l2, l3, l4⟩ := unhide HN
    by_cases hlt : i < n2
    · obtain ⟨⟨u, x⟩, hux⟩ : ∃ a, l[i]? = some a := ⟨_, List.getElem?_eq_getElem (by omega)⟩
      obtain ⟨g2, hg2⟩ : ∃ g2, x2 = some ⟨g2, 0, none⟩ := by
        obtain ⟨x', c', e, hh⟩ := arow_shape hA
        obtain ⟨g, hg⟩ := hh (by omega)
        injection e with e
        exact ⟨g, e.trans hg⟩
      subst hg2
      obtain ⟨wd, hwd⟩ : ∃ wd, wd = wr.drew := ⟨_, rfl⟩
      have bd : Below wr.heap.size wr wd := by rw [hwd]; exact ⟨rfl, rfl, rfl, Nat.le_refl _, fun _ _ => rfl⟩
      have hGd := hG.below bd
      have hAd := arow_kept hA bd
      obtain ⟨j, hj⟩ : ∃ j : Int, j = (i : Int) + 1 := ⟨_, rfl⟩
      have hel : (edgesOf (l.take i)).length ≤ 1000000 := by rw [edgesOf_len, List.length_take]; omega
      obtain ⟨a', n', c', w', r, hbx, hB', L', hG'⟩ := hGd.app (((i : Int) + 1, u, x, 0) : EdV) hel
      rw [edgesOf_snoc hux] at hG'
      have ba := below_new wd (oEd (j, u, x, 0))
      have d0 := (cellsGr hGd.box).2.1
      obtain ⟨d1, d2⟩ := arow_at hAd hux
      have e0 := (cellsGr (hGd.below ba).box).2.1
      obtain ⟨e1, e2⟩ := arow_at (arow_kept hAd ba) hux
      have f0 := (cellsGr hbx).2.1
      have ff := (cellsGr hbx).2.2.2.2
      have hA0 : ARow w (.slice (some ⟨g2, 0, none⟩) n2 c2) l := unhide HA0
      obtain ⟨f1, f2⟩ := arow_at (arow_kept hA0 hB') hux
      rw [← hj] at r
      have HR := hide r
      obtain ⟨i1, hi1⟩ : ∃ i1, i1 = i + 1 := ⟨_, rfl⟩
      have HC : Hid (∃ ea en ec L, GP w gr gb (.slice a n c) (.slice ea en ec) V (edgesOf (l.take i1)) L (w'.setCell ⟨gb, 1, none⟩ (.slice a' n' c')) ∧ ARow (w'.setCell ⟨gb, 1, none⟩ (.slice a' n' c')) (.slice (some ⟨g2, 0, none⟩) n2 c2) l) := ⟨a', n', c', L', by rw [hi1]; exact hG', arow_kept hA0 hG'.base⟩
      have zw : Hid (wrap64 ((i : Int) + 1) = (i1 : Int)) := by show wrap64 ((i : Int) + 1) = (i1 : Int); unfold wrap64; omega
      have z2 : IntKind.i64.wrap ((i : Int) + 1) = j := by rw [IntKind.wrap_i64]; omega
      have HI1 := hide hi1
      have z1 : (i : Int) < (n2 : Int) := by omega
      have HJ : Hid (i1 ≤ n2 ∧ n2 - i1 < n2 - i) := ⟨by omega, by omega⟩
      clear hG hA l1 l2 l3 l4 hlt hi hS hi1 hj hux bd hGd hAd hel r hbx hB' hG' hA0 ba
      dsimp only at d1 d2 e1 e2 f1 f2
      go_upto_region 5 with fail
      subst hwd
      refine wp_region_noPanic ?_
      refine regionL [18] (fun y => y.cell? ⟨gb, 1, none⟩ = some (.slice ea en ec) ∧ y.cell? ⟨g2, i * 2, none⟩ = some (.int .i64 u) ∧ y.cell? ⟨g2, i * 2 + 1, none⟩ = some (.int .i64 x)) (by kernel_rfl) ⟨d0, d1, d2⟩ (fun hHeld => ?_)
      refine takeL (i := 0) (v := ?t2v0) (some 16) rfl rfl (by kernel_rfl) (by kernel_rfl) (by kernel_rfl) (by kernel_rfl) (by kernel_rfl) (fun _ _ _ h => h) (Or.inl ⟨by rfl, ?t2h0⟩) (by assumption) ?t2r0
      case t2h0 => (intro y hSu; (try dsimp only at hSu); go_simp; first | done | with_reducible rfl)
      (try simp only [Act.put, List.setIfInBounds_toArray, List.set_cons_zero, List.set_cons_succ])
      refine takeL (i := 1) (v := ?t2v1) (some 17) rfl rfl (by kernel_rfl) (by kernel_rfl) (by kernel_rfl) (by kernel_rfl) (by kernel_rfl) (fun _ _ _ h => h) (Or.inl ⟨by rfl, ?t2h1⟩) (by assumption) ?t2r1
      case t2h1 => (intro y hSu; (try dsimp only at hSu); go_simp; first | done | with_reducible rfl)
      (try simp only [Act.put, List.setIfInBounds_toArray, List.set_cons_zero, List.set_cons_succ])
      refine takeL (i := 2) (v := ?t2v2) (some 18) rfl rfl (by kernel_rfl) (by kernel_rfl) (by kernel_rfl) (by kernel_rfl) (by kernel_rfl) (fun _ _ _ h => h) (Or.inl ⟨by rfl, ?t2h2⟩) (by assumption) ?t2r2
      case t2h2 => (intro y hSu; (try dsimp only at hSu); go_simp; first | done | with_reducible rfl)
      (try simp only [Act.put, List.setIfInBounds_toArray, List.set_cons_zero, List.set_cons_succ])
      refine takeL (i := 3) (v := ?t2v3) (some 19) rfl rfl (by kernel_rfl) (by kernel_rfl) (by kernel_rfl) (by kernel_rfl) (by kernel_rfl) (fun _ _ _ h => h) (Or.inl ⟨by rfl, ?t2h3⟩) (by assumption) ?t2r3
      case t2h3 => (intro y hSu; (try dsimp only at hSu); go_simp; first | done | with_reducible rfl)
      (try simp only [Act.put, List.setIfInBounds_toArray, List.set_cons_zero, List.set_cons_succ])
      refine takeL (i := 4) (v := ?t2v4) (some 20) rfl rfl (by kernel_rfl) (by kernel_rfl) (by kernel_rfl) (by kernel_rfl) (by kernel_rfl) (fun _ _ _ h => h) (Or.inl ⟨by rfl, ?t2h4⟩) (by assumption) ?t2r4
      case t2h4 => (intro y hSu; (try dsimp only at hSu); go_simp; first | done | with_reducible rfl)
      (try simp only [Act.put, List.setIfInBounds_toArray, List.set_cons_zero, List.set_cons_succ])
      refine takeL (i := 5) (v := ?t2v5) (some 21) rfl rfl (by kernel_rfl) (by kernel_rfl) (by kernel_rfl) (by kernel_rfl) (by kernel_rfl) (fun _ _ _ h => h) (Or.inl ⟨by rfl, ?t2h5⟩) (by assumption) ?t2r5
      case t2h5 => (intro y hSu; (try dsimp only at hSu); go_simp; first | done | with_reducible rfl)
      (try simp only [Act.put, List.setIfInBounds_toArray, List.set_cons_zero, List.set_cons_succ])
      refine takeL (i := 6) (v := ?t2v6) (some 22) rfl rfl (by kernel_rfl) (by kernel_rfl) (by kernel_rfl) (by kernel_rfl) (by kernel_rfl) (fun _ _ _ h => h) (Or.inl ⟨by rfl, ?t2h6⟩) (by assumption) ?t2r6
      case t2h6 => (intro y hSu; (try dsimp only at hSu); go_simp; first | done | with_reducible rfl)
      (try simp only [Act.put, List.setIfInBounds_toArray, List.set_cons_zero, List.set_cons_succ])
      refine takeL (i := 7) (v := ?t2v7) (some 23) rfl rfl (by kernel_rfl) (by kernel_rfl) (by kernel_rfl) (by kernel_rfl) (by kernel_rfl) (fun _ _ _ h => h) (Or.inl ⟨by rfl, ?t2h7⟩) (by assumption) ?t2r7
      case t2h7 => (intro y hSu; (try dsimp only at hSu); go_simp; first | done | with_reducible rfl)
      (try simp only [Act.put, List.setIfInBounds_toArray, List.set_cons_zero, List.set_cons_succ])
      refine takeL (i := 8) (v := ?t2v8) (some 24) rfl rfl (by kernel_rfl) (by kernel_rfl) (by kernel_rfl) (by kernel_rfl) (by kernel_rfl) (fun _ _ _ h => h) (Or.inl ⟨by rfl, ?t2h8⟩) (by assumption) ?t2r8
      case t2h8 => (intro y hSu; (try dsimp only at hSu); go_simp; first | done | with_reducible rfl)
      (try simp only [Act.put, List.setIfInBounds_toArray, List.set_cons_zero, List.set_cons_succ])
      refine takeL (i := 9) (v := ?t2v9) (some 25) rfl rfl (by kernel_rfl) (by kernel_rfl) (by kernel_rfl) (by kernel_rfl) (by kernel_rfl) (fun _ _ _ h => h) (Or.inl ⟨by rfl, ?t2h9⟩) (by assumption) ?t2r9
      case t2h9 => (intro y hSu; (try dsimp only at hSu); go_simp; first | done | with_reducible rfl)
      (try simp only [Act.put, List.setIfInBounds_toArray, List.set_cons_zero, List.set_cons_succ])
      refine takeL (i := 10) (v := ?t2v10) (some 26) rfl rfl (by kernel_rfl) (by kernel_rfl) (by kernel_rfl) (by kernel_rfl) (by kernel_rfl) (fun _ _ _ h => h) (Or.inl ⟨by rfl, ?t2h10⟩) (by assumption) ?t2r10
      case t2h10 => (intro y hSu; (try dsimp only at hSu); go_simp; first | done | with_reducible rfl)
      (try simp only [Act.put, List.setIfInBounds_toArray, List.set_cons_zero, List.set_cons_succ])
      refine takeL (i := 11) (v := ?t2v11) (some 27) rfl rfl (by kernel_rfl) (by kernel_rfl) (by kernel_rfl) (by kernel_rfl) (by kernel_rfl) (fun _ _ _ h => h) (Or.inl ⟨by rfl, ?t2h11⟩) (by assumption) ?t2r11
      case t2h11 => (intro y hSu; (try dsimp only at hSu); go_simp; first | done | with_reducible rfl)
      (try simp only [Act.put, List.setIfInBounds_toArray, List.set_cons_zero, List.set_cons_succ])
      refine takeL (i := 12) (v := ?t2v12) (some 28) rfl rfl (by kernel_rfl) (by kernel_rfl) (by kernel_rfl) (by kernel_rfl) (by kernel_rfl) (fun _ _ _ h => h) (Or.inl ⟨by rfl, ?t2h12⟩) (by assumption) ?t2r12
      case t2h12 => (intro y hSu; (try dsimp only at hSu); go_simp; first | done | with_reducible rfl)
      (try simp only [Act.put, List.setIfInBounds_toArray, List.set_cons_zero, List.set_cons_succ])
      refine takeL (i := 13) (v := ?t2v13) (some 29) rfl rfl (by kernel_rfl) (by kernel_rfl) (by kernel_rfl) (by kernel_rfl) (by kernel_rfl) (fun _ _ _ h => h) (Or.inl ⟨by rfl, ?t2h13⟩) (by assumption) ?t2r13
      case t2h13 => (intro y hSu; (try dsimp only at hSu); go_simp; first | done | with_reducible rfl)
      (try simp only [Act.put, List.setIfInBounds_toArray, List.set_cons_zero, List.set_cons_succ])
      refine takeL (i := 14) (v := ?t2v14) (some 30) rfl rfl (by kernel_rfl) (by kernel_rfl) (by kernel_rfl) (by kernel_rfl) (by kernel_rfl) (fun _ _ _ h => h) (Or.inl ⟨by rfl, ?t2h14⟩) (by assumption) ?t2r14
      case t2h14 => (intro y hSu; (try dsimp only at hSu); go_simp; first | done | with_reducible rfl)
      (try simp only [Act.put, List.setIfInBounds_toArray, List.set_cons_zero, List.set_cons_succ])
      refine readyL (i := 15) (by kernel_rfl) rfl (fun K hK => ?_)
      go_simp
      refine hK.out _ _ (fun _ => (And.intro e0 (And.intro e1 e2))) ?_
      clear hK K
      (try simp only [Act.put, List.setIfInBounds_toArray, List.set_cons_zero, List.set_cons_succ])
      have hH4 := (And.intro e0 (And.intro e1 e2))
      refine readyL (i := 16) (by kernel_rfl) rfl (fun K hK => ?_)
      refine step_append_run rfl (.tmp 17) (.tmp 31) 36 rfl _ _ (by simp [Act.eval]; first | rfl | done) (by simp [Act.eval]; first | rfl | done) _ _ (unhide HR _) ?_
      refine hK.out _ _ (fun _ => (And.intro f0 (And.intro f1 f2))) ?_
      clear hK K
      (try simp only [Act.put, List.setIfInBounds_toArray])
      have hH5 := (And.intro f0 (And.intro f1 f2))
      refine takeL (i := 17) (v := ?t6v17) (some 33) rfl rfl (by kernel_rfl) (by kernel_rfl) (by kernel_rfl) (by kernel_rfl) (by kernel_rfl) (fun _ _ _ h => h) (Or.inl ⟨by rfl, ?t6h17⟩) (by assumption) ?t6r17
      case t6h17 => (intro y hSu; (try dsimp only at hSu); go_simp; first | done | with_reducible rfl)
      (try simp only [Act.put])
      refine readyL (i := 18) (by kernel_rfl) rfl (fun K hK => ?_)
      go_simp
      refine hK.out _ _ (fun h => by cases h) ?_
      clear hK K
      (try simp only [Act.put, List.setIfInBounds_toArray, List.set_cons_zero, List.set_cons_succ])
      refine doneL (by kernel_rfl) ?_ _
      refine NoPanic.normal ?_
      clear d0 d1 d2 e0 e1 e2 f0 f1 f2 ff hHeld HR z2
      go_wp2_with fail
      (try rw [unhide zw])
      exact ⟨⟨i1, by first | rfl | (rw [unhide HI1]; rfl), (unhide HJ).1, HC⟩, by have := (unhide HJ).2; simp [intOf]; omega⟩
    · have z1 : ¬ (i : Int) < (n2 : Int) := by omega
      have hG2 : GP w gr gb (.slice a n c) (.slice ea en ec) V (edgesOf l) L wr := by rw [List.take_of_length_le (by omega)] at hG; exact hG
      obtain ⟨d0, d1, d2, d3, -⟩ := cellsGr hG.box
      obtain ⟨r0, r1, r2, r3, rf⟩ := cellsGr hG.res
      have hat := set4r_at (show wr.heap[gr]? = some (.cells #[.slice none 0 0, .slice none 0 0, .int .i64 0, .int .i64 0] 38 (0, 0)) from hG.res) (.slice a n c) (.slice ea en ec) (.int .i64 0) (.int .i64 0)
      have ht := set4r_turned wr gr (.slice a n c) (.slice ea en ec) (.int .i64 0) (.int .i64 0)
      have HE : Hid ((set4r wr gr (.slice a n c) (.slice ea en ec) (.int .i64 0) (.int .i64 0)).heap[gr]? = some (.cells #[.slice a n c, .slice ea en ec, .int .i64 0, .int .i64 0] 38 (0, 0)) ∧ NRow (set4r wr gr (.slice a n c) (.slice ea en ec) (.int .i64 0) (.int .i64 0)) (.slice a n c) V ∧ ERow 0 (set4r wr gr (.slice a n c) (.slice ea en ec) (.int .i64 0) (.int .i64 0)) (.slice ea en ec) (edgesOf l) ∧ Below w.heap.size w (set4r wr gr (.slice a n c) (.slice ea en ec) (.int .i64 0) (.int .i64 0))) := by
        refine ⟨hat, brow_at0 (brow_kept hG2.vs (fun b e => ht.block b (hG2.vs.lt b e).2 (fun q => ?_))), erow_zero (erow_kept hG2.es (fun b e => ht.block b (hG2.es.lt b e).2 (fun q => ?_))), hG2.base.trans (ht.below hG2.base.size (fun b e => by rw [e]; exact hG2.hr))⟩
        · have := hG2.lv b e; have := hG2.l2; rw [q] at *; omega
        · have := hG2.le b e; have := hG2.l2; rw [q] at *; omega
      clear hG hA l1 l2 l3 l4 hlt hi hS hG2 hat ht
      go_wp2_with fail
      change bodyPost _ _ _ _ _ (set4r wr gr (.slice a n c) (.slice ea en ec) (.int .i64 0) (.int .i64 0))
      refine bodyPost_ret (results_cell_row rfl _ _ gr 38 #[.slice a n c, .slice ea en ec, .int .i64 0, .int .i64 0] (0, 0) _ rfl (unhide HE).1 Try.underlying38 rfl (by kernel_rfl)) rfl ?_
      exact ⟨a, n, c, ea, en, ec, V, rfl, (unhide HP).1, (unhide HP).2, (unhide HE).2⟩
end

section
open Go.RowKit Go.Maps T9
/-- A row of truth values. -/
abbrev TRow (B : Nat) (w : World) (v : Value) (bs : List Bool) : Prop := w.ownsRow B 4 1 v bs.length (bs.map Value.bool)
theorem trow_kept {B : Nat} {w w' : World} {v : Value} {bs : List Bool} (h : TRow B w v bs) (hk : ∀ b, v.ownBlock = some b → w'.heap[b]? = w.heap[b]?) : TRow B w' v bs := by
  refine ⟨h.1, ?_⟩
  rcases h.2 with hn | ⟨g, cap, cur, e, hb, hgg, rest⟩
  · exact .inl hn
  · exact .inr ⟨g, cap, cur, e, hb, (hk g (by rw [e]; rfl)).trans hgg, rest⟩
theorem trow_at {B : Nat} {w : World} {g n c : Nat} {bs : List Bool} (h : TRow B w (.slice (some ⟨g, 0, none⟩) n c) bs) {j : Nat} {e : Bool} (hj : bs[j]? = some e) : w.cell? ⟨g, j, none⟩ = some (.bool e) := by
  have := h.cells (g := g) rfl j (.bool e) (by rw [List.getElem?_map, hj]; rfl)
  rwa [addr_off, Nat.zero_add] at this
theorem trow_zero {B : Nat} {w : World} {v : Value} {bs : List Bool} (h : TRow B w v bs) : TRow 0 w v bs := ⟨h.1, h.2.imp id (fun ⟨g, cap, cur, e, _, r⟩ => ⟨g, cap, cur, e, Nat.zero_le _, r⟩)⟩
theorem trow_low {B B' : Nat} {w : World} {v : Value} {bs : List Bool} (h : TRow B' w v bs) (hb : B ≤ B') : TRow B w v bs := ⟨h.1, h.2.imp id (fun ⟨g, cap, cur, e, q, r⟩ => ⟨g, cap, cur, e, Nat.le_trans hb q, r⟩)⟩
theorem trow_set {B : Nat} {W : World} {g n c k : Nat} {bs : List Bool} (h : TRow B W (.slice (some ⟨g, 0, none⟩) n c) bs) (x : Bool) : (∀ o, W.frozen? ⟨g, o, none⟩ = false) ∧ TRow B (W.setCell ⟨g, k, none⟩ (.bool x)) (.slice (some ⟨g, 0, none⟩) n c) (bs.set k x) := by
  rcases h.2 with ⟨e, -⟩ | ⟨g', cap, cur, e, hb, hgg, hc, hm, hs, ht⟩
  · cases e
  · obtain rfl : g = g' := by injection e with e1; injection e1 with e1; injection e1
    refine ⟨fun o => frozen_of_row W _ o _ _ hgg, by simp, .inr ⟨g, cap, _, ?_, hb, heap_setCell_same W g k cur 4 _ hgg, ?_, hm, by simpa using hs, ?_⟩⟩
    · rw [List.length_set]; exact e
    · rw [List.length_set]; exact hc
    · rw [List.length_set, Array.toList_setIfInBounds, List.take_set, ht, List.map_set]
set_option maxHeartbeats 1000000 in
set_option maxRecDepth 100000 in
theorem info4 : (Try.prog.info? 4).map (fun i => (i.zero, i.size, i.bytes)) = some (some (.bool false), 1, 1) := by kernel_rfl
theorem mkB {n : Nat} (hn : n ≤ 1000000) (w : World) : (Instr.makeSlice 61 (.int .i64 (n : Nat)) (.int .i64 (n : Nat))).run Try.prog w = .ok (.slice (some ⟨w.heap.size, 0, none⟩) n n) (w.alloc (.cells (madeCells #[.bool false] n) 4)) :=
  run_make_row' 61 4 (.bool false) 1 Try.underlying61 info4 rfl .i64 .i64 n (by omega) (by omega) w
theorem trow_made (n : Nat) (hn : n ≤ 1000000) (w : World) : TRow w.heap.size (w.alloc (.cells (madeCells #[.bool false] n) 4)) (.slice (some ⟨w.heap.size, 0, none⟩) n n) (List.replicate n false) := by
  refine ⟨by simp, .inr ⟨w.heap.size, n, madeCells #[.bool false] n, by simp, Nat.le_refl _, heap_alloc_new _ _, by simp, by unfold maxLen; omega, ?_, ?_⟩⟩
  · rw [← Array.length_toList, made_list]; simp
  · rw [made_list]; simp
/-- The search as it stands: what is marked is reached, and where it begins is marked. -/
structure Mk (nx : Nat → List Nat) (V : List Int) (s : Int) (bs : List Bool) : Prop where
  len : bs.length = V.length
  sound : ∀ j : Nat, bs[j]? = some true → ∃ p : Nat, V[p]? = some s ∧ T9.Reach nx p j
  start : ∀ p : Nat, V[p]? = some s → bs[p]? = some true
/-- Of the first k records each one's end is marked where its beginning is. -/
def Shut9 (V : List Int) (es : List EdV) (bs : List Bool) (k : Nat) : Prop := ∀ (j : Nat) (e : EdV), j < k → es[j]? = some e → bs[V.idxOf e.2.1]? = some true → bs[V.idxOf e.2.2.1]? = some true
theorem idx_at9 {V : List Int} (hs : V.Pairwise (· < ·)) {p : Nat} {x : Int} (h : V[p]? = some x) : V.idxOf x = p := by
  obtain ⟨l1, e1⟩ := List.getElem?_eq_some_iff.1 h
  have hm : x ∈ V := List.mem_of_getElem? h
  obtain ⟨l2, e2⟩ := List.getElem?_eq_some_iff.1 (idx_some hm)
  have hne := List.pairwise_iff_getElem.1 hs
  rcases Nat.lt_trichotomy (V.idxOf x) p with q | q | q
  · have := hne _ p l2 l1 q; rw [e1, e2] at this; simp at this
  · exact q
  · have := hne p _ l1 l2 q; rw [e1, e2] at this; simp at this
section
variable {V : List Int} {es : List EdV} {s : Int} {bs : List Bool}
theorem next_edge {i : Nat} {e : EdV} (h : es[i]? = some e) (hu : e.2.1 ∈ V) : V.idxOf e.2.2.1 ∈ nextOf V (arcsE es) (V.idxOf e.2.1) :=
  mem_nextOf.2 ⟨(e.2.1, e.2.2.1), List.mem_map.2 ⟨e, List.mem_of_getElem? h, rfl⟩, idx_some hu, rfl⟩
theorem Mk.mark (h : Mk (nextOf V (arcsE es)) V s bs) {i : Nat} {e : EdV} (hi : es[i]? = some e) (hu : e.2.1 ∈ V) (hm : bs[V.idxOf e.2.1]? = some true) : Mk (nextOf V (arcsE es)) V s (bs.set (V.idxOf e.2.2.1) true) := by
  refine ⟨by rw [List.length_set]; exact h.len, fun j hj => ?_, fun p hp => ?_⟩
  · by_cases q : V.idxOf e.2.2.1 = j
    · obtain ⟨p, h1, h2⟩ := h.sound _ hm
      exact ⟨p, h1, by rw [← q]; exact h2.step (next_edge hi hu)⟩
    · rw [List.getElem?_set_ne q] at hj; exact h.sound j hj
  · by_cases q : V.idxOf e.2.2.1 = p
    · rw [q, List.getElem?_set_self]; exact (by rw [h.len]; exact (List.getElem?_eq_some_iff.1 hp).1)
    · rw [List.getElem?_set_ne q]; exact h.start p hp
theorem Mk.done (h : Mk (nextOf V (arcsE es)) V s bs) (hsd : V.Pairwise (· < ·)) (hc : Shut9 V es bs es.length) : ∀ j : Nat, bs[j]? = some true ↔ ∃ p : Nat, V[p]? = some s ∧ T9.Reach (nextOf V (arcsE es)) p j := fun j => by
  refine ⟨h.sound j, fun ⟨p, h1, h2⟩ => ?_⟩
  refine Reach.closed (C := fun q => bs[q]? = some true) (fun q hq r hr => ?_) h2 (h.start p h1)
  obtain ⟨a, ha, e1, e2⟩ := mem_nextOf.1 hr
  obtain ⟨e, he, rfl⟩ := List.mem_map.1 ha
  obtain ⟨i, hi⟩ := List.mem_iff_getElem?.1 he
  have h5 : V.idxOf e.2.1 = q := idx_at9 hsd e1
  rw [← e2]
  exact hc i e (List.getElem?_eq_some_iff.1 hi).1 hi (by rw [h5]; exact hq)
end
theorem falses_set : ∀ {bs : List Bool} {i : Nat}, bs[i]? = some false → (bs.set i true).count false + 1 = bs.count false
  | [], i, h => by cases h
  | b :: bs, 0, h => by injection h with h; subst h; simp
  | b :: bs, i + 1, h => by
    have := falses_set (bs := bs) (i := i) h
    rw [List.set_cons_succ, List.count_cons, List.count_cons]; omega
def RcAns (w : World) (V : List Int) (es : List EdV) (s : Int) (e : Ending) (w' : World) : Prop := ∃ g n c bs, e = .returned (.slice (some ⟨g, 0, none⟩) n c) ∧ n = V.length ∧ TRow w.heap.size w' (.slice (some ⟨g, 0, none⟩) n c) bs ∧ bs.length = V.length ∧ (∀ j : Nat, bs[j]? = some true ↔ ∃ p : Nat, V[p]? = some s ∧ T9.Reach (nextOf V (arcsE es)) p j) ∧ Below w.heap.size w w'
/-- The row of marks; all that was there when it was made stands. -/
def RP (wb : World) (gi n : Nat) (bs : List Bool) (W : World) : Prop := TRow wb.heap.size W (.slice (some ⟨gi, 0, none⟩) n n) bs ∧ Below wb.heap.size wb W
theorem RP.below {wb W W' : World} {gi n : Nat} {bs : List Bool} (h : RP wb gi n bs W) (hb : Below W.heap.size W W') : RP wb gi n bs W' := ⟨trow_kept h.1 (fun b e => hb.block b (h.1.lt b e).2), h.2.trans (hb.mono h.2.size)⟩
theorem RP.set {wb W : World} {gi n k : Nat} {bs : List Bool} (h : RP wb gi n bs W) (x : Bool) : (∀ o, W.frozen? ⟨gi, o, none⟩ = false) ∧ RP wb gi n (bs.set k x) (W.setCell ⟨gi, k, none⟩ (.bool x)) := by
  obtain ⟨f, r⟩ := trow_set (k := k) h.1 x
  have ht : Turned (fun b => b = gi) W (W.setCell ⟨gi, k, none⟩ (.bool x)) := setCells_turned (S := fun b => b = gi) gi rfl [.bool x] k W
  exact ⟨f, r, h.2.trans (ht.below h.2.size (fun b e => by rw [e]; exact (h.1.lt gi rfl).1))⟩
/-- What is read of the graph in a round. -/
def SeenE (gb g2 i : Nat) (vv ev : Value) (rd wr : Int) (u x : Int) (y : World) : Prop := (y.cell? ⟨gb, 0, none⟩ = some vv ∧ y.cell? ⟨gb, 1, none⟩ = some ev ∧ y.cell? ⟨gb, 2, none⟩ = some (.int .i64 rd) ∧ y.cell? ⟨gb, 3, none⟩ = some (.int .i64 wr)) ∧ y.cell? ⟨g2, i * 4 + 1, none⟩ = some (.int .i64 u) ∧ y.cell? ⟨g2, i * 4 + 2, none⟩ = some (.int .i64 x)
set_option maxHeartbeats 8000000 in
set_option maxRecDepth 100000 in
theorem reachedS {w : World} {vv ev : Value} {rd wr_ s : Int} {V : List Int} {es : List EdV} (h : NRow w vv V) (he : ERow 0 w ev es) (hs : V.Pairwise (· < ·)) (hok : okArcs V (arcsE es)) (hl : V.length ≤ 100000) (hl2 : es.length ≤ 100000) :
    Calls Try.prog 39 #[.agg #[vv, ev, .int .i64 rd, .int .i64 wr_], .int .i64 s] w fun e w' => Hid (RcAns w V es s e w') := by
  have hb := below_new w (oGr vv ev rd wr_)
  have hbx := heap_alloc_new w (oGr vv ev rd wr_)
  have h1 := nrow_below h hb
  have h2 := erow_below he hb
  obtain ⟨a, c, hvv, -⟩ := brow_shape h1
  obtain ⟨ea, ec, hev, -⟩ := erow_shape h2
  obtain ⟨n, hn⟩ : ∃ n, n = V.length := ⟨_, rfl⟩
  obtain ⟨m, hm⟩ : ∃ m, m = es.length := ⟨_, rfl⟩
  rw [← hn] at hvv
  rw [← hm] at hev
  subst hvv hev
  have HB : Hid (Below w.heap.size w (w.alloc (oGr (.slice a n c) (.slice ea m ec) rd wr_)) ∧ (w.alloc (oGr (.slice a n c) (.slice ea m ec) rd wr_)).heap[w.heap.size]? = some (oGr (.slice a n c) (.slice ea m ec) rd wr_) ∧ NRow (w.alloc (oGr (.slice a n c) (.slice ea m ec) rd wr_)) (.slice a n c) V ∧ ERow 0 (w.alloc (oGr (.slice a n c) (.slice ea m ec) rd wr_)) (.slice ea m ec) es) := ⟨hb, hbx, h1, h2⟩
  have HN : Hid (n = V.length ∧ n ≤ 100000 ∧ m = es.length ∧ m ≤ 100000 ∧ V.Pairwise (· < ·) ∧ okArcs V (arcsE es)) := ⟨hn, by omega, hm, by omega, hs, hok⟩
  clear h h1 h2 hb hbx he hl hl2 hn hm hs hok
  go_enter Try.func39, Try.ntmps39
  go_upto_region 1 with fail
  change Code.wp _ _ _ _ (w.alloc (oGr (.slice a n c) (.slice ea m ec) rd wr_))
  generalize w.alloc (oGr (.slice a n c) (.slice ea m ec) rd wr_) = wb at *
  obtain ⟨gb, hgb⟩ : ∃ gb, gb = w.heap.size := ⟨_, rfl⟩
  have HGB := hide hgb
  rw [← hgb] at HB ⊢
  clear hgb
  have HC : Hid (∀ W, Below wb.heap.size wb W → W.cell? ⟨gb, 0, none⟩ = some (.slice a n c) ∧ W.cell? ⟨gb, 1, none⟩ = some (.slice ea m ec) ∧ W.cell? ⟨gb, 2, none⟩ = some (.int .i64 rd) ∧ W.cell? ⟨gb, 3, none⟩ = some (.int .i64 wr_)) := fun W hW => by
    have q := (hW.block gb (heap_lt (unhide HB).2.1)).trans (unhide HB).2.1
    obtain ⟨d0, d1, d2, d3, -⟩ := cellsGr q
    exact ⟨d0, d1, d2, d3⟩
  have k0 := (unhide HC wb (Below.refl _ _)).1
  have MK := mkB (n := n) (by have := unhide HN; omega) wb
  obtain ⟨gi, hgi⟩ : ∃ gi, gi = wb.heap.size := ⟨_, rfl⟩
  obtain ⟨w1, hw1⟩ : ∃ w1, w1 = wb.alloc (.cells (madeCells #[.bool false] n) 4) := ⟨_, rfl⟩
  have HP : Hid (RP wb gi n (List.replicate n false) w1) := by
    rw [hgi, hw1]; exact ⟨trow_made n (by have := unhide HN; omega) wb, below_new _ _⟩
  rw [← hgi, ← hw1] at MK
  have HGI := hide hgi
  clear hgi hw1
  go_upto_region 3 with fail
  clear MK k0
  go_loopw [6] (fun s6 W => ∃ (i : Nat), s6 = .int .i64 (i : Nat) ∧ i ≤ n ∧ Hid (∃ bs, RP wb gi n bs W ∧ bs.length = n ∧ ∀ j : Nat, j < i → bs[j]? = some (decide (V[j]? = some s)))) (fun s6 _ => n - (intOf s6).toNat)
  case atStart => exact ⟨0, rfl, Nat.zero_le _, _, unhide HP, by simp, fun j hj => absurd hj (Nat.not_lt_zero _)⟩
  case round =>
    obtain ⟨i, rfl, hi, hS⟩ := hrel
    clear HP
    obtain ⟨bs, hP, hbl, hbs⟩ := unhide hS
    obtain ⟨l1, l2, l3, l4, l5, l6⟩ := unhide HN
    have k0 := (unhide HC wr hP.2).1
    by_cases hlt : i < n
    · obtain ⟨y, hy⟩ : ∃ y, V[i]? = some y := ⟨_, List.getElem?_eq_getElem (by omega)⟩
      have hV := nrow_below (unhide HB).2.2.1 hP.2
      obtain ⟨g, hg⟩ := brow_some hV (by omega)
      subst hg
      have k1 := brow_at hV hy
      obtain ⟨b0, hb0⟩ : ∃ b0, bs[i]? = some b0 := ⟨_, List.getElem?_eq_getElem (by omega)⟩
      have k2 := trow_at hP.1 hb0
      obtain ⟨i1, hi1⟩ : ∃ i1, i1 = i + 1 := ⟨_, rfl⟩
      have zw : Hid (wrap64 ((i : Int) + 1) = (i1 : Int)) := by show wrap64 ((i : Int) + 1) = (i1 : Int); unfold wrap64; omega
      have HI1 := hide hi1
      have z1 : (i : Int) < (n : Int) := by omega
      have HJ : Hid (i1 ≤ n ∧ n - i1 < n - i) := ⟨by omega, by omega⟩
      obtain ⟨tv, htv⟩ : ∃ tv, tv = decide (y = s) := ⟨_, rfl⟩
      have hz : (y == s) = tv := by rw [htv]; by_cases q : y = s <;> simp [q]
      obtain ⟨fz, hP2⟩ := hP.set (k := i) tv
      have HD : Hid (∃ bs, RP wb gi n bs (wr.setCell ⟨gi, i, none⟩ (.bool tv)) ∧ bs.length = n ∧ ∀ j : Nat, j < i1 → bs[j]? = some (decide (V[j]? = some s))) := ⟨_, hP2, by rw [List.length_set]; exact hbl, fun j hj => by
        by_cases q : i = j
        · subst q
          rw [List.getElem?_set_self (by omega), htv, hy]; simp
        · rw [List.getElem?_set_ne q]; exact hbs j (by omega)⟩
      clear hP hbl hbs l1 l2 l3 l4 l5 l6 hlt hi hS hy hV hb0 hi1 htv hP2
      go_wp2_with fail
      (try rw [unhide zw])
      exact ⟨⟨i1, by first | rfl | (rw [unhide HI1]; rfl), (unhide HJ).1, by first | exact HD | (simp only [hz]; exact HD)⟩, by have := (unhide HJ).2; simp [intOf]; omega⟩
    · have z1 : ¬ (i : Int) < (n : Int) := by omega
      obtain ⟨f0, hf0⟩ : ∃ f0, f0 = bs.count false := ⟨_, rfl⟩
      have HM : Hid (∃ bs, RP wb gi n bs wr ∧ Mk (nextOf V (arcsE es)) V s bs ∧ bs.count false = f0) := by
        refine ⟨bs, hP, ⟨by omega, fun j hj => ?_, fun p hp => ?_⟩, hf0.symm⟩
        · have hj2 : j < n := by have := (List.getElem?_eq_some_iff.1 hj).1; omega
          rw [hbs j (by omega)] at hj
          have hj := Option.some.inj hj
          exact ⟨j, of_decide_eq_true hj, Reach.refl _ _⟩
        · have hj2 : p < n := by have := (List.getElem?_eq_some_iff.1 hp).1; omega
          rw [hbs p (by omega)]; simp [hp]
      clear hP hbl hbs l1 l2 l3 l4 l5 l6 hlt hi hS hf0
      go_upto_region 7 with fail
      clear z1 k0
      go_loopg [7, 8, 9, 10] (f0 + 1) (fun kk s7 s8 s9 s10 W => ∃ t : Bool, s7 = .bool t ∧ Hid (∃ bs, RP wb gi n bs W ∧ Mk (nextOf V (arcsE es)) V s bs ∧ bs.count false + t.toNat = kk ∧ (t = false → Shut9 V es bs es.length)))
      case atStart => exact ⟨true, rfl, by obtain ⟨bs, q1, q2, q3⟩ := unhide HM; exact ⟨bs, q1, q2, by rw [q3]; rfl, fun e => by cases e⟩⟩
      case round =>
        obtain ⟨t, rfl, hR⟩ := hrel
        clear HM
        obtain ⟨bs, hP, hM, hkk, hsh⟩ := unhide hR
        cases t with
        | false =>
          have HE : Hid (TRow w.heap.size wr (.slice (some ⟨gi, 0, none⟩) n n) bs ∧ bs.length = V.length ∧ (∀ j : Nat, bs[j]? = some true ↔ ∃ p : Nat, V[p]? = some s ∧ T9.Reach (nextOf V (arcsE es)) p j) ∧ Below w.heap.size w wr) := by
            have hb := (unhide HB).1
            rw [unhide HGB] at hb
            exact ⟨trow_low hP.1 (by have := hb.size; omega), hM.len, hM.done (unhide HN).2.2.2.2.1 (hsh rfl), hb.trans (hP.2.mono hb.size)⟩
          clear hP hM hkk hsh hR
          go_wp2_with fail
          go_ret
          exact ⟨gi, n, n, bs, rfl, (unhide HN).1, unhide HE⟩
        | true =>
          obtain ⟨fc, hfc⟩ : ∃ fc, fc = bs.count false := ⟨_, rfl⟩
          rw [← hfc] at hkk
          have HK := hide hkk
          have HS : Hid (∃ bs, RP wb gi n bs wr ∧ Mk (nextOf V (arcsE es)) V s bs ∧ bs.count false = fc) := ⟨bs, hP, hM, hfc.symm⟩
          clear hP hM hkk hsh hR hfc
          go_upto_region 10 with fail
          go_loopw [8, 7, 9, 10] (fun s8 s7 s9 s10 W => ∃ (k : Nat) (t : Bool), s8 = .int .i64 (k : Nat) ∧ s7 = .bool t ∧ k ≤ m ∧ Hid (∃ bs, RP wb gi n bs W ∧ Mk (nextOf V (arcsE es)) V s bs ∧ bs.count false + t.toNat ≤ fc ∧ (t = false → Shut9 V es bs k))) (fun s8 _ _ _ _ => m - (intOf s8).toNat)
          case atStart => exact ⟨0, false, rfl, rfl, Nat.zero_le _, by obtain ⟨bs, q1, q2, q3⟩ := unhide HS; exact ⟨bs, q1, q2, by rw [q3]; exact Nat.le_refl _, fun _ j e hj => absurd hj (Nat.not_lt_zero _)⟩⟩
          case round =>
            obtain ⟨k, t, rfl, rfl, hk, hR⟩ := hrel
            clear HS
            obtain ⟨bs, hP, hM, hle, hsh⟩ := unhide hR
            obtain ⟨l1, l2, l3, l4, l5, l6⟩ := unhide HN
            by_cases hlt : k < m
            · obtain ⟨⟨en, u, x, ew⟩, hux⟩ : ∃ e, es[k]? = some e := ⟨_, List.getElem?_eq_getElem (by omega)⟩
              obtain ⟨hu, hx⟩ : u ∈ V ∧ x ∈ V := l6 (u, x) (List.mem_map.2 ⟨_, List.mem_of_getElem? hux, rfl⟩)
              obtain ⟨g2, hg2⟩ := erow_some (unhide HB).2.2.2 (by omega)
              subst hg2
              have HSN : Hid (∀ W, Below wb.heap.size wb W → (W.cell? ⟨gb, 0, none⟩ = some (.slice a n c) ∧ W.cell? ⟨gb, 1, none⟩ = some (.slice (some ⟨g2, 0, none⟩) m ec) ∧ W.cell? ⟨gb, 2, none⟩ = some (.int .i64 rd) ∧ W.cell? ⟨gb, 3, none⟩ = some (.int .i64 wr_)) ∧ W.cell? ⟨g2, k * 4 + 1, none⟩ = some (.int .i64 u) ∧ W.cell? ⟨g2, k * 4 + 2, none⟩ = some (.int .i64 x)) := fun W hW => by
                obtain ⟨-, e2, e3, -⟩ := erow_at (erow_below (unhide HB).2.2.2 hW) hux
                exact ⟨unhide HC W hW, e2, e3⟩
              obtain ⟨pu, hpu⟩ : ∃ pu, pu = V.idxOf u := ⟨_, rfl⟩
              obtain ⟨px, hpx⟩ : ∃ px, px = V.idxOf x := ⟨_, rfl⟩
              have CP : Hid (∀ (y : Int) (py : Nat) (W : World), y ∈ V → py = V.idxOf y → RP wb gi n bs W → Calls Try.prog 26 #[.agg #[.slice a n c, .slice (some ⟨g2, 0, none⟩) m ec, .int .i64 rd, .int .i64 wr_], .int .i64 y] W fun e w' => e = .returned (.int .i64 (py : Nat)) ∧ Hid (RP wb gi n bs w')) := fun y py W hy hpy hW => by
                refine (placeS (nrow_below (unhide HB).2.2.1 hW.2) l5 (by omega)).mono (fun e w' hh => ⟨?_, hW.below hh.2⟩)
                have : placeOf V y = (py : Int) := by unfold placeOf; rw [if_pos hy, hpy]
                rw [hh.1, this]
              have hpl : pu < n ∧ px < n := by
                rw [hpu, hpx, l1]; exact ⟨List.idxOf_lt_length_of_mem hu, List.idxOf_lt_length_of_mem hx⟩
              obtain ⟨bu, hbu⟩ : ∃ b, bs[pu]? = some b := ⟨_, List.getElem?_eq_getElem (by rw [hM.len]; omega)⟩
              obtain ⟨bx, hbx⟩ : ∃ b, bs[px]? = some b := ⟨_, List.getElem?_eq_getElem (by rw [hM.len]; omega)⟩
              have hd := unhide HSN wr hP.2
              obtain ⟨⟨d0, d1, d2, d3⟩, d4, d5⟩ := hd
              have hPd : Hid (RP wb gi n bs wr.drew) := hP.below ⟨rfl, rfl, rfl, Nat.le_refl _, fun _ _ => rfl⟩
              have z1 : (k : Int) < (m : Int) := by omega
              obtain ⟨k1, hk1⟩ : ∃ k1, k1 = k + 1 := ⟨_, rfl⟩
              have zw : Hid (wrap64 ((k : Int) + 1) = (k1 : Int)) := by show wrap64 ((k : Int) + 1) = (k1 : Int); unfold wrap64; omega
              have HI1 := hide hk1
              have HJ : Hid (k1 ≤ m ∧ m - k1 < m - k) := ⟨by omega, by omega⟩
              have HU : Hid (u ∈ V ∧ pu = V.idxOf u) := ⟨hu, hpu⟩
              have HX : Hid (x ∈ V ∧ px = V.idxOf x) := ⟨hx, hpx⟩
              have z2 : (pu : Int) < (n : Int) := by omega
              have z3 : (px : Int) < (n : Int) := by omega
              have HQ : Hid (∀ W, RP wb gi n bs W → W.cell? ⟨gi, pu, none⟩ = some (.bool bu) ∧ W.cell? ⟨gi, px, none⟩ = some (.bool bx) ∧ (bu = true ∧ bx = false → (∀ o, W.frozen? ⟨gi, o, none⟩ = false) ∧ ∃ bs, RP wb gi n bs (W.setCell ⟨gi, px, none⟩ (.bool true)) ∧ Mk (nextOf V (arcsE es)) V s bs ∧ bs.count false + (true).toNat ≤ fc ∧ (true = false → Shut9 V es bs k1)) ∧ (¬ (bu = true ∧ bx = false) → ∃ bs, RP wb gi n bs W ∧ Mk (nextOf V (arcsE es)) V s bs ∧ bs.count false + t.toNat ≤ fc ∧ (t = false → Shut9 V es bs k1))) := fun W hW => by
                refine ⟨trow_at hW.1 hbu, trow_at hW.1 hbx, fun ⟨q1, q2⟩ => ?_, fun q => ?_⟩
                · obtain ⟨f, r⟩ := hW.set (k := px) true
                  refine ⟨f, _, r, ?_, ?_, fun e => by cases e⟩
                  · rw [hpx]; exact hM.mark hux hu (by rw [← hpu, hbu, q1])
                  · have := falses_set (bs := bs) (i := px) (by rw [hbx, q2])
                    have h7 : bs.count false ≤ fc := Nat.le_trans (Nat.le_add_right _ _) hle
                    show _ + 1 ≤ fc
                    omega
                · refine ⟨bs, hW, hM, hle, fun e j z hj hz => ?_⟩
                  by_cases q3 : j = k
                  · subst q3
                    rw [hux] at hz
                    injection hz with hz
                    subst hz
                    show bs[V.idxOf u]? = some true → bs[V.idxOf x]? = some true
                    rw [← hpu, ← hpx, hbu, hbx]
                    intro q4
                    injection q4 with q4
                    cases hb : bx with
                    | true => rfl
                    | false => exact absurd ⟨q4, hb⟩ q
                  · exact hsh e j z (by omega) hz
              clear hM hle hsh l1 l2 l3 l4 l5 l6 hlt hk hR hux hu hx hpu hpx hpl hbu hbx hk1 hP
              go_upto_region 12 with fail
              refine wp_region_noPanic ?_
              refine regionL [] (fun y => (y.cell? ⟨gb, 0, none⟩ = some (.slice a n c) ∧ y.cell? ⟨gb, 1, none⟩ = some (.slice (some ⟨g2, 0, none⟩) m ec) ∧ y.cell? ⟨gb, 2, none⟩ = some (.int .i64 rd) ∧ y.cell? ⟨gb, 3, none⟩ = some (.int .i64 wr_)) ∧ y.cell? ⟨g2, k * 4 + 1, none⟩ = some (.int .i64 u) ∧ y.cell? ⟨g2, k * 4 + 2, none⟩ = some (.int .i64 x)) (by kernel_rfl) ⟨⟨d0, d1, d2, d3⟩, d4, d5⟩ (fun hHeld => ?_)
              refine takeL (i := 0) (v := ?t2v0) (some 40) rfl rfl (by kernel_rfl) (by kernel_rfl) (by kernel_rfl) (by kernel_rfl) (by kernel_rfl) (fun _ _ _ h => h) (Or.inl ⟨by rfl, ?t2h0⟩) (by assumption) ?t2r0
              case t2h0 => (intro y hSu; (try dsimp only at hSu); go_simp; first | done | with_reducible rfl)
              (try simp only [Act.put, List.setIfInBounds_toArray, List.set_cons_zero, List.set_cons_succ])
              refine takeL (i := 1) (v := ?t2v1) (some 41) rfl rfl (by kernel_rfl) (by kernel_rfl) (by kernel_rfl) (by kernel_rfl) (by kernel_rfl) (fun _ _ _ h => h) (Or.inl ⟨by rfl, ?t2h1⟩) (by assumption) ?t2r1
              case t2h1 => (intro y hSu; (try dsimp only at hSu); go_simp; first | done | with_reducible rfl)
              (try simp only [Act.put, List.setIfInBounds_toArray, List.set_cons_zero, List.set_cons_succ])
              refine takeL (i := 2) (v := ?t2v2) (some 42) rfl rfl (by kernel_rfl) (by kernel_rfl) (by kernel_rfl) (by kernel_rfl) (by kernel_rfl) (fun _ _ _ h => h) (Or.inl ⟨by rfl, ?t2h2⟩) (by assumption) ?t2r2
              case t2h2 => (intro y hSu; (try dsimp only at hSu); go_simp; first | done | with_reducible rfl)
              (try simp only [Act.put, List.setIfInBounds_toArray, List.set_cons_zero, List.set_cons_succ])
              refine takeL (i := 3) (v := ?t2v3) (some 43) rfl rfl (by kernel_rfl) (by kernel_rfl) (by kernel_rfl) (by kernel_rfl) (by kernel_rfl) (fun _ _ _ h => h) (Or.inl ⟨by rfl, ?t2h3⟩) (by assumption) ?t2r3
              case t2h3 => (intro y hSu; (try dsimp only at hSu); go_simp; first | done | with_reducible rfl)
              (try simp only [Act.put, List.setIfInBounds_toArray, List.set_cons_zero, List.set_cons_succ])
              refine takeL (i := 4) (v := ?t2v4) (some 44) rfl rfl (by kernel_rfl) (by kernel_rfl) (by kernel_rfl) (by kernel_rfl) (by kernel_rfl) (fun _ _ _ h => h) (Or.inl ⟨by rfl, ?t2h4⟩) (by assumption) ?t2r4
              case t2h4 => (intro y hSu; (try dsimp only at hSu); go_simp; first | done | with_reducible rfl)
              (try simp only [Act.put, List.setIfInBounds_toArray, List.set_cons_zero, List.set_cons_succ])
              refine takeL (i := 5) (v := ?t2v5) (some 45) rfl rfl (by kernel_rfl) (by kernel_rfl) (by kernel_rfl) (by kernel_rfl) (by kernel_rfl) (fun _ _ _ h => h) (Or.inl ⟨by rfl, ?t2h5⟩) (by assumption) ?t2r5
              case t2h5 => (intro y hSu; (try dsimp only at hSu); go_simp; first | done | with_reducible rfl)
              (try simp only [Act.put, List.setIfInBounds_toArray, List.set_cons_zero, List.set_cons_succ])
              refine takeL (i := 6) (v := ?t2v6) (some 46) rfl rfl (by kernel_rfl) (by kernel_rfl) (by kernel_rfl) (by kernel_rfl) (by kernel_rfl) (fun _ _ _ h => h) (Or.inl ⟨by rfl, ?t2h6⟩) (by assumption) ?t2r6
              case t2h6 => (intro y hSu; (try dsimp only at hSu); go_simp; first | done | with_reducible rfl)
              (try simp only [Act.put, List.setIfInBounds_toArray, List.set_cons_zero, List.set_cons_succ])
              refine takeL (i := 8) (v := ?t2v8) (some 48) rfl rfl (by kernel_rfl) (by kernel_rfl) (by kernel_rfl) (by kernel_rfl) (by kernel_rfl) (fun _ _ _ h => h) (Or.inl ⟨by rfl, ?t2h8⟩) (by assumption) ?t2r8
              case t2h8 => (intro y hSu; (try dsimp only at hSu); go_simp; first | done | with_reducible rfl)
              (try simp only [Act.put, List.setIfInBounds_toArray, List.set_cons_zero, List.set_cons_succ])
              refine takeL (i := 9) (v := ?t2v9) (some 49) rfl rfl (by kernel_rfl) (by kernel_rfl) (by kernel_rfl) (by kernel_rfl) (by kernel_rfl) (fun _ _ _ h => h) (Or.inl ⟨by rfl, ?t2h9⟩) (by assumption) ?t2r9
              case t2h9 => (intro y hSu; (try dsimp only at hSu); go_simp; first | done | with_reducible rfl)
              (try simp only [Act.put, List.setIfInBounds_toArray, List.set_cons_zero, List.set_cons_succ])
              refine takeL (i := 10) (v := ?t2v10) (some 50) rfl rfl (by kernel_rfl) (by kernel_rfl) (by kernel_rfl) (by kernel_rfl) (by kernel_rfl) (fun _ _ _ h => h) (Or.inl ⟨by rfl, ?t2h10⟩) (by assumption) ?t2r10
              case t2h10 => (intro y hSu; (try dsimp only at hSu); go_simp; first | done | with_reducible rfl)
              (try simp only [Act.put, List.setIfInBounds_toArray, List.set_cons_zero, List.set_cons_succ])
              refine takeL (i := 11) (v := ?t2v11) (some 51) rfl rfl (by kernel_rfl) (by kernel_rfl) (by kernel_rfl) (by kernel_rfl) (by kernel_rfl) (fun _ _ _ h => h) (Or.inl ⟨by rfl, ?t2h11⟩) (by assumption) ?t2r11
              case t2h11 => (intro y hSu; (try dsimp only at hSu); go_simp; first | done | with_reducible rfl)
              (try simp only [Act.put, List.setIfInBounds_toArray, List.set_cons_zero, List.set_cons_succ])
              refine takeL (i := 12) (v := ?t2v12) (some 52) rfl rfl (by kernel_rfl) (by kernel_rfl) (by kernel_rfl) (by kernel_rfl) (by kernel_rfl) (fun _ _ _ h => h) (Or.inl ⟨by rfl, ?t2h12⟩) (by assumption) ?t2r12
              case t2h12 => (intro y hSu; (try dsimp only at hSu); go_simp; first | done | with_reducible rfl)
              (try simp only [Act.put, List.setIfInBounds_toArray, List.set_cons_zero, List.set_cons_succ])
              refine takeL (i := 13) (v := ?t2v13) (some 53) rfl rfl (by kernel_rfl) (by kernel_rfl) (by kernel_rfl) (by kernel_rfl) (by kernel_rfl) (fun _ _ _ h => h) (Or.inl ⟨by rfl, ?t2h13⟩) (by assumption) ?t2r13
              case t2h13 => (intro y hSu; (try dsimp only at hSu); go_simp; first | done | with_reducible rfl)
              (try simp only [Act.put, List.setIfInBounds_toArray, List.set_cons_zero, List.set_cons_succ])
              refine takeL (i := 14) (v := ?t2v14) (some 54) rfl rfl (by kernel_rfl) (by kernel_rfl) (by kernel_rfl) (by kernel_rfl) (by kernel_rfl) (fun _ _ _ h => h) (Or.inl ⟨by rfl, ?t2h14⟩) (by assumption) ?t2r14
              case t2h14 => (intro y hSu; (try dsimp only at hSu); go_simp; first | done | with_reducible rfl)
              (try simp only [Act.put, List.setIfInBounds_toArray, List.set_cons_zero, List.set_cons_succ])
              refine readyL (i := 7) (by kernel_rfl) rfl (fun K hK => ?_)
              go_simp
              refine (unhide CP _ _ _ (unhide HU).1 (unhide HU).2 (unhide hPd)).mono ?_
              rintro e w4 ⟨rfl, hP4⟩
              (try dsimp only)
              refine hK.out _ _ (fun _ => (unhide HSN w4 (unhide hP4).2)) ?_
              clear hK K
              (try simp only [Act.put, List.setIfInBounds_toArray, List.set_cons_zero, List.set_cons_succ])
              have hH4 := (unhide HSN w4 (unhide hP4).2)
              refine readyL (i := 15) (by kernel_rfl) rfl (fun K hK => ?_)
              go_simp
              refine (unhide CP _ _ _ (unhide HX).1 (unhide HX).2 (unhide hP4)).mono ?_
              rintro e w5 ⟨rfl, hP5⟩
              (try dsimp only)
              refine hK.out _ _ (fun _ => (unhide HSN w5 (unhide hP5).2)) ?_
              clear hK K
              (try simp only [Act.put, List.setIfInBounds_toArray, List.set_cons_zero, List.set_cons_succ])
              have hH6 := (unhide HSN w5 (unhide hP5).2)
              refine readyL (i := 16) (by kernel_rfl) rfl (fun K hK => ?_)
              go_simp
              refine hK.out _ _ (fun _ => (unhide HSN w5 (unhide hP5).2)) ?_
              clear hK K
              (try simp only [Act.put, List.setIfInBounds_toArray, List.set_cons_zero, List.set_cons_succ])
              have hH8 := (unhide HSN w5 (unhide hP5).2)
              refine readyL (i := 17) (by kernel_rfl) rfl (fun K hK => ?_)
              go_simp
              refine hK.out _ _ (fun _ => (unhide HSN w5 (unhide hP5).2)) ?_
              clear hK K
              (try simp only [Act.put, List.setIfInBounds_toArray, List.set_cons_zero, List.set_cons_succ])
              have hH10 := (unhide HSN w5 (unhide hP5).2)
              refine doneL (by kernel_rfl) ?_ _
              refine NoPanic.normal ?_
              obtain ⟨k2, k3, q1, q2⟩ := unhide HQ w5 (unhide hP5)
              clear hHeld d0 d1 d2 d3 d4 d5 CP HSN
              by_cases hbb : bu = true ∧ bx = false
              · obtain ⟨rfl, rfl⟩ := hbb
                obtain ⟨fz, hD⟩ := q1 ⟨rfl, rfl⟩
                have HD := hide hD
                clear q1 q2 hD HQ
                go_wp2_with fail
                (try rw [unhide zw])
                exact ⟨⟨k1, true, by first | rfl | (rw [unhide HI1]; rfl), rfl, (unhide HJ).1, HD⟩, by have := (unhide HJ).2; simp [intOf]; omega⟩
              · have HD := hide (q2 hbb)
                clear q1 q2 HQ
                cases bu with
                | false =>
                  clear hbb
                  go_wp2_with fail
                  (try rw [unhide zw])
                  exact ⟨⟨k1, t, by first | rfl | (rw [unhide HI1]; rfl), rfl, (unhide HJ).1, HD⟩, by have := (unhide HJ).2; simp [intOf]; omega⟩
                | true =>
                  cases bx with
                  | false => exact absurd ⟨rfl, rfl⟩ hbb
                  | true =>
                    clear hbb
                    go_wp2_with fail
                    (try rw [unhide zw])
                    exact ⟨⟨k1, t, by first | rfl | (rw [unhide HI1]; rfl), rfl, (unhide HJ).1, HD⟩, by have := (unhide HJ).2; simp [intOf]; omega⟩
            · have z1 : ¬ (k : Int) < (m : Int) := by omega
              have k0 := (unhide HC wr hP.2).2.1
              obtain ⟨k2, hk2⟩ : ∃ k2, k2 = bs.count false + t.toNat := ⟨_, rfl⟩
              have HD : Hid (∃ bs, RP wb gi n bs wr ∧ Mk (nextOf V (arcsE es)) V s bs ∧ bs.count false + t.toNat = k2 ∧ (t = false → Shut9 V es bs es.length)) := ⟨bs, hP, hM, hk2.symm, fun e => by have := hsh e; rwa [show k = es.length by omega] at this⟩
              have HLE : Hid (k2 ≤ fc) := by show k2 ≤ fc; omega
              clear hP hM hle hsh l1 l2 l3 l4 l5 l6 hlt hk hR hk2
              go_wp2_with fail
              go_roundg k2
              case measure => (have h1 : fc + 1 = _ := unhide HK; have h2 := unhide HLE; omega)
              case rel => exact ⟨t, rfl, HD⟩
end

end Go.Proofs.Ytdpdghhieokcfaa
