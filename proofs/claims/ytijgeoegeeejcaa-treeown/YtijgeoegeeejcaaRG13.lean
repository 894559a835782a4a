/- The reference's Admit and Graph. -/
import Derived.Test.YtijgeoegeeejcaaRA13
import Derived.Test.YtijgeoegeeejcaaSum13
import Derived.Laws.ResultCell
namespace Go.Proofs.Ytijgeoegeeejcaa

section
open Go.RowKit Go.Maps
def uA (us : List Nat) (q : Nat) : Nat := us.getD q 0
/-- Distances of cheapest walks: no edge makes its end nearer, and whatever no edge lowers lies nowhere above them. -/
structure Lst (ys : List Int) (gs : List EdV) (s : Int) (far : Nat → Bool) (bits : Nat → Nat) : Prop where
  src : s ∈ ys
  rise : ys.Pairwise (· < ·)
  l1 : ys.length ≤ 1000
  l2 : gs.length ≤ 2000
  ok : ∀ y ∈ gs, y.2.1 ∈ ys ∧ y.2.2.1 ∈ ys ∧ 0 ≤ y.2.2.2 ∧ y.2.2.2 < 2139095040
  st : far (plc ys s) = false ∧ bits (plc ys s) = 0
  le_ : ∀ p, bits p ≤ 2139095040
  han : ∀ y ∈ gs, far (plc ys y.2.1) = false → far (plc ys y.2.2.1) = false ∧ bits (plc ys y.2.2.1) ≤ M.addC (bits (plc ys y.2.1)) y.2.2.2.toNat
  up : ∀ us : List Nat, uA us (plc ys s) = 0 → (∀ y ∈ gs, uA us (plc ys y.2.1) ≠ 4294967295 → uA us (plc ys y.2.2.1) ≤ M.addC (uA us (plc ys y.2.1)) y.2.2.2.toNat) → ∀ q, q < ys.length → far q = false → uA us q ≤ bits q
def Clos (ys : List Int) (us : List Nat) (y : EdV) : Prop := uA us (plc ys y.2.1) ≠ 4294967295 → uA us (plc ys y.2.2.1) ≤ M.addC (uA us (plc ys y.2.1)) y.2.2.2.toNat
/-- In the midst. -/
structure DI (ys : List Int) (s : Int) (far : Nat → Bool) (bits : Nat → Nat) (us : List Nat) : Prop where
  len : us.length = ys.length
  st : uA us (plc ys s) = 0
  lo : ∀ q, uA us q ≠ 4294967295 → q < ys.length → far q = false ∧ bits q ≤ uA us q
  fin : ∀ q, uA us q = 4294967295 ∨ uA us q ≤ 2139095040
theorem uA_set {us : List Nat} {v c : Nat} (hv : v < us.length) (q : Nat) : uA (us.set v c) q = if q = v then c else uA us q := by
  unfold uA
  rw [List.getD_eq_getElem?_getD, List.getD_eq_getElem?_getD]
  by_cases h : q = v
  · subst h; rw [if_pos rfl, List.getElem?_set_self hv]; rfl
  · rw [if_neg h, List.getElem?_set_ne (fun e => h e.symm)]
theorem uA_at {us : List Nat} {q x : Nat} (h : us[q]? = some x) : uA us q = x := by unfold uA; rw [List.getD_eq_getElem?_getD, h]; rfl
theorem at_uA {us : List Nat} {q : Nat} (h : q < us.length) : us[q]? = some (uA us q) := by unfold uA; rw [List.getD_eq_getElem?_getD, List.getElem?_eq_getElem h]; rfl
theorem sum_set : ∀ {us : List Nat} {v c : Nat}, v < us.length → c < uA us v → (us.set v c).sum < us.sum
  | [], v, c, h, _ => by simp at h
  | x :: us, 0, c, _, h => by
    have h1 : c < x := h
    simp only [List.set_cons_zero, List.sum_cons]; omega
  | x :: us, v + 1, c, h, h2 => by
    have := sum_set (us := us) (v := v) (c := c) (by simpa using h) h2
    simp only [List.set_cons_succ, List.sum_cons]; omega
theorem DI.step {ys : List Int} {gs : List EdV} {s : Int} {far : Nat → Bool} {bits : Nat → Nat} {us : List Nat} (hL : Lst ys gs s far bits) (h : DI ys s far bits us) {y : EdV} (hy : y ∈ gs) (h1 : uA us (plc ys y.2.1) ≠ 4294967295) {c : Nat} (hc : c = M.addC (uA us (plc ys y.2.1)) y.2.2.2.toNat) (h2 : c < uA us (plc ys y.2.2.1)) :
    DI ys s far bits (us.set (plc ys y.2.2.1) c) ∧ (us.set (plc ys y.2.2.1) c).sum < us.sum := by
  obtain ⟨o1, o2, o3, o4⟩ := hL.ok y hy
  have hu := plc_lt o1
  have hv := plc_lt o2
  have hvl : plc ys y.2.2.1 < us.length := by rw [h.len]; exact hv
  have hle : uA us (plc ys y.2.1) ≤ 2139095040 := (h.fin _).resolve_left h1
  obtain ⟨a1, a2⟩ := h.lo _ h1 hu
  obtain ⟨b1, b2⟩ := hL.han y hy a1
  have hcI : c ≤ 2139095040 := by rw [hc]; exact M.addC_le hle (by omega)
  refine ⟨⟨by rw [List.length_set]; exact h.len, ?_, fun q hq hql => ?_, fun q => ?_⟩, sum_set hvl h2⟩
  · rw [uA_set hvl, if_neg]
    · exact h.st
    · intro e
      rw [← e, h.st] at h2; omega
  · rw [uA_set hvl] at hq ⊢
    by_cases e : q = plc ys y.2.2.1
    · rw [if_pos e, e]
      refine ⟨b1, Nat.le_trans b2 ?_⟩
      rw [hc]; exact M.addC_mono (hL.le_ _) hle (by omega) a2
    · rw [if_neg e] at hq ⊢; exact h.lo q hq hql
  · rw [uA_set hvl]
    by_cases e : q = plc ys y.2.2.1
    · rw [if_pos e]; exact .inr hcI
    · rw [if_neg e]; exact h.fin q
/-- What is told of a graph. -/
def refD (n : Nat) (far : Nat → Bool) (bits : Nat → Nat) : List Nat := (List.range n).map (fun q => if far q = true then 4294967295 else bits q)
theorem DI.done {ys : List Int} {gs : List EdV} {s : Int} {far : Nat → Bool} {bits : Nat → Nat} {us : List Nat} (hL : Lst ys gs s far bits) (h : DI ys s far bits us) (hc : ∀ y ∈ gs, Clos ys us y) : us = refD ys.length far bits := by
  have hu := hL.up us h.st hc
  apply List.ext_getElem?
  intro q
  rcases Nat.lt_or_ge q ys.length with hq | hq
  · unfold refD
    rw [List.getElem?_map, List.getElem?_range hq, at_uA (by rw [h.len]; exact hq)]
    show some (uA us q) = some (if far q = true then 4294967295 else bits q)
    congr 1
    cases hf : far q with
    | true =>
      rw [if_pos rfl]
      by_cases e : uA us q = 4294967295
      · exact e
      · have := (h.lo q e hq).1; rw [hf] at this; cases this
    | false =>
      rw [if_neg (by decide)]
      have h1 := hu q hq hf
      have h2 := hL.le_ q
      have := (h.lo q (by omega) hq).2
      omega
  · rw [List.getElem?_eq_none (by rw [h.len]; exact hq), List.getElem?_eq_none (by unfold refD; simp; omega)]
theorem DI.init {ys : List Int} {gs : List EdV} {s : Int} {far : Nat → Bool} {bits : Nat → Nat} {us : List Nat} (hL : Lst ys gs s far bits) (hl : us.length = ys.length) (h : ∀ (j : Nat) (v : Int), ys[j]? = some v → us[j]? = some (if v = s then 0 else 4294967295)) : DI ys s far bits us := by
  have hst := at_plc hL.rise hL.src
  refine ⟨hl, by rw [uA_at (h _ _ hst), if_pos rfl], fun q hq hql => ?_, fun q => ?_⟩
  · obtain ⟨v, hv⟩ : ∃ v, ys[q]? = some v := ⟨_, List.getElem?_eq_getElem hql⟩
    have e := uA_at (h q v hv)
    by_cases hvs : v = s
    · have : q = plc ys s := by rw [← hvs]; exact (plc_at hL.rise hv).symm
      rw [this, hL.st.2]; exact ⟨hL.st.1, Nat.zero_le _⟩
    · rw [if_neg hvs] at e; exact absurd e hq
  · rcases Nat.lt_or_ge q ys.length with hq | hq
    · obtain ⟨v, hv⟩ : ∃ v, ys[q]? = some v := ⟨_, List.getElem?_eq_getElem hq⟩
      rw [uA_at (h q v hv)]
      split
      · exact .inr (by omega)
      · exact .inl rfl
    · refine .inr ?_
      unfold uA
      rw [List.getD_eq_getElem?_getD, List.getElem?_eq_none (by omega)]
      show 0 ≤ _; omega
/-- The distances in memory, beside the graph's box. -/
structure DsM (w : World) (gb : Nat) (o : Obj) (g n : Nat) (us : List Nat) (W : World) : Prop where
  bl : Below w.heap.size w W
  bx : W.heap[gb]? = some o
  row : URow w.heap.size W (.slice (some ⟨g, 0, none⟩) n n) us
  ne : g ≠ gb
section
variable {w W W' : World} {gb g n : Nat} {o : Obj} {us : List Nat}
theorem DsM.g_lt (h : DsM w gb o g n us W) : w.heap.size ≤ g ∧ g < W.heap.size := h.row.lt g rfl
theorem DsM.below (h : DsM w gb o g n us W) (hb : Below W.heap.size W W') : DsM w gb o g n us W' :=
  ⟨h.bl.trans (hb.mono h.bl.size), (hb.block gb (Array.getElem?_eq_some_iff.1 h.bx).1).trans h.bx, rrow_below h.row hb, h.ne⟩
theorem DsM.set (h : DsM w gb o g n us W) {i x : Nat} (hi : us[i]? = some x) (y : Nat) : DsM w gb o g n (us.set i y) (W.setCell ⟨g, i, none⟩ (.int .u32 (y : Nat))) :=
  ⟨below_set h.bl h.g_lt.1, (heap_setCell_other _ _ _ _ (show gb ≠ g from fun e => h.ne e.symm)).trans h.bx, urow_set y h.row hi, h.ne⟩
theorem DsM.setFar (h : DsM w gb o g n us W) {i x : Nat} (hi : us[i]? = some x) : DsM w gb o g n (us.set i 4294967295) (W.setCell ⟨g, i, none⟩ (.int .u32 4294967295)) := h.set hi 4294967295
theorem DsM.set0 (h : DsM w gb o g n us W) {i x : Nat} (hi : us[i]? = some x) : DsM w gb o g n (us.set i 0) (W.setCell ⟨g, i, none⟩ (.int .u32 0)) := h.set hi 0
end
/-- So far the beginning is laid. -/
def Begun (ys : List Int) (s : Int) (us : List Nat) (i : Nat) : Prop := us.length = ys.length ∧ ∀ (j : Nat) (v : Int), j < i → ys[j]? = some v → us[j]? = some (if v = s then 0 else 4294967295)
theorem Begun.next {ys : List Int} {s v : Int} {us : List Nat} {i c : Nat} (h : Begun ys s us i) (hv : ys[i]? = some v) (hc : c = if v = s then 0 else 4294967295) : Begun ys s (us.set i c) (i + 1) := by
  refine ⟨by rw [List.length_set]; exact h.1, fun j u hj hu => ?_⟩
  by_cases e : j = i
  · subst e
    rw [hv] at hu
    rw [List.getElem?_set_self (by rw [h.1]; exact (List.getElem?_eq_some_iff.1 hv).1), hc, Option.some.inj hu]
  · rw [List.getElem?_set_ne (fun z => e z.symm)]; exact h.2 j u (by omega) hu
/-- What Dists answers. -/
def RDAns (w : World) (us : List Nat) (e : Ending) (w' : World) : Prop := ∃ g n, e = .returned (.slice (some ⟨g, 0, none⟩) n n) ∧ n = us.length ∧ URow w.heap.size w' (.slice (some ⟨g, 0, none⟩) n n) us ∧ Below w.heap.size w w'
end

section
open Go.RowKit Go.Maps
theorem admitR_no {n : Int} (h1 : ¬ n = 2147483648) (h2 : 2139095040 ≤ n) (w : World) : Calls Try.prog 30 #[.int .u32 n] w fun e w' => e = .returned (.tuple #[.int .u32 0, .int .i64 7]) ∧ w' = w := by
  go_enter Try.func30, Try.ntmps30
  go_wp2
  go_ret2
  exact ⟨rfl, rfl⟩
theorem admitR_zero (w : World) : Calls Try.prog 30 #[.int .u32 2147483648] w fun e w' => e = .returned (.tuple #[.int .u32 0, .int .i64 0]) ∧ w' = w := by
  go_enter Try.func30, Try.ntmps30
  go_wp2
  go_ret2
  exact ⟨rfl, rfl⟩
theorem admitR_yes {n : Int} (h2 : ¬ 2139095040 ≤ n) (w : World) : Calls Try.prog 30 #[.int .u32 n] w fun e w' => e = .returned (.tuple #[.int .u32 n, .int .i64 0]) ∧ w' = w := by
  have h1 : ¬ n = 2147483648 := by omega
  go_enter Try.func30, Try.ntmps30
  go_wp2
  go_ret2
  exact ⟨rfl, rfl⟩
/-- What the reference's Admit answers. -/
theorem admitR (n : Int) (w : World) : Calls Try.prog 30 #[.int .u32 n] w fun e w' => e = .returned (.tuple #[.int .u32 ((kept n).getD 0), .int .i64 (if (kept n).isNone = true then 7 else 0)]) ∧ w' = w := by
  unfold kept
  by_cases h1 : n = 2147483648
  · subst h1; rw [if_pos rfl]; exact admitR_zero w
  · rw [if_neg h1]
    by_cases h2 : 2139095040 ≤ n
    · rw [if_pos h2]; exact admitR_no h1 h2 w
    · rw [if_neg h2]; exact admitR_yes h2 w
/-- An edge, with the weight that it has. -/
def wEd (x : EdV) : EdV := (x.1, x.2.1, x.2.2.1, (wtN x : Int))
theorem kept_pos {n b : Int} (hn : 0 ≤ n) (h : kept n = some b) : 0 ≤ b := by
  unfold kept at h
  split at h
  · have : (0 : Int) = b := Option.some.inj h
    omega
  · split at h
    · cases h
    · have : n = b := Option.some.inj h
      omega
theorem wt_kept {x : EdV} (hn : 0 ≤ x.2.2.2) : (kept x.2.2.2).getD 0 = (wtN x : Int) := by
  unfold wtN
  cases h : kept x.2.2.2 with
  | none => rfl
  | some b => have := kept_pos hn h; show b = ((b.toNat : Nat) : Int); omega
def set4r (w : World) (g : Nat) (a b c d : Value) : World := (((w.setCell ⟨g, 0, none⟩ a).setCell ⟨g, 1, none⟩ b).setCell ⟨g, 2, none⟩ c).setCell ⟨g, 3, none⟩ d
theorem set4r_at {w : World} {g : Nat} {x0 x1 x2 x3 : Value} (h : w.heap[g]? = some (.cells #[x0, x1, x2, x3] 34 (0, 0))) (a b c d : Value) : (set4r w g a b c d).heap[g]? = some (.cells #[a, b, c, d] 34 (0, 0)) := by
  have e0 : (w.setCell ⟨g, 0, none⟩ a).heap[g]? = some (.cells #[a, x1, x2, x3] 34 (0, 0)) := by rw [heap_setCell_same _ _ _ _ _ _ h]; rfl
  have e1 : ((w.setCell ⟨g, 0, none⟩ a).setCell ⟨g, 1, none⟩ b).heap[g]? = some (.cells #[a, b, x2, x3] 34 (0, 0)) := by rw [heap_setCell_same _ _ _ _ _ _ e0]; rfl
  have e2 : (((w.setCell ⟨g, 0, none⟩ a).setCell ⟨g, 1, none⟩ b).setCell ⟨g, 2, none⟩ c).heap[g]? = some (.cells #[a, b, c, x3] 34 (0, 0)) := by rw [heap_setCell_same _ _ _ _ _ _ e1]; rfl
  unfold set4r
  rw [heap_setCell_same _ _ _ _ _ _ e2]; rfl
theorem set4r_turned (w : World) (g : Nat) (a b c d : Value) : Turned (fun k => k = g) w (set4r w g a b c d) := setCells_turned (S := fun k => k = g) g rfl [a, b, c, d] 0 w
/-- The graph while it is made: its box gb, the result's gr, what is below B2 stays. -/
structure GPic (w : World) (B2 gr gb : Nat) (vv ev : Value) (V : List Int) (gs : List EdV) (W : World) : Prop where
  bl : Below w.heap.size w W
  box : W.heap[gb]? = some (oGr vv ev 0 0)
  res : W.heap[gr]? = some (oGr (.slice none 0 0) (.slice none 0 0) 0 0)
  vs : BRow w.heap.size W vv V
  es : ERow B2 W ev gs
  b2 : B2 ≤ W.heap.size ∧ gb < B2 ∧ gr < B2 ∧ gr ≠ gb ∧ w.heap.size ≤ gb ∧ w.heap.size ≤ gr ∧ w.heap.size ≤ B2
  lo : ∀ b, vv.ownBlock = some b → b < B2 ∧ b ≠ gb ∧ b ≠ gr
section
variable {w W W' : World} {B2 gr gb : Nat} {vv ev : Value} {V : List Int} {gs : List EdV}
theorem GPic.below (h : GPic w B2 gr gb vv ev V gs W) (hb : Below W.heap.size W W') : GPic w B2 gr gb vv ev V gs W' :=
  ⟨h.bl.trans (hb.mono h.bl.size), (hb.block gb (by have := h.b2; omega)).trans h.box, (hb.block gr (by have := h.b2; omega)).trans h.res, brow_kept h.vs (fun b e => hb.block b (h.vs.lt b e).2), rrow_below h.es hb, by have := h.b2; have := hb.size; omega, h.lo⟩
theorem GPic.app (h : GPic w B2 gr gb vv ev V gs W) (y : EdV) (hl : gs.length < 100000) :
    ∃ a' n' c' w', (∀ ty, (Builtin.append_ #[23, 23] ty #[ev, .slice (some ⟨W.heap.size, 0, none⟩) 1 1]).run Try.prog (W.alloc (.cells #[.int .i64 y.1, .int .i64 y.2.1, .int .i64 y.2.2.1, .int .u32 y.2.2.2] 42)) = .ok (.slice a' n' c') w') ∧ w'.heap[gb]? = some (oGr vv ev 0 0) ∧ GPic w B2 gr gb vv (.slice a' n' c') V (gs ++ [y]) (w'.setCell ⟨gb, 1, none⟩ (.slice a' n' c')) := by
  have b2 := h.b2
  obtain ⟨a', n', c', w', r, g1, g2, g3⟩ := run_app1 (ts := 23) kitE Try.underlying23 infoED rfl (by omega) y (cs := #[.int .i64 y.1, .int .i64 y.2.1, .int .i64 y.2.2.1, .int .u32 y.2.2.2]) rfl h.es b2.1 (by omega)
  have hne : ∀ b, b < B2 → w'.heap[b]? = W.heap[b]? := fun b hb => g2.block b (by omega) (fun e => by have := (h.es.lt b e).1; omega)
  have hbox := (hne gb b2.2.1).trans h.box
  have hb' : Below w.heap.size w w' := h.bl.trans (g2.below h.bl.size (fun b e => by have := (h.es.lt b e).1; omega))
  have hev : ∀ b, (Value.slice a' n' c').ownBlock = some b → B2 ≤ b := fun b e => (g1.lt b e).1
  refine ⟨a', n', c', w', r, hbox, below_set hb' b2.2.2.2.2.1, ?_, ?_, ?_, ?_, ?_, h.lo⟩
  · rw [heap_setCell_same _ _ _ _ _ _ hbox]; rfl
  · exact (heap_setCell_other _ _ _ _ (show gr ≠ gb from b2.2.2.2.1)).trans ((hne gr b2.2.2.1).trans h.res)
  · exact brow_kept h.vs (fun b e => (heap_setCell_other _ _ _ _ (show b ≠ gb from (h.lo b e).2.1)).trans (hne b (h.lo b e).1))
  · exact rrow_kept g1 (fun b e => heap_setCell_other _ _ _ _ (show b ≠ gb from fun z => by have := hev b e; omega))
  · have h1 := g2.size
    have h2 : (w'.setCell ⟨gb, 1, none⟩ (.slice a' n' c')).heap.size = w'.heap.size := by simp
    rw [h2]; omega
end
/-- What Graph answers. -/
def GrAns (w : World) (ks : List Int) (es : List EdV) (e : Ending) (w' : World) : Prop := ∃ a n c ea en ec V, e = .returned (.agg #[.slice a n c, .slice ea en ec, .int .i64 0, .int .i64 0]) ∧ V.Perm ks ∧ V.Pairwise (· ≤ ·) ∧ NRow w' (.slice a n c) V ∧ ERow 0 w' (.slice ea en ec) (es.map wEd) ∧ Below w.heap.size w w'
theorem edbox_set {w : World} {b : Nat} {x : EdV} {u : Int} (h : w.heap[b]? = some (oEd x)) : (w.setCell ⟨b, 3, none⟩ (.int .u32 u)).heap[b]? = some (oEd (x.1, x.2.1, x.2.2.1, u)) := by
  unfold oEd at h
  rw [heap_setCell_same _ _ _ _ _ _ h]; rfl
set_option maxHeartbeats 8000000 in
set_option maxRecDepth 100000 in
theorem graphR {w : World} {v v2 : Value} {ks : List Int} {es : List EdV} (h : NRow w v ks) (h2 : ERow 0 w v2 es) (hl : ks.length ≤ 1000) (hl2 : es.length ≤ 1000) (hp : ∀ x ∈ es, 0 ≤ x.2.2.2) :
    Calls Try.prog 13 #[v, v2] w fun e w' => Hid (GrAns w ks es e w') := by
  have hbz := below_new w (oGr (.slice none 0 0) (.slice none 0 0) 0 0)
  have CS := hide (sortedS (nrow_below h hbz) (by omega))
  have hres := heap_alloc_new w (oGr (.slice none 0 0) (.slice none 0 0) 0 0)
  obtain ⟨x1, c1, e1, -⟩ := brow_shape h
  obtain ⟨x2, c2, e2⟩ := rrow_shape h2
  obtain ⟨n1, hn1⟩ : ∃ n1, n1 = ks.length := ⟨_, rfl⟩
  obtain ⟨n2, hn2⟩ : ∃ n2, n2 = es.length := ⟨_, rfl⟩
  rw [← hn1] at e1
  rw [← hn2] at e2
  have HN : Hid (n2 = es.length ∧ n2 ≤ 1000 ∧ ∀ x ∈ es, 0 ≤ x.2.2.2) := ⟨hn2, by omega, hp⟩
  obtain ⟨gr, hgr⟩ : ∃ gr, gr = w.heap.size := ⟨_, rfl⟩
  obtain ⟨wz, hwz⟩ : ∃ wz, wz = w.alloc (oGr (.slice none 0 0) (.slice none 0 0) 0 0) := ⟨_, rfl⟩
  rw [← hwz] at hbz hres CS
  rw [← hgr] at hres
  have HZ : Hid (Below w.heap.size w wz ∧ wz.heap[gr]? = some (oGr (.slice none 0 0) (.slice none 0 0) 0 0) ∧ gr = w.heap.size) := ⟨hbz, hres, hgr⟩
  have HA : Hid (∀ W, Below w.heap.size w W → ERow 0 W v2 es) := fun W hW => rrow_below h2 hW
  have HWZ := hide hwz
  have HGR := hide hgr
  clear h h2 hl hl2 hp hn1 hn2 hbz hres hgr hwz
  subst e1 e2
  go_enter Try.func13, Try.ntmps13
  go_upto_region 1 with fail
  rw [show w.alloc (.cells #[.slice none 0 0, .slice none 0 0, .int .i64 0, .int .i64 0] 34) = wz from (unhide HWZ).symm, ← unhide HGR]
  clear HWZ HGR
  go_wp2_with fail
  refine (unhide CS).mono ?_
  intro r w1 hh
  obtain ⟨a, n, c, V, rfl, hpv, hs, hr, hb⟩ := unhide hh
  clear CS hh
  obtain ⟨w3, hw3⟩ : ∃ w3, w3 = w1.alloc (oGr (.slice a n c) (.slice none 0 0) 0 0) := ⟨_, rfl⟩
  obtain ⟨gb, hgb⟩ : ∃ gb, gb = w1.heap.size := ⟨_, rfl⟩
  have HP : Hid (V.Perm ks ∧ V.Pairwise (· ≤ ·)) := ⟨hpv, hs⟩
  have HG : Hid (GPic w w3.heap.size gr gb (.slice a n c) (.slice none 0 0) V [] w3) := by
    obtain ⟨z1, z2, z3⟩ := unhide HZ
    have b3 := below_new w1 (oGr (.slice a n c) (.slice none 0 0) 0 0)
    have hgl := (Array.getElem?_eq_some_iff.1 z2).1
    have hs3 : w3.heap.size = w1.heap.size + 1 := by rw [hw3]; simp
    rw [← hw3] at b3
    have hb1 := z1.trans (hb.mono z1.size)
    refine ⟨hb1.trans (b3.mono hb1.size), by rw [hw3, hgb]; exact heap_alloc_new _ _, (b3.block gr (by have := hb.size; omega)).trans ((hb.block gr hgl).trans z2), brow_low (brow_kept hr (fun b e => b3.block b (hr.lt b e).2)) (by have := z1.size; omega), ⟨rfl, .inl ⟨rfl, rfl⟩⟩, ?_, fun b e => ?_⟩
    · have := hb.size; have := z1.size; omega
    · have := hr.lt b e; have := hb.size; have := z1.size; omega
  clear hpv hs hr hb HZ
  go_upto_region 3 with fail
  rw [show w1.alloc (Obj.cells #[Value.slice a n c, Value.slice none 0 0, Value.int IntKind.i64 0, Value.int IntKind.i64 0] 34) = w3 from hw3.symm]
  (try rw [← hgb])
  obtain ⟨B2, hB2⟩ : ∃ B2, B2 = w3.heap.size := ⟨_, rfl⟩
  rw [← hB2] at HG
  clear hw3 hgb hB2
  go_loopw [6] (fun s6 W => ∃ (i : Nat), s6 = .int .i64 (i : Nat) ∧ Hid (i ≤ n2 ∧ ∃ ea en ec, GPic w B2 gr gb (.slice a n c) (.slice ea en ec) V ((es.take i).map wEd) W)) (fun s6 _ => n2 - (intOf s6).toNat)
  case atStart => exact ⟨0, rfl, Nat.zero_le _, none, 0, 0, unhide HG⟩
  case round =>
    obtain ⟨i, rfl, HI⟩ := hrel
    clear HG
    obtain ⟨i1, ea, en, ec, hG⟩ := unhide HI
    obtain ⟨l1, l2, l3⟩ := unhide HN
    by_cases hlt : i < n2
    · obtain ⟨x, hx⟩ : ∃ x, es[i]? = some x := ⟨_, List.getElem?_eq_getElem (by omega)⟩
      have hrow := unhide HA wr hG.bl
      obtain ⟨g2, rfl⟩ := rrow_some hrow (by omega)
      obtain ⟨d0, d1, d2, d3⟩ := erow_at hrow hx
      have hb := below_new wr (oEd x)
      have hblk := heap_alloc_new wr (oEd x)
      obtain ⟨W1, hW1⟩ : ∃ W1, W1 = wr.alloc (oEd x) := ⟨_, rfl⟩
      obtain ⟨wb, hwb⟩ : ∃ wb, wb = wr.heap.size := ⟨_, rfl⟩
      rw [← hW1] at hb hblk
      rw [← hwb] at hblk
      obtain ⟨o0, o1, o2, o3⟩ := cellsEd hblk
      have of_ : ∀ o, W1.frozen? ⟨wb, o, none⟩ = false := fun o => frozen_of_row _ _ o _ _ hblk
      have CA := hide (admitR x.2.2.2)
      rw [wt_kept (l3 x (List.mem_of_getElem? hx))] at CA
      have hb2 : Below wr.heap.size wr (W1.setCell ⟨wb, 3, none⟩ (.int .u32 (wtN x : Int))) := below_set hb (by omega)
      have hG2 := hG.below hb2
      have hblk2 := edbox_set (u := (wtN x : Int)) hblk
      obtain ⟨W2, hW2⟩ : ∃ W2, W2 = W1.setCell ⟨wb, 3, none⟩ (.int .u32 (wtN x : Int)) := ⟨_, rfl⟩
      rw [← hW2] at hG2 hblk2
      obtain ⟨p0, p1, p2, p3⟩ := cellsEd hblk2
      obtain ⟨a', n', c', w', r, hbx, hG3⟩ := hG2.app (wEd x) (by rw [List.length_map, List.length_take]; omega)
      have q1 := (cellsGr hG2.box).2.1
      have q2 := (cellsGr hbx).2.1
      have qf := (cellsGr hbx).2.2.2.2
      have HR := hide r
      obtain ⟨j, hj⟩ : ∃ j, j = i + 1 := ⟨_, rfl⟩
      have zw : Hid (wrap64 ((i : Int) + 1) = (j : Int)) := by show wrap64 ((i : Int) + 1) = (j : Int); unfold wrap64; omega
      have e1 : (es.take j).map wEd = (es.take i).map wEd ++ [wEd x] := by rw [hj, List.take_add_one, hx]; simp
      rw [← e1] at hG3
      have HJ : Hid (j = i + 1 ∧ n2 - j < n2 - i ∧ j ≤ n2 ∧ GPic w B2 gr gb (.slice a n c) (.slice a' n' c') V ((es.take j).map wEd) (w'.setCell ⟨gb, 1, none⟩ (.slice a' n' c'))) := ⟨hj, by omega, by omega, hG3⟩
      have z1 : (i : Int) < (n2 : Int) := by omega
      have HW1 := hide hW1
      have HWB := hide hwb
      have HW2 := hide hW2
      unfold wEd at HR
      (try dsimp only at d0 d1 d2 d3 p0 p1 p2 p3 HR)
      clear HI i1 hG l1 l2 l3 hlt hx hrow hb hblk hW1 hwb hb2 hG2 hblk2 hW2 r hbx hG3 hj e1
      generalize wtN x = wt at *
      generalize (if (kept x.2.2.2).isNone = true then (7 : Int) else 0) = er at *
      go_upto_region 6 with fail
      rw [show wr.alloc (.cells #[.int .i64 x.1, .int .i64 x.2.1, .int .i64 x.2.2.1, .int .u32 x.2.2.2] 42) = W1 from (unhide HW1).symm, ← unhide HWB]
      clear HW1 HWB d0 d1 d2 d3
      go_wp2_with fail
      refine (unhide CA _).mono ?_
      rintro e w5 ⟨rfl, hw5⟩
      rw [hw5]
      clear hw5 w5 CA
      go_upto_region 7 with fail
      rw [← unhide HW2]
      clear HW2 o0 o1 o2 o3 of_
      go_wp2_with (at_builtin; refine Lib.wpList_append_run _ rfl _ _ 23 23 rfl _ _ rfl rfl _ _ (unhide HR _) ?_)
      (try rw [unhide zw])
      exact ⟨⟨j, by first | rfl | (rw [(unhide HJ).1]; rfl), (unhide HJ).2.2.1, a', n', c', (unhide HJ).2.2.2⟩, by have := unhide HJ; simp [intOf]; omega⟩
    · have z1 : ¬ (i : Int) < (n2 : Int) := by omega
      have hG2 : GPic w B2 gr gb (.slice a n c) (.slice ea en ec) V (es.map wEd) wr := by rw [List.take_of_length_le (by omega)] at hG; exact hG
      obtain ⟨d0, d1, d2, d3, -⟩ := cellsGr hG.box
      obtain ⟨r0, r1, r2, r3, rf⟩ := cellsGr hG.res
      have hat := set4r_at (show wr.heap[gr]? = some (.cells #[.slice none 0 0, .slice none 0 0, .int .i64 0, .int .i64 0] 34 (0, 0)) from hG.res) (.slice a n c) (.slice ea en ec) (.int .i64 0) (.int .i64 0)
      have ht := set4r_turned wr gr (.slice a n c) (.slice ea en ec) (.int .i64 0) (.int .i64 0)
      have HE : Hid ((set4r wr gr (.slice a n c) (.slice ea en ec) (.int .i64 0) (.int .i64 0)).heap[gr]? = some (.cells #[.slice a n c, .slice ea en ec, .int .i64 0, .int .i64 0] 34 (0, 0)) ∧ NRow (set4r wr gr (.slice a n c) (.slice ea en ec) (.int .i64 0) (.int .i64 0)) (.slice a n c) V ∧ ERow 0 (set4r wr gr (.slice a n c) (.slice ea en ec) (.int .i64 0) (.int .i64 0)) (.slice ea en ec) (es.map wEd) ∧ Below w.heap.size w (set4r wr gr (.slice a n c) (.slice ea en ec) (.int .i64 0) (.int .i64 0))) := by
        have b2 := hG2.b2
        refine ⟨hat, brow_at0 (brow_kept hG2.vs (fun b e => ht.block b (hG2.vs.lt b e).2 (hG2.lo b e).2.2)), rrow_low (rrow_kept hG2.es (fun b e => ht.block b (hG2.es.lt b e).2 (fun q => by have := (hG2.es.lt b e).1; omega))) (Nat.zero_le _), hG2.bl.trans (ht.below hG2.bl.size (fun b e => by omega))⟩
      clear HI i1 hG l1 l2 l3 hlt hG2 hat ht
      go_wp2_with fail
      change bodyPost _ _ _ _ _ (set4r wr gr (.slice a n c) (.slice ea en ec) (.int .i64 0) (.int .i64 0))
      refine bodyPost_ret (results_cell_row rfl _ _ gr 34 #[.slice a n c, .slice ea en ec, .int .i64 0, .int .i64 0] (0, 0) _ rfl (unhide HE).1 Try.underlying34 rfl (by kernel_rfl)) rfl ?_
      exact ⟨a, n, c, ea, en, ec, V, rfl, (unhide HP).1, (unhide HP).2, (unhide HE).2⟩
end

end Go.Proofs.Ytijgeoegeeejcaa
