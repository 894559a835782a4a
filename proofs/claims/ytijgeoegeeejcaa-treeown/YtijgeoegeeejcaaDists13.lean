/- Dists. -/
import Derived.Test.YtijgeoegeeejcaaLeastW13
namespace Go.Proofs.Ytijgeoegeeejcaa

section
open Go.RowKit Go.Maps
theorem Good.sub {ys : List Int} {es es' : List EdV} {s : Int} (h : Good ys es s) (hs : es'.Sublist es) : Good ys es' s :=
  ⟨h.nd, h.en.sublist (hs.map _), fun x hx => h.lo x (hs.subset hx), h.src, fun x hx => h.ends x (hs.subset hx), fun x hx => h.wt x (hs.subset hx)⟩
theorem wyF_mono {ys : List Int} {es es' : List EdV} (h : ∀ x ∈ es', x ∈ es) {p : Nat} {y : WyV} (hy : y ∈ wyF ys es' p) : y ∈ wyF ys es p := by
  obtain ⟨h1, x, h2, h3, h4⟩ := mem_wyF.1 hy
  exact mem_wyF.2 ⟨h1, x, h x h2, h3, h4⟩
section
variable {B1 B2 : Nat} {W1 W2 : World} {p1 p2 : Nat} {s : Int} {ys : List Int} {es1 es2 : List EdV} {ds1 ds2 : List DiV} {fs1 fs2 : List Int}
/-- Where the last edges of the one are there in the other, the other finds all of it, and nothing farther. -/
theorem trees_dom (h1 : TreeAt B1 W1 p1 s ys es1 ds1 fs1) (h2 : TreeAt B2 W2 p2 s ys es2 ds2 fs2) (hs : ∀ x ∈ es1, askC ys ds1 x.2.2.1 = 0 → askE ys ds1 x.2.2.1 = x.1 → x ∈ es2) :
    ∀ q, farAt ds1 q = false → farAt ds2 q = false ∧ bitsAt ds2 q ≤ bitsAt ds1 q := by
  obtain ⟨o1, d1⟩ := h1.dj
  obtain ⟨o2, d2⟩ := h2.dj
  refine d1.dom d2 (fun p y hy hf he => ?_) (fun p y hy => (h1.gk.win p y hy).2)
  obtain ⟨m0, x, m1, m2, m3⟩ := mem_wyF.1 hy
  have e1 : y.2.1 = plc ys x.2.2.1 := by rw [← m3]; rfl
  have e2 : y.1 = x.1 := by rw [← m3]; rfl
  rw [e1] at hf he
  have hc : askC ys ds1 x.2.2.1 = 0 := ask_ok.2 ⟨(h1.good.ends x m1).2, hf⟩
  have ha : askE ys ds1 x.2.2.1 = edgeAt ds1 (plc ys x.2.2.1) := if_pos hc
  exact mem_wyF.2 ⟨m0, x, hs x m1 hc (by rw [ha, ← he, e2]), m2, m3⟩
theorem ask_dom (hd : ∀ q, farAt ds1 q = false → farAt ds2 q = false ∧ bitsAt ds2 q ≤ bitsAt ds1 q) {v : Int} (h : askC ys ds1 v = 0) : askC ys ds2 v = 0 ∧ askB ys ds2 v ≤ askB ys ds1 v := by
  obtain ⟨h1, h2⟩ := ask_ok.1 h
  obtain ⟨g1, g2⟩ := hd _ h2
  have hc : askC ys ds2 v = 0 := ask_ok.2 ⟨h1, g1⟩
  have e1 : askB ys ds2 v = bitsAt ds2 (plc ys v) := if_pos hc
  have e2 : askB ys ds1 v = bitsAt ds1 (plc ys v) := if_pos h
  rw [e1, e2]; exact ⟨hc, g2⟩
theorem ask_two {ds : List DiV} {v : Int} (hv : v ∈ ys) : askC ys ds v = 0 ∨ askC ys ds v = 130 ∧ askB ys ds v = 0 := by
  unfold askB
  unfold askC
  rw [if_pos hv]
  cases farAt ds (plc ys v)
  · exact .inl rfl
  · exact .inr ⟨rfl, rfl⟩
/-- What is asked of both trees of a vertex, the second being without an edge. -/
theorem fewer_ask (h1 : TreeAt B1 W1 p1 s ys es1 ds1 fs1) (h2 : TreeAt B2 W2 p2 s ys es2 ds2 fs2) (hsub : ∀ x ∈ es2, x ∈ es1) {x0 : EdV} (hx0 : ∀ x ∈ es1, x = x0 ∨ x ∈ es2) {v : Int} (hv : v ∈ ys) :
    (askC ys ds1 v = 0 ∨ askC ys ds1 v = 130) ∧ (askC ys ds2 v = 0 ∨ askC ys ds2 v = 130) ∧ (askC ys ds2 v = 0 → askC ys ds1 v = 0 ∧ askB ys ds1 v ≤ askB ys ds2 v) ∧ (askE ys ds1 x0.2.2.1 ≠ x0.1 → askC ys ds1 v = askC ys ds2 v ∧ askB ys ds1 v = askB ys ds2 v) := by
  have d21 := trees_dom h2 h1 (fun x hx _ _ => hsub x hx)
  refine ⟨(ask_two hv).imp id And.left, (ask_two hv).imp id And.left, fun h => ask_dom d21 h, fun hne => ?_⟩
  have d12 := trees_dom h1 h2 (fun x hx _ he => (hx0 x hx).elim (fun e => absurd (by rw [← e]; exact he) hne) id)
  rcases ask_two (ds := ds1) hv with a | ⟨a, b⟩
  · obtain ⟨g1, g2⟩ := ask_dom d12 a
    obtain ⟨-, g3⟩ := ask_dom d21 g1
    exact ⟨by rw [a, g1], by omega⟩
  · rcases ask_two (ds := ds2) hv with c | ⟨c, d⟩
    · have := (ask_dom d21 c).1
      rw [a] at this; cases this
    · exact ⟨by rw [a, c], by rw [b, d]⟩
end
end

section
open Go.RowKit Go.Maps
theorem drow_new (w : World) : DRow w.heap.size (w.alloc (.cells #[] 48)) (.slice (some ⟨w.heap.size, 0, none⟩) 0 0) [] := by
  refine ⟨rfl, .inr ⟨w.heap.size, 0, #[], rfl, Nat.le_refl _, heap_alloc_new _ _, Nat.le_refl _, by unfold maxLen; omega, rfl, rfl⟩⟩
def DistsAns (w : World) (ds : List DiV) (v : Value) (w' : World) : Prop := DRow w.heap.size w' v ds ∧ Below w.heap.size w w'
set_option maxHeartbeats 1000000 in
set_option maxRecDepth 100000 in
theorem cloneD {B g n c : Nat} {w : World} {ds : List DiV} (h : DRow B w (.slice (some ⟨g, 0, none⟩) n c) ds) (hl : ds.length ≤ 1000) :
    Calls Try.prog 38 #[.slice (some ⟨g, 0, none⟩) n c] w fun e w' => ∃ a n c, e = .returned (.slice a n c) ∧ Hid (DistsAns w ds (.slice a n c) w') := by
  have hb := below_new w (.cells #[] 48)
  have hn := rrow_len h
  have h1 := rrow_below h hb
  obtain ⟨a', n', c', w', r, g1, g2, -⟩ := run_appR (ts := 45) (ad := ⟨g, 0, none⟩) (c := c) (ys := ds) kitD Try.underlying45 infoD rfl (by omega) (drow_new w) hb.size (fun j u hj => h1.cells (g := g) rfl j u hj) (by simp; omega)
  rw [← hn, List.nil_append] at *
  have HR := hide r
  have HE : Hid (DistsAns w ds (.slice a' n' c') w') := ⟨g1, hb.trans (g2.below hb.size (fun b e => by have e2 : w.heap.size = b := Option.some.inj e; omega))⟩
  have qD : ∀ (w : World) (a : Option Addr) (n c n' c' : Nat), (binOp .eql 45 (.slice a n c) (.slice none n' c')).run Try.prog w = .ok (.bool a.isNone) w := fun w a n c n' c' => Lib.run_eql_slice_nil w _ _ a n c n' c' Try.underlying45
  clear h hl hb h1 hn r g1 g2
  go_enter Try.func38, Try.ntmps38
  go_wp2_with (at_builtin; refine Lib.wpList_append_run _ rfl _ _ 45 45 rfl _ _ rfl rfl _ _ (unhide HR _) ?_)
  go_ret
  exact ⟨_, _, _, rfl, HE⟩
set_option maxHeartbeats 1000000 in
theorem distsT {B : Nat} {W : World} {p : Nat} {s : Int} {ys : List Int} {es : List EdV} {ds : List DiV} {fs : List Int} (h : TreeAt B W p s ys es ds fs) :
    Calls Try.prog 18 #[.pointer (some ⟨p, 0, none⟩)] W fun e w' => ∃ a n c, e = .returned (.slice a n c) ∧ Hid (DistsAns W ds (.slice a n c) w') := by
  obtain ⟨gd, c, gf, c', hT⟩ := h.shape
  obtain ⟨-, k1, -, -⟩ := cellsT hT.box
  have C1 := hide (cloneD hT.ds_ (by rw [h.dl]; exact h.gk.len))
  generalize ys.length = n at *
  clear hT h
  go_enter Try.func18, Try.ntmps18
  go_wp2_with fail
  refine (unhide C1).mono ?_
  rintro e w1 ⟨a1, n1, c1, rfl, H1⟩
  clear C1
  go_wp2_with fail
  go_ret
  exact ⟨_, _, _, rfl, H1⟩
theorem fault_perm {ys : List Int} {es es' : List EdV} {s : Int} (h : es.Perm es') : faultC ys es s = faultC ys es' s := by
  unfold faultC
  have e1 : decide (es.map (·.1)).Nodup = decide (es'.map (·.1)).Nodup := decide_eq_decide.2 (h.map _).nodup_iff
  rw [e1, h.any_eq, h.any_eq, h.any_eq]
theorem order_same {B1 B2 : Nat} {W1 W2 : World} {p1 p2 : Nat} {s : Int} {ys : List Int} {es1 es2 : List EdV} {ds1 ds2 : List DiV} {fs1 fs2 : List Int} (h1 : TreeAt B1 W1 p1 s ys es1 ds1 fs1) (h2 : TreeAt B2 W2 p2 s ys es2 ds2 fs2) (hp : es1.Perm es2) (i : Nat) (hi : i < ys.length) :
    ∃ v f b e1 e2, ds1[i]? = some (v, f, b, e1) ∧ ds2[i]? = some (v, f, b, e2) := by
  have d12 := trees_dom h1 h2 (fun x hx _ _ => hp.mem_iff.1 hx)
  have d21 := trees_dom h2 h1 (fun x hx _ _ => hp.mem_iff.2 hx)
  obtain ⟨o1, j1⟩ := h1.dj
  obtain ⟨o2, j2⟩ := h2.dj
  obtain ⟨e1, e2⟩ := j1.same j2 d12 d21 i
  obtain ⟨x, hx⟩ : ∃ x, ds1[i]? = some x := ⟨_, List.getElem?_eq_getElem (by rw [j1.dl]; exact hi)⟩
  obtain ⟨y, hy⟩ : ∃ y, ds2[i]? = some y := ⟨_, List.getElem?_eq_getElem (by rw [j2.dl]; exact hi)⟩
  have hv : x.1 = y.1 := by
    have a1 : (ds1.map (·.1))[i]? = some x.1 := by rw [List.getElem?_map, hx]; rfl
    have a2 : (ds2.map (·.1))[i]? = some y.1 := by rw [List.getElem?_map, hy]; rfl
    rw [j1.vs] at a1
    rw [j2.vs, a1] at a2
    exact Option.some.inj a2
  unfold farAt at e1
  unfold bitsAt at e2
  rw [List.getD_eq_getElem?_getD, List.getD_eq_getElem?_getD, hx, hy] at e1 e2
  obtain ⟨xv, xf, xb, xe⟩ := x
  obtain ⟨yv, yf, yb, ye⟩ := y
  have e1' : xf = yf := e1
  have e2' : xb = yb := e2
  have hv' : xv = yv := hv
  subst e1' e2' hv'
  exact ⟨_, _, _, _, _, hx, hy⟩
end

end Go.Proofs.Ytijgeoegeeejcaa
