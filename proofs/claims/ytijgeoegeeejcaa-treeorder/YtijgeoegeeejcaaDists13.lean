/- Dists. -/
import Derived.Test.YtijgeoegeeejcaaFewM13
namespace Go.Proofs.Ytijgeoegeeejcaa
open Go.RowKit Go.Maps
theorem drow_new (w : World) : DRow w.heap.size (w.alloc (.cells #[] 48)) (.slice (some ⟨w.heap.size, 0, none⟩) 0 0) [] := by
  refine ⟨rfl, .inr ⟨w.heap.size, 0, #[], rfl, Nat.le_refl _, heap_alloc_new _ _, Nat.le_refl _, by unfold maxLen; omega, rfl, rfl⟩⟩
def DistsAns (w : World) (ds : List DiV) (v : Value) (w' : World) : Prop := DRow w.heap.size w' v ds ∧ Below w.heap.size w w'
set_option maxHeartbeats 1000000 in
set_option maxRecDepth 100000 in
theorem cloneD {B g n c : Nat} {w : World} {ds : List DiV} (h : DRow B w (.slice (some ⟨g, 0, none⟩) n c) ds) (hl : ds.length ≤ 1000) :
    Calls Try.prog 38 #[.slice (some ⟨g, 0, none⟩) n c] w fun e w' => ∃ a n c, e = .returned (.slice a n c) ∧ Hid (DistsAns w ds (.slice a n c) w') := by
  have hb := below_new w (.cells #[] 48)
  have hn := rrow_len h
  have h1 := rrow_below h hb
  obtain ⟨a', n', c', w', r, g1, g2, -⟩ := run_appR (ts := 45) (ad := ⟨g, 0, none⟩) (c := c) (ys := ds) kitD Try.underlying45 infoD rfl (by omega) (drow_new w) hb.size (fun j u hj => h1.cells (g := g) rfl j u hj) (by simp; omega)
  rw [← hn, List.nil_append] at *
  have HR := hide r
  have HE : Hid (DistsAns w ds (.slice a' n' c') w') := ⟨g1, hb.trans (g2.below hb.size (fun b e => by have e2 : w.heap.size = b := Option.some.inj e; omega))⟩
  have qD : ∀ (w : World) (a : Option Addr) (n c n' c' : Nat), (binOp .eql 45 (.slice a n c) (.slice none n' c')).run Try.prog w = .ok (.bool a.isNone) w := fun w a n c n' c' => Lib.run_eql_slice_nil w _ _ a n c n' c' Try.underlying45
  clear h hl hb h1 hn r g1 g2
  go_enter Try.func38, Try.ntmps38
  go_wp2_with (at_builtin; refine Lib.wpList_append_run _ rfl _ _ 45 45 rfl _ _ rfl rfl _ _ (unhide HR _) ?_)
  go_ret
  exact ⟨_, _, _, rfl, HE⟩
set_option maxHeartbeats 1000000 in
theorem distsT {B : Nat} {W : World} {p : Nat} {s : Int} {ys : List Int} {es : List EdV} {ds : List DiV} {fs : List Int} (h : TreeAt B W p s ys es ds fs) :
    Calls Try.prog 18 #[.pointer (some ⟨p, 0, none⟩)] W fun e w' => ∃ a n c, e = .returned (.slice a n c) ∧ Hid (DistsAns W ds (.slice a n c) w') := by
  obtain ⟨gd, c, gf, c', hT⟩ := h.shape
  obtain ⟨-, k1, -, -⟩ := cellsT hT.box
  have C1 := hide (cloneD hT.ds_ (by rw [h.dl]; exact h.gk.len))
  generalize ys.length = n at *
  clear hT h
  go_enter Try.func18, Try.ntmps18
  go_wp2_with fail
  refine (unhide C1).mono ?_
  rintro e w1 ⟨a1, n1, c1, rfl, H1⟩
  clear C1
  go_wp2_with fail
  go_ret
  exact ⟨_, _, _, rfl, H1⟩
theorem fault_perm {ys : List Int} {es es' : List EdV} {s : Int} (h : es.Perm es') : faultC ys es s = faultC ys es' s := by
  unfold faultC
  have e1 : decide (es.map (·.1)).Nodup = decide (es'.map (·.1)).Nodup := decide_eq_decide.2 (h.map _).nodup_iff
  rw [e1, h.any_eq, h.any_eq, h.any_eq]
theorem order_same {B1 B2 : Nat} {W1 W2 : World} {p1 p2 : Nat} {s : Int} {ys : List Int} {es1 es2 : List EdV} {ds1 ds2 : List DiV} {fs1 fs2 : List Int} (h1 : TreeAt B1 W1 p1 s ys es1 ds1 fs1) (h2 : TreeAt B2 W2 p2 s ys es2 ds2 fs2) (hp : es1.Perm es2) (i : Nat) (hi : i < ys.length) :
    ∃ v f b e1 e2, ds1[i]? = some (v, f, b, e1) ∧ ds2[i]? = some (v, f, b, e2) := by
  have d12 := trees_dom h1 h2 (fun x hx _ _ => hp.mem_iff.1 hx)
  have d21 := trees_dom h2 h1 (fun x hx _ _ => hp.mem_iff.2 hx)
  obtain ⟨o1, j1⟩ := h1.dj
  obtain ⟨o2, j2⟩ := h2.dj
  obtain ⟨e1, e2⟩ := j1.same j2 d12 d21 i
  obtain ⟨x, hx⟩ : ∃ x, ds1[i]? = some x := ⟨_, List.getElem?_eq_getElem (by rw [j1.dl]; exact hi)⟩
  obtain ⟨y, hy⟩ : ∃ y, ds2[i]? = some y := ⟨_, List.getElem?_eq_getElem (by rw [j2.dl]; exact hi)⟩
  have hv : x.1 = y.1 := by
    have a1 : (ds1.map (·.1))[i]? = some x.1 := by rw [List.getElem?_map, hx]; rfl
    have a2 : (ds2.map (·.1))[i]? = some y.1 := by rw [List.getElem?_map, hy]; rfl
    rw [j1.vs] at a1
    rw [j2.vs, a1] at a2
    exact Option.some.inj a2
  unfold farAt at e1
  unfold bitsAt at e2
  rw [List.getD_eq_getElem?_getD, List.getD_eq_getElem?_getD, hx, hy] at e1 e2
  obtain ⟨xv, xf, xb, xe⟩ := x
  obtain ⟨yv, yf, yb, ye⟩ := y
  have e1' : xf = yf := e1
  have e2' : xb = yb := e2
  have hv' : xv = yv := hv
  subst e1' e2' hv'
  exact ⟨_, _, _, _, _, hx, hy⟩
end Go.Proofs.Ytijgeoegeeejcaa
