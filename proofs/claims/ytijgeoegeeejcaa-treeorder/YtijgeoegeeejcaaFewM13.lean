/- An edge less, and lists turned round: what two trees say. -/
import Derived.Test.YtijgeoegeeejcaaLeastW13
namespace Go.Proofs.Ytijgeoegeeejcaa
open Go.RowKit Go.Maps
theorem Good.sub {ys : List Int} {es es' : List EdV} {s : Int} (h : Good ys es s) (hs : es'.Sublist es) : Good ys es' s :=
  ⟨h.nd, h.en.sublist (hs.map _), fun x hx => h.lo x (hs.subset hx), h.src, fun x hx => h.ends x (hs.subset hx), fun x hx => h.wt x (hs.subset hx)⟩
theorem wyF_mono {ys : List Int} {es es' : List EdV} (h : ∀ x ∈ es', x ∈ es) {p : Nat} {y : WyV} (hy : y ∈ wyF ys es' p) : y ∈ wyF ys es p := by
  obtain ⟨h1, x, h2, h3, h4⟩ := mem_wyF.1 hy
  exact mem_wyF.2 ⟨h1, x, h x h2, h3, h4⟩
section
variable {B1 B2 : Nat} {W1 W2 : World} {p1 p2 : Nat} {s : Int} {ys : List Int} {es1 es2 : List EdV} {ds1 ds2 : List DiV} {fs1 fs2 : List Int}
/-- Where the last edges of the one are there in the other, the other finds all of it, and nothing farther. -/
theorem trees_dom (h1 : TreeAt B1 W1 p1 s ys es1 ds1 fs1) (h2 : TreeAt B2 W2 p2 s ys es2 ds2 fs2) (hs : ∀ x ∈ es1, askC ys ds1 x.2.2.1 = 0 → askE ys ds1 x.2.2.1 = x.1 → x ∈ es2) :
    ∀ q, farAt ds1 q = false → farAt ds2 q = false ∧ bitsAt ds2 q ≤ bitsAt ds1 q := by
  obtain ⟨o1, d1⟩ := h1.dj
  obtain ⟨o2, d2⟩ := h2.dj
  refine d1.dom d2 (fun p y hy hf he => ?_) (fun p y hy => (h1.gk.win p y hy).2)
  obtain ⟨m0, x, m1, m2, m3⟩ := mem_wyF.1 hy
  have e1 : y.2.1 = plc ys x.2.2.1 := by rw [← m3]; rfl
  have e2 : y.1 = x.1 := by rw [← m3]; rfl
  rw [e1] at hf he
  have hc : askC ys ds1 x.2.2.1 = 0 := ask_ok.2 ⟨(h1.good.ends x m1).2, hf⟩
  have ha : askE ys ds1 x.2.2.1 = edgeAt ds1 (plc ys x.2.2.1) := if_pos hc
  exact mem_wyF.2 ⟨m0, x, hs x m1 hc (by rw [ha, ← he, e2]), m2, m3⟩
theorem ask_dom (hd : ∀ q, farAt ds1 q = false → farAt ds2 q = false ∧ bitsAt ds2 q ≤ bitsAt ds1 q) {v : Int} (h : askC ys ds1 v = 0) : askC ys ds2 v = 0 ∧ askB ys ds2 v ≤ askB ys ds1 v := by
  obtain ⟨h1, h2⟩ := ask_ok.1 h
  obtain ⟨g1, g2⟩ := hd _ h2
  have hc : askC ys ds2 v = 0 := ask_ok.2 ⟨h1, g1⟩
  have e1 : askB ys ds2 v = bitsAt ds2 (plc ys v) := if_pos hc
  have e2 : askB ys ds1 v = bitsAt ds1 (plc ys v) := if_pos h
  rw [e1, e2]; exact ⟨hc, g2⟩
theorem ask_two {ds : List DiV} {v : Int} (hv : v ∈ ys) : askC ys ds v = 0 ∨ askC ys ds v = 130 ∧ askB ys ds v = 0 := by
  unfold askB
  unfold askC
  rw [if_pos hv]
  cases farAt ds (plc ys v)
  · exact .inl rfl
  · exact .inr ⟨rfl, rfl⟩
/-- What is asked of both trees of a vertex, the second being without an edge. -/
theorem fewer_ask (h1 : TreeAt B1 W1 p1 s ys es1 ds1 fs1) (h2 : TreeAt B2 W2 p2 s ys es2 ds2 fs2) (hsub : ∀ x ∈ es2, x ∈ es1) {x0 : EdV} (hx0 : ∀ x ∈ es1, x = x0 ∨ x ∈ es2) {v : Int} (hv : v ∈ ys) :
    (askC ys ds1 v = 0 ∨ askC ys ds1 v = 130) ∧ (askC ys ds2 v = 0 ∨ askC ys ds2 v = 130) ∧ (askC ys ds2 v = 0 → askC ys ds1 v = 0 ∧ askB ys ds1 v ≤ askB ys ds2 v) ∧ (askE ys ds1 x0.2.2.1 ≠ x0.1 → askC ys ds1 v = askC ys ds2 v ∧ askB ys ds1 v = askB ys ds2 v) := by
  have d21 := trees_dom h2 h1 (fun x hx _ _ => hsub x hx)
  refine ⟨(ask_two hv).imp id And.left, (ask_two hv).imp id And.left, fun h => ask_dom d21 h, fun hne => ?_⟩
  have d12 := trees_dom h1 h2 (fun x hx _ he => (hx0 x hx).elim (fun e => absurd (by rw [← e]; exact he) hne) id)
  rcases ask_two (ds := ds1) hv with a | ⟨a, b⟩
  · obtain ⟨g1, g2⟩ := ask_dom d12 a
    obtain ⟨-, g3⟩ := ask_dom d21 g1
    exact ⟨by rw [a, g1], by omega⟩
  · rcases ask_two (ds := ds2) hv with c | ⟨c, d⟩
    · have := (ask_dom d21 c).1
      rw [a] at this; cases this
    · exact ⟨by rw [a, c], by rw [b, d]⟩
end
end Go.Proofs.Ytijgeoegeeejcaa
