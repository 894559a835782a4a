/- What whole compares, as mathematics: heads and arcs of both sides are the same lists. -/
import Derived.Test.YtkmhcgmmbkchaaaGreatRA10
namespace Go.Proofs.YtkmhcgmmbkchaaaGreat
open Go.RowKit Go.Maps T9
theorem lex_ext {l l' : List (Int × Int)} (h1 : l.Pairwise lexLt) (h2 : l'.Pairwise lexLt) (h : ∀ x, x ∈ l ↔ x ∈ l') : l = l' := by
  induction l generalizing l' with
  | nil => cases l' with
    | nil => rfl
    | cons b l' => exact absurd ((h b).2 List.mem_cons_self) (by simp)
  | cons a l ih =>
    cases l' with
    | nil => exact absurd ((h a).1 List.mem_cons_self) (by simp)
    | cons b l' =>
      obtain ⟨p1, p2⟩ := List.pairwise_cons.1 h1
      obtain ⟨q1, q2⟩ := List.pairwise_cons.1 h2
      have irr : ∀ x : Int × Int, ¬ lexLt x x := fun x q => by unfold lexLt at q; omega
      have asym : ∀ x y : Int × Int, lexLt x y → ¬ lexLt y x := fun x y q q' => by unfold lexLt at q q'; omega
      have e : a = b := by
        rcases List.mem_cons.1 ((h a).1 List.mem_cons_self) with e | e
        · exact e
        · rcases List.mem_cons.1 ((h b).2 List.mem_cons_self) with e' | e'
          · exact e'.symm
          · exact absurd (q1 a e) (asym _ _ (p1 b e'))
      subst e
      congr 1
      refine ih p2 q2 (fun x => ?_)
      constructor
      · intro hx
        rcases List.mem_cons.1 ((h x).1 (List.mem_cons_of_mem _ hx)) with e | e
        · subst e; exact absurd (p1 x hx) (irr x)
        · exact e
      · intro hx
        rcases List.mem_cons.1 ((h x).2 (List.mem_cons_of_mem _ hx)) with e | e
        · subst e; exact absurd (q1 x hx) (irr x)
        · exact e
section
variable {V : List Int} {es : List EdV} {h : Nat → Nat} {S : List (Part Int)} {N : Nat}
theorem hd0_at {l : List (Int × Int)} (H : Heads (nextOf V l) V.length h) {i : Nat} (hi : i < (compsV V h V.length).length) : ∃ m, (headsTo h V.length)[i]? = some m ∧ m < V.length ∧ hd0 (compsV V h V.length) i = V.getD m 0 := by
  obtain ⟨cs, hcs⟩ : ∃ cs, (compsV V h V.length)[i]? = some cs := ⟨_, List.getElem?_eq_getElem hi⟩
  obtain ⟨m, hm, e⟩ := comp_at9.1 hcs
  obtain ⟨t, et⟩ := part_first9 H (List.mem_of_getElem? hm)
  refine ⟨m, hm, (mem_partTo.1 (by rw [et]; exact List.mem_cons_self : m ∈ partTo h V.length m)).1, ?_⟩
  unfold hd0
  rw [List.getD_eq_getElem?_getD, hcs, e, et]
  rfl
theorem hd0_rise {l : List (Int × Int)} (hs : V.Pairwise (· < ·)) (H : Heads (nextOf V l) V.length h) (i j : Nat) (hij : i < j) (hj : j < (compsV V h V.length).length) : hd0 (compsV V h V.length) i < hd0 (compsV V h V.length) j := by
  obtain ⟨m, h1, h2, h3⟩ := hd0_at H (show i < (compsV V h V.length).length by omega)
  obtain ⟨m', h4, h5, h6⟩ := hd0_at H hj
  have hlt : m < m' := by
    have q1 := heads_lt9 h1 h4 (by omega)
    rcases Nat.lt_or_ge m m' with q | q
    · exact q
    · obtain rfl : m = m' := by omega
      have := heads_one h1 h4
      omega
  rw [h3, h6, List.getD_eq_getElem?_getD, List.getD_eq_getElem?_getD, List.getElem?_eq_getElem h2, List.getElem?_eq_getElem h5]
  exact List.pairwise_iff_getElem.1 hs m m' h2 h5 hlt
/-- The list of heads. -/
def hdsOf (css : List (List Int)) : List Int := css.map (fun l => l.headD 0)
theorem hds_rise {l : List (Int × Int)} (hs : V.Pairwise (· < ·)) (H : Heads (nextOf V l) V.length h) : (hdsOf (compsV V h V.length)).Pairwise (· < ·) := by
  rw [List.pairwise_iff_getElem]
  intro i j hi hj hij
  unfold hdsOf at hi hj ⊢
  rw [List.length_map] at hi hj
  have := hd0_rise hs H i j hij hj
  unfold hd0 at this
  rw [List.getD_eq_getElem?_getD, List.getD_eq_getElem?_getD, List.getElem?_eq_getElem hi, List.getElem?_eq_getElem hj] at this
  simpa using this
theorem part_comp (hG : GOk V es N) (H : Heads (nextOf V (arcsE es)) V.length h) (h2 : SameC S V es) (hF : Fam ltN okN S) {x : Part Int} (hx : x ∈ S) : x.ks ∈ compsV V h V.length := by
  obtain ⟨u, t, e⟩ : ∃ u t, x.ks = u :: t := List.exists_cons_of_ne_nil (hF.some_ x hx)
  have hu : u ∈ x.ks := by rw [e]; exact List.mem_cons_self
  obtain ⟨i, cs, hi⟩ := ask_in hG H (h2.self.1 ⟨x, hx, hu, hu⟩)
  rw [ask_members h2 hi hF hx hu]
  exact List.mem_of_getElem? hi.at_
theorem comp_one (hG : GOk V es N) {u : Int} {i j : Nat} {cs ds : List Int} (hi : AskIn V es (compsV V h V.length) u i cs) (hj : (compsV V h V.length)[j]? = some ds) (hu : u ∈ V) (hd : u ∈ ds) : i = j := by
  have hc : u ∈ cs := (hi.mem u).2 ⟨hu, Mut.refl _ _⟩
  rcases Nat.lt_trichotomy i j with q | q | q
  · exact absurd hd (comps_apart hG.rise hi.at_ hj q hc)
  · exact q
  · exact absurd hc (comps_apart hG.rise hj hi.at_ q hd)
theorem comp_part (hG : GOk V es N) (H : Heads (nextOf V (arcsE es)) V.length h) (h2 : SameC S V es) (hF : Fam ltN okN S) {cs : List Int} (hc : cs ∈ compsV V h V.length) : ∃ x ∈ S, x.ks = cs := by
  obtain ⟨u, t, e⟩ := comps_some H hc
  have hu : u ∈ cs := by rw [e]; exact List.mem_cons_self
  have huV := comps_in hc hu
  obtain ⟨j, hj⟩ := List.getElem?_of_mem hc
  obtain ⟨i, ds, hi⟩ := ask_in hG H huV
  obtain rfl := comp_one hG hi hj huV hu
  obtain ⟨x, hx, hux, -⟩ := h2.self.2 huV
  refine ⟨x, hx, ?_⟩
  rw [ask_members h2 hi hF hx hux]
  exact Option.some.inj (hi.at_.symm.trans hj)
theorem heads_same (hG : GOk V es N) (H : Heads (nextOf V (arcsE es)) V.length h) (h2 : SameC S V es) (hF : Fam ltN okN S) {ys : List Int} (hy : ys.Pairwise (· < ·)) (hm : ∀ k, k ∈ ys ↔ ∃ x ∈ S, x.ks.headD (0 : Int) = k) : ys = hdsOf (compsV V h V.length) := by
  refine rise_ext hy (hds_rise hG.rise H) (fun k => ?_)
  rw [hm k]
  unfold hdsOf
  rw [List.mem_map]
  constructor
  · rintro ⟨x, hx, e⟩
    exact ⟨_, part_comp hG H h2 hF hx, e⟩
  · rintro ⟨cs, hc, e⟩
    obtain ⟨x, hx, e2⟩ := comp_part hG H h2 hF hc
    exact ⟨x, hx, by rw [e2]; exact e⟩
theorem hd0_of {css : List (List Int)} {i : Nat} {k : Int} {t : List Int} (hi : css[i]? = some (k :: t)) : hd0 css i = k := by
  unfold hd0
  rw [List.getD_eq_getElem?_getD, hi]; rfl
theorem hd_in (hG : GOk V es N) (H : Heads (nextOf V (arcsE es)) V.length h) (h2 : SameC S V es) {u p : Int} (hu : u ∈ V) (hp : Hd S u p) : ∃ i : Nat, i < (compsV V h V.length).length ∧ compAt (compsV V h V.length) u = (i : Int) ∧ hd0 (compsV V h V.length) i = p := by
  obtain ⟨i, cs, hi⟩ := ask_in hG H hu
  rcases hp with ⟨-, q⟩ | ⟨q1, q2⟩
  · exact absurd (h2.self.2 hu) q
  · obtain ⟨t, e⟩ := ask_head h2 hu hi q1 q2
    refine ⟨i, (List.getElem?_eq_some_iff.1 hi.at_).1, hi.comp, hd0_of (t := t) (by rw [← e]; exact hi.at_)⟩
theorem hd_out (hG : GOk V es N) (H : Heads (nextOf V (arcsE es)) V.length h) (h2 : SameC S V es) {u : Int} (hu : u ∈ V) {i : Nat} (hc : compAt (compsV V h V.length) u = (i : Int)) : Hd S u (hd0 (compsV V h V.length) i) := by
  obtain ⟨i', cs, hi⟩ := ask_in hG H hu
  rw [hi.comp] at hc
  obtain rfl : i' = i := by omega
  obtain ⟨k, t, e⟩ := comps_some H (List.mem_of_getElem? hi.at_)
  rw [hd0_of (t := t) (by rw [← e]; exact hi.at_)]
  refine .inr ⟨(h2 u k).2 ⟨hu, (hi.mem k).1 (by rw [e]; exact List.mem_cons_self)⟩, fun y hy => ?_⟩
  have hy' := (hi.mem y).2 ((h2 u y).1 hy).2
  have hr := hi.rise
  rw [e] at hy' hr
  rcases List.mem_cons.1 hy' with q | q
  · omega
  · have := (List.pairwise_cons.1 hr).1 y q; omega
theorem arcs_same (hG : GOk V es N) (H : Heads (nextOf V (arcsE es)) V.length h) (h2 : SameC S V es) {l : List (Int × Int)} (hl : l.Pairwise lexLt) (hm : ∀ p q, (p, q) ∈ l ↔ Betw S (arcF es) p q) : l = arcA (compsV V h V.length) es (compsV V h V.length).length := by
  refine lex_ext hl (arcA_rise (fun i j => hd0_rise hG.rise H i j) (Nat.le_refl _)) (fun a => ?_)
  obtain ⟨p, q⟩ := a
  rw [hm p q, arcA_mem]
  constructor
  · rintro ⟨e, u, v, h1, h3, h4, h5, h6⟩
    obtain ⟨x, hx, e1, e2⟩ := arcF_some h3
    injection e2 with e2 e3
    obtain ⟨hu, hv⟩ := hG.end1 hx
    rw [← e2] at hu
    rw [← e3] at hv
    obtain ⟨i, i1, i2, i3⟩ := hd_in hG H h2 hu h4
    obtain ⟨j, j1, j2, j3⟩ := hd_in hG H h2 hv h5
    refine ⟨i, j, i1, j1, edB_iff.2 ⟨fun z => h6 (by rw [← i3, ← j3, z]), x, hx, by rw [← e2]; exact i2, by rw [← e3]; exact j2⟩, by rw [i3, j3]⟩
  · rintro ⟨i, j, i1, j1, hb, e⟩
    injection e with e1 e2
    obtain ⟨hne, x, hx, c1, c2⟩ := edB_iff.1 hb
    obtain ⟨hu, hv⟩ := hG.end1 hx
    refine ⟨x.1, x.2.1, x.2.2.1, hG.okE x hx, arcF_mem hG.uni hx, by rw [e1]; exact hd_out hG H h2 hu c1, by rw [e2]; exact hd_out hG H h2 hv c2, fun z => ?_⟩
    rw [e1, e2] at z
    rcases Nat.lt_trichotomy i j with y | y | y
    · have := hd0_rise hG.rise H i j y j1; omega
    · exact hne y
    · have := hd0_rise hG.rise H j i y i1; omega
end
end Go.Proofs.YtkmhcgmmbkchaaaGreat
