/- Path, Dists. -/
import Derived.Test.YtbmcibofecigeaaWysW13
import Derived.BigQuiet
import Derived.Deep.LoopGhost
namespace Go.Proofs.Ytbmcibofecigeaa

section
open Go.RowKit Go.Maps
abbrev d0 : DiV := (0, true, 0, 0)
def farAt (ds : List DiV) (p : Nat) : Bool := (ds.getD p d0).2.1
def bitsAt (ds : List DiV) (p : Nat) : Nat := (ds.getD p d0).2.2.1
def edgeAt (ds : List DiV) (p : Nat) : Int := (ds.getD p d0).2.2.2
theorem getD_set {ds : List DiV} {q : Nat} (hq : q < ds.length) (d : DiV) (p : Nat) : (ds.set q d).getD p d0 = if p = q then d else ds.getD p d0 := by
  rw [List.getD_eq_getElem?_getD, List.getD_eq_getElem?_getD]
  by_cases h : p = q
  · subst h; rw [if_pos rfl, List.getElem?_set_self hq]; rfl
  · rw [if_neg h, List.getElem?_set_ne (fun e => h e.symm)]
theorem far_lt {ds : List DiV} {p : Nat} (h : farAt ds p = false) : p < ds.length := by
  rcases Nat.lt_or_ge p ds.length with q | q
  · exact q
  · unfold farAt at h
    rw [List.getD_eq_getElem?_getD, List.getElem?_eq_none q] at h; cases h
theorem mem_lowered {k : Int} {r : Nat} {ms : List EntF} {x : EntF} (h : x ∈ lowered k r ms) : ∃ y ∈ ms, x.key = y.key ∧ (y.key = k → x.rank = r) ∧ (y.key ≠ k → x = y) := by
  unfold lowered at h
  obtain ⟨y, hy, rfl⟩ := List.mem_map.1 h
  by_cases e : y.key = k
  · rw [if_pos e]; exact ⟨y, hy, rfl, fun _ => rfl, fun z => absurd e z⟩
  · rw [if_neg e]; exact ⟨y, hy, rfl, fun z => absurd z e, fun _ => rfl⟩
theorem lowered_mem {k : Int} {r : Nat} {ms : List EntF} {y : EntF} (h : y ∈ ms) : ∃ x ∈ lowered k r ms, x.key = y.key := by
  refine ⟨_, List.mem_map.2 ⟨y, h, rfl⟩, ?_⟩
  by_cases e : y.key = k
  · rw [if_pos e]
  · rw [if_neg e]
/-- The search in the midst: ord are settled, in that order; ms are waiting; of the place at the first k ways were gone. -/
structure Dj (n : Nat) (W : Nat → List WyV) (st : Nat) (ys : List Int) (ds : List DiV) (fs : List Int) (ord : List Nat) (ms : List EntF) (at_ k : Nat) : Prop where
  dl : ds.length = n
  fl : fs.length = n
  nd : ord.Nodup
  oin : ∀ p ∈ ord, p < n ∧ farAt ds p = false ∧ ∀ x ∈ ms, x.key ≠ (p : Int)
  min_ : ∀ x ∈ ms, ∃ p : Nat, p < n ∧ x.key = (p : Int) ∧ farAt ds p = false ∧ bitsAt ds p = x.rank
  cov : ∀ p, p < n → farAt ds p = false → p ∈ ord ∨ ∃ x ∈ ms, x.key = (p : Int)
  le_ : ∀ p, bitsAt ds p ≤ 2139095040
  mono : ∀ p ∈ ord, ∀ x ∈ ms, bitsAt ds p ≤ x.rank
  top : at_ < n → ∀ p ∈ ord, bitsAt ds p ≤ bitsAt ds at_
  han : ∀ p ∈ ord, ∀ (j : Nat) (y : WyV), (W p)[j]? = some y → (p = at_ → j < k) → farAt ds y.2.1 = false ∧ bitsAt ds y.2.1 ≤ M.addC (bitsAt ds p) y.2.2
  src : st < n ∧ farAt ds st = false ∧ bitsAt ds st = 0 ∧ edgeAt ds st = 0
  hang : ∀ q, q < n → farAt ds q = false → q ≠ st → ∃ p ∈ ord, ∃ y ∈ W p, y.2.1 = q ∧ y.1 = edgeAt ds q ∧ bitsAt ds q = M.addC (bitsAt ds p) y.2.2 ∧ fs[q]? = some (p : Int) ∧ (q ∈ ord → ord.idxOf p < ord.idxOf q)
  farz : ∀ q, farAt ds q = true → bitsAt ds q = 0 ∧ edgeAt ds q = 0
  vs : ds.map (·.1) = ys
section
variable {n : Nat} {W : Nat → List WyV} {st : Nat} {ys : List Int} {ds : List DiV} {fs : List Int} {ord : List Nat} {ms : List EntF} {at_ k : Nat}
theorem bare_at (s : Int) (ys : List Int) {p : Nat} {v : Int} (h : ys[p]? = some v) : (bareD s ys).getD p d0 = (v, v != s, 0, 0) := by
  unfold bareD
  rw [List.getD_eq_getElem?_getD, List.getElem?_map, h]; rfl
theorem plc_at {ys : List Int} (hr : ys.Pairwise (· < ·)) {p : Nat} {v : Int} (h : ys[p]? = some v) : plc ys v = p := by
  have hl := (List.getElem?_eq_some_iff.1 h).1
  have e1 : ys = ys.take p ++ ys.drop p := (List.take_append_drop p ys).symm
  unfold plc
  have h1 : (ys.take p).countP (fun x => decide (x < v)) = p := by
    have : (ys.take p).countP (fun x => decide (x < v)) = (ys.take p).length := List.countP_eq_length.2 (fun x hx => by
      obtain ⟨i, hi⟩ := List.mem_iff_getElem?.1 hx
      have hi2 := (List.getElem?_eq_some_iff.1 hi).1
      rw [List.length_take] at hi2
      rw [List.getElem?_take_of_lt (by omega)] at hi
      have := List.pairwise_iff_getElem.1 hr i p (by omega) hl (by omega)
      rw [(List.getElem?_eq_some_iff.1 hi).2, (List.getElem?_eq_some_iff.1 h).2] at this
      simpa using this)
    rw [this, List.length_take]; omega
  have h2 : (ys.drop p).countP (fun x => decide (x < v)) = 0 := List.countP_eq_zero.2 (fun x hx => by
    obtain ⟨i, hi⟩ := List.mem_iff_getElem?.1 hx
    rw [List.getElem?_drop] at hi
    have hi2 := (List.getElem?_eq_some_iff.1 hi).1
    rcases Nat.eq_zero_or_pos i with q | q
    · subst q
      rw [Nat.add_zero, h] at hi
      injection hi with hi
      simp [hi]
    · have := List.pairwise_iff_getElem.1 hr p (p + i) hl hi2 (by omega)
      rw [(List.getElem?_eq_some_iff.1 hi).2, (List.getElem?_eq_some_iff.1 h).2] at this
      simp; omega)
  rw [e1, List.countP_append, h1, h2, Nat.add_zero]
theorem at_plc {ys : List Int} (hr : ys.Pairwise (· < ·)) {v : Int} (hv : v ∈ ys) : ys[plc ys v]? = some v := by
  obtain ⟨i, hi⟩ := List.mem_iff_getElem?.1 hv
  rw [plc_at hr hi]; exact hi
theorem dj_start {s : Int} (hr : ys.Pairwise (· < ·)) (hs : s ∈ ys) : Dj ys.length W (plc ys s) ys (bareD s ys) (List.replicate ys.length 0) [] [⟨(plc ys s : Int), 0, 0⟩] ys.length 0 := by
  have hst := at_plc hr hs
  have hlt := plc_lt hs
  have hfar : ∀ p, farAt (bareD s ys) p = false → p = plc ys s := fun p h => by
    have hp := far_lt h
    unfold bareD at hp
    rw [List.length_map] at hp
    obtain ⟨v, hv⟩ : ∃ v, ys[p]? = some v := ⟨_, List.getElem?_eq_getElem hp⟩
    unfold farAt at h
    rw [bare_at s ys hv] at h
    have e : v = s := by simpa using h
    rw [← e, plc_at hr hv]
  have hz : ∀ p, bitsAt (bareD s ys) p = 0 ∧ edgeAt (bareD s ys) p = 0 := fun p => by
    unfold bitsAt edgeAt
    rcases Nat.lt_or_ge p ys.length with q | q
    · rw [bare_at s ys (List.getElem?_eq_getElem q)]; exact ⟨rfl, rfl⟩
    · rw [List.getD_eq_getElem?_getD, List.getElem?_eq_none (by unfold bareD; rw [List.length_map]; exact q)]; exact ⟨rfl, rfl⟩
  have hs0 : farAt (bareD s ys) (plc ys s) = false := by unfold farAt; rw [bare_at s ys hst]; simp
  refine ⟨by unfold bareD; simp, by simp, .nil, fun p hp => (by cases hp), fun x hx => ?_, fun p _ hf => .inr ⟨_, List.mem_singleton.2 rfl, by rw [hfar p hf]⟩, fun p => by rw [(hz p).1]; omega, fun p hp => (by cases hp), fun h => absurd h (Nat.lt_irrefl _), fun p hp => (by cases hp), ⟨hlt, hs0, (hz _).1, (hz _).2⟩, fun q _ hf hne => absurd (hfar q hf) hne, fun q _ => hz q, ?_⟩
  · rw [List.mem_singleton.1 hx]; exact ⟨plc ys s, hlt, rfl, hs0, (hz _).1⟩
  · unfold bareD; rw [List.map_map]; exact List.map_id' ys
/-- The nearest of those that wait is settled. -/
theorem Dj.pop (h : Dj n W st ys ds fs ord ms n 0) {x : EntF} (hx : x ∈ ms) (hle : ∀ y ∈ ms, le gf x y) : ∃ p : Nat, p < n ∧ x.key = (p : Int) ∧ bitsAt ds p = x.rank ∧ x.rank ≤ 2139095040 ∧ p ∉ ord ∧ Dj n W st ys ds fs (ord ++ [p]) (without x.key ms) p 0 := by
  obtain ⟨p, hp, hk, hf, hb⟩ := h.min_ x hx
  have hxr : x.rank ≤ 2139095040 := by rw [← hb]; exact h.le_ p
  have hpo : p ∉ ord := fun q => (h.oin p q).2.2 x hx hk
  have hmin : ∀ y ∈ ms, x.rank ≤ y.rank := fun y hy => by
    obtain ⟨p2, -, -, -, hb2⟩ := h.min_ y hy
    have hyr : y.rank ≤ 2139095040 := by rw [← hb2]; exact h.le_ p2
    have := hle y hy
    unfold le gf cfl at this
    omega
  refine ⟨p, hp, hk, hb, hxr, hpo, h.dl, h.fl, ?_, fun q hq => ?_, fun y hy => h.min_ y (mem_without.1 hy).1, fun q hq hfq => ?_, h.le_, fun q hq y hy => ?_, fun _ q hq => ?_, fun q hq j y hy hj => ?_, h.src, fun q hq hfq hne => ?_, h.farz, h.vs⟩
  · rw [List.nodup_append]
    refine ⟨h.nd, by simp, fun a ha b hb => ?_⟩
    rw [List.mem_singleton.1 hb]; exact fun e => hpo (by rw [← e]; exact ha)
  · rcases List.mem_append.1 hq with q1 | q1
    · obtain ⟨a1, a2, a3⟩ := h.oin q q1
      exact ⟨a1, a2, fun y hy => a3 y (mem_without.1 hy).1⟩
    · rw [List.mem_singleton.1 q1]
      exact ⟨hp, hf, fun y hy => by rw [← hk]; exact (mem_without.1 hy).2⟩
  · rcases h.cov q hq hfq with q1 | ⟨y, hy, hyk⟩
    · exact .inl (List.mem_append.2 (.inl q1))
    · by_cases e : q = p
      · exact .inl (List.mem_append.2 (.inr (by simp [e])))
      · exact .inr ⟨y, mem_without.2 ⟨hy, by rw [hyk, hk]; exact fun z => e (by exact_mod_cast z)⟩, hyk⟩
  · rcases List.mem_append.1 hq with q1 | q1
    · exact h.mono q q1 y (mem_without.1 hy).1
    · rw [List.mem_singleton.1 q1, hb]; exact hmin y (mem_without.1 hy).1
  · rcases List.mem_append.1 hq with q1 | q1
    · rw [hb]; exact h.mono q q1 x hx
    · rw [List.mem_singleton.1 q1]; exact Nat.le_refl _
  · rcases List.mem_append.1 hq with q1 | q1
    · exact h.han q q1 j y hy (fun e => by have := (h.oin q q1).1; omega)
    · exact absurd (hj (List.mem_singleton.1 q1)) (Nat.not_lt_zero _)
  · obtain ⟨p2, hp2, y, hy, y1, y2, y3, y4, y5⟩ := h.hang q hq hfq hne
    refine ⟨p2, List.mem_append.2 (.inl hp2), y, hy, y1, y2, y3, y4, fun hqo => ?_⟩
    rw [List.idxOf_append, if_pos hp2, List.idxOf_append]
    by_cases e : q ∈ ord
    · rw [if_pos e]; exact y5 e
    · rw [if_neg e]
      have := List.idxOf_lt_length_of_mem hp2
      omega
/-- All ways of a place are gone. -/
theorem Dj.done (h : Dj n W st ys ds fs ord ms at_ k) (hk : (W at_).length ≤ k) : Dj n W st ys ds fs ord ms n 0 :=
  ⟨h.dl, h.fl, h.nd, h.oin, h.min_, h.cov, h.le_, h.mono, fun q => absurd q (Nat.lt_irrefl _), fun p hp j y hy _ => h.han p hp j y hy (fun e => by have := (List.getElem?_eq_some_iff.1 hy).1; rw [e] at this; omega), h.src, h.hang, h.farz, h.vs⟩
/-- A way that leads no nearer. -/
theorem Dj.skip (h : Dj n W st ys ds fs ord ms at_ k) {y : WyV} (hy : (W at_)[k]? = some y) (hf : farAt ds y.2.1 = false) (hb : bitsAt ds y.2.1 ≤ M.addC (bitsAt ds at_) y.2.2) : Dj n W st ys ds fs ord ms at_ (k + 1) :=
  ⟨h.dl, h.fl, h.nd, h.oin, h.min_, h.cov, h.le_, h.mono, h.top, fun p hp j z hz hj => by
    by_cases e : p = at_ ∧ j = k
    · obtain ⟨rfl, rfl⟩ := e
      rw [hy] at hz
      injection hz with hz
      rw [← hz]; exact ⟨hf, hb⟩
    · exact h.han p hp j z hz (fun q => by
        have := hj q
        have : j ≠ k := fun z => e ⟨q, z⟩
        omega), h.src, h.hang, h.farz, h.vs⟩
/-- A settled one lies no farther than any way from here. -/
theorem Dj.settled (h : Dj n W st ys ds fs ord ms at_ k) (ha : at_ < n) {q w : Nat} (hq : q ∈ ord) (hw : w ≤ 2139095040) : bitsAt ds q ≤ M.addC (bitsAt ds at_) w :=
  Nat.le_trans (h.top ha q hq) (M.addC_ge (h.le_ at_) hw)
/-- The path to a place goes by this way from now on. -/
theorem Dj.lead (h : Dj n W st ys ds fs ord ms at_ k) (ha : at_ < n) (hao : at_ ∈ ord) {y : WyV} (hy : (W at_)[k]? = some y) (hyn : y.2.1 < n) (hyw : y.2.2 ≤ 2139095040) (hqo : y.2.1 ∉ ord) (hqs : y.2.1 ≠ st) (hlow : farAt ds y.2.1 = false → M.addC (bitsAt ds at_) y.2.2 ≤ bitsAt ds y.2.1) {v : Int} (hv : (ds.getD y.2.1 d0).1 = v)
    {ms' : List EntF} (hm1 : ∀ x ∈ ms', (x.key = (y.2.1 : Int) ∧ x.rank = M.addC (bitsAt ds at_) y.2.2) ∨ (x.key ≠ (y.2.1 : Int) ∧ x ∈ ms)) (hm2 : ∃ x ∈ ms', x.key = (y.2.1 : Int)) (hm3 : ∀ x ∈ ms, x.key ≠ (y.2.1 : Int) → ∃ z ∈ ms', z.key = x.key) :
    Dj n W st ys (ds.set y.2.1 (v, false, M.addC (bitsAt ds at_) y.2.2, y.1)) (fs.set y.2.1 (at_ : Int)) ord ms' at_ (k + 1) := by
  obtain ⟨c, hc⟩ : ∃ c, c = M.addC (bitsAt ds at_) y.2.2 := ⟨_, rfl⟩
  have hcI : c ≤ 2139095040 := by rw [hc]; exact M.addC_le (h.le_ at_) hyw
  rw [← hc] at hlow hm1 ⊢
  have hql : y.2.1 < ds.length := by rw [h.dl]; exact hyn
  have gf_ : ∀ p, p ≠ y.2.1 → farAt (ds.set y.2.1 (v, false, c, y.1)) p = farAt ds p := fun p q => by unfold farAt; rw [getD_set hql, if_neg q]
  have gb : ∀ p, p ≠ y.2.1 → bitsAt (ds.set y.2.1 (v, false, c, y.1)) p = bitsAt ds p := fun p q => by unfold bitsAt; rw [getD_set hql, if_neg q]
  have ge : ∀ p, p ≠ y.2.1 → edgeAt (ds.set y.2.1 (v, false, c, y.1)) p = edgeAt ds p := fun p q => by unfold edgeAt; rw [getD_set hql, if_neg q]
  have sf : farAt (ds.set y.2.1 (v, false, c, y.1)) y.2.1 = false := by unfold farAt; rw [getD_set hql, if_pos rfl]
  have sb : bitsAt (ds.set y.2.1 (v, false, c, y.1)) y.2.1 = c := by unfold bitsAt; rw [getD_set hql, if_pos rfl]
  have se : edgeAt (ds.set y.2.1 (v, false, c, y.1)) y.2.1 = y.1 := by unfold edgeAt; rw [getD_set hql, if_pos rfl]
  have ho : ∀ p ∈ ord, p ≠ y.2.1 := fun p hp e => hqo (by rw [← e]; exact hp)
  have hca : ∀ p ∈ ord, bitsAt ds p ≤ c := fun p hp => by rw [hc]; exact h.settled ha hp hyw
  refine ⟨by rw [List.length_set]; exact h.dl, by rw [List.length_set]; exact h.fl, h.nd, fun p hp => ?_, fun x hx => ?_, fun p hp hf => ?_, fun p => ?_, fun p hp x hx => ?_, fun _ p hp => ?_, fun p hp j z hz hj => ?_, ⟨h.src.1, by rw [gf_ _ (fun e => hqs e.symm)]; exact h.src.2.1, by rw [gb _ (fun e => hqs e.symm)]; exact h.src.2.2.1, by rw [ge _ (fun e => hqs e.symm)]; exact h.src.2.2.2⟩, fun q hq hf hne => ?_, fun q hf => ?_, ?_⟩
  · obtain ⟨a1, a2, a3⟩ := h.oin p hp
    refine ⟨a1, by rw [gf_ p (ho p hp)]; exact a2, fun x hx => ?_⟩
    rcases hm1 x hx with ⟨e, -⟩ | ⟨-, e⟩
    · rw [e]; exact fun z => ho p hp (by exact_mod_cast z.symm)
    · exact a3 x e
  · rcases hm1 x hx with ⟨e1, e2⟩ | ⟨e1, e2⟩
    · exact ⟨y.2.1, hyn, e1, sf, by rw [sb, e2]⟩
    · obtain ⟨p, hp, hk, hf, hb⟩ := h.min_ x e2
      have hpq : p ≠ y.2.1 := fun z => e1 (by rw [hk, z])
      exact ⟨p, hp, hk, by rw [gf_ p hpq]; exact hf, by rw [gb p hpq]; exact hb⟩
  · by_cases e : p = y.2.1
    · rw [e]; exact .inr hm2
    · rw [gf_ p e] at hf
      rcases h.cov p hp hf with q | ⟨x, hx, hk⟩
      · exact .inl q
      · obtain ⟨z, hz, hzk⟩ := hm3 x hx (by rw [hk]; exact fun z => e (by exact_mod_cast z))
        exact .inr ⟨z, hz, hzk.trans hk⟩
  · by_cases e : p = y.2.1
    · rw [e, sb]; exact hcI
    · rw [gb p e]; exact h.le_ p
  · rw [gb p (ho p hp)]
    rcases hm1 x hx with ⟨-, e⟩ | ⟨-, e⟩
    · rw [e]; exact hca p hp
    · exact h.mono p hp x e
  · rw [gb p (ho p hp), gb at_ (ho at_ hao)]; exact h.top ha p hp
  · rw [gb p (ho p hp)]
    by_cases e : p = at_ ∧ j = k
    · obtain ⟨rfl, rfl⟩ := e
      rw [hy] at hz
      injection hz with hz
      rw [← hz, sf, sb, hc]; exact ⟨rfl, Nat.le_refl _⟩
    · obtain ⟨b1, b2⟩ := h.han p hp j z hz (fun q => by
        have := hj q
        have : j ≠ k := fun z => e ⟨q, z⟩
        omega)
      by_cases e2 : z.2.1 = y.2.1
      · rw [e2, sf, sb]
        refine ⟨rfl, ?_⟩
        rw [e2] at b1 b2
        exact Nat.le_trans (hlow b1) b2
      · rw [gf_ _ e2, gb _ e2]; exact ⟨b1, b2⟩
  · by_cases e : q = y.2.1
    · rw [e]
      refine ⟨at_, hao, y, List.mem_of_getElem? hy, rfl, se.symm, by rw [sb, gb at_ (ho at_ hao)]; exact hc, ?_, fun z => absurd z hqo⟩
      rw [List.getElem?_set_self (by rw [h.fl]; exact hyn)]
    · rw [gf_ q e] at hf
      obtain ⟨p, hp, z, hz, y1, y2, y3, y4, y5⟩ := h.hang q hq hf hne
      exact ⟨p, hp, z, hz, y1, by rw [ge q e]; exact y2, by rw [gb q e, gb p (ho p hp)]; exact y3, by rw [List.getElem?_set_ne (fun z => e z.symm)]; exact y4, y5⟩
  · by_cases e : q = y.2.1
    · rw [e, sf] at hf; cases hf
    · rw [gf_ q e] at hf
      rw [gb q e, ge q e]; exact h.farz q hf
  · rw [← h.vs]
    apply List.ext_getElem?
    intro i
    rw [List.getElem?_map, List.getElem?_map]
    by_cases e : i = y.2.1
    · subst e
      rw [List.getElem?_set_self hql, ← hv, List.getD_eq_getElem?_getD, List.getElem?_eq_getElem hql]; rfl
    · rw [List.getElem?_set_ne (fun z => e z.symm)]
end
end

section
open Go.RowKit Go.Maps
attribute [local go_sem] run_storeF
theorem cfl_eq {r : Nat} (h : r ≤ 2139095040) : cfl r = r := Nat.min_eq_left h
section
variable {W : World} {p : Nat} {s : Int} {fv : Value} {ph : Nat} {ds : List DiV} {fs : List Int}
end
section
variable [Inhabited EntF] {w W W' : World} {p : Nat} {s : Int} {dv fv : Value} {ph : Nat} {ds : List DiV} {fs : List Int} {ms ms' : List EntF} {nn nn' : Nat}
end
end

section
open Go.RowKit Go.Maps
attribute [local go_sem] run_storeF
theorem cell_set13 {W : World} {x : Addr} {u v : Value} {b o : Nat} (hb : ¬ b = x.block) (h : W.cell? ⟨b, o, none⟩ = some v) : (W.setCell x u).cell? ⟨b, o, none⟩ = some v := by
  have := heap_setCell_other W x b u hb
  unfold World.cell? at h ⊢
  rw [this]; exact h
end

section
open Go.RowKit Go.Maps
theorem nodup_lt13 : ∀ {N : Nat} {l : List Nat}, l.Nodup → (∀ x ∈ l, x < N) → l.length ≤ N
  | 0, l, _, hl => by
    cases l with
    | nil => exact Nat.le_refl _
    | cons x l => exact absurd (hl x (by simp)) (Nat.not_lt_zero _)
  | N + 1, l, hd, hl => by
    by_cases h : N ∈ l
    · have h1 := nodup_lt13 (N := N) (hd.erase N) (fun x hx => by
        have h2 := (hd.mem_erase_iff).1 hx
        have := hl x h2.2
        have := h2.1
        omega)
      rw [List.length_erase_of_mem h] at h1
      omega
    · have := nodup_lt13 (N := N) hd (fun x hx => by
        have := hl x hx
        have : x ≠ N := fun e => h (by rw [← e]; exact hx)
        omega)
      omega
theorem Dj.ordl {n : Nat} {Wy : Nat → List WyV} {st : Nat} {ys : List Int} {ds : List DiV} {fs : List Int} {ord : List Nat} {ms : List EntF} {at_ k : Nat} (h : Dj n Wy st ys ds fs ord ms at_ k) : ord.length ≤ n := nodup_lt13 h.nd (fun x hx => (h.oin x hx).1)
theorem lessB : LessF (.func (.func 41) #[] #[]) gf := ⟨41, #[], rfl, enters_of Try.func41 (by kernel_rfl) rfl, fun x y w => by
  have h := before_cost (a := cfl x) (b := cfl y) (Nat.min_le_right _ _) (Nat.min_le_right _ _) w
  have e : decide (cfl x < cfl y) = decide (gf x < gf y) := by unfold gf; exact decide_eq_decide.2 (by omega)
  rw [e] at h
  exact h⟩
theorem okF {n : Nat} (h : n ≤ 1000000) : KeyOkF (n : Int) := WalkArith.wf_i64 (by omega)
/-- What is always so of a graph that is searched. -/
structure GK (ys : List Int) (Wy : Nat → List WyV) : Prop where
  len : ys.length ≤ 1000
  rise : ys.Pairwise (· < ·)
  wl : ∀ p, (Wy p).length ≤ 1000
  win : ∀ p, ∀ y ∈ Wy p, y.2.1 < ys.length ∧ y.2.2 ≤ 2139095040
section
variable [Inhabited EntF] {w W W' : World} {p : Nat} {s : Int} {dv fv : Value} {ph : Nat} {ys : List Int} {Wy : Nat → List WyV} {st : Nat} {ds : List DiV} {fs : List Int} {ord : List Nat} {ms : List EntF} {nn at_ k c : Nat}
end
end

section
open Go.RowKit Go.Maps
attribute [local go_sem] run_storeF
def wyF (ys : List Int) (es : List EdV) (p : Nat) : List WyV := (waysL ys es).getD p []
theorem rank_plc (ds : List DiV) (v : Int) : rankV ds v = plc (ds.map (·.1)) v := by unfold rankV plc; rw [List.countP_map]; rfl
theorem bare_map (s : Int) (ys : List Int) : (bareD s ys).map (·.1) = ys := by unfold bareD; rw [List.map_map]; exact List.map_id' ys
theorem bare_rise {s : Int} {ys : List Int} (h : ys.Pairwise (· < ·)) : RiseD (bareD s ys) := by unfold RiseD bareD; rw [List.pairwise_map]; exact h
section
variable [Inhabited EntF] {w W : World} {p : Nat} {s : Int} {dv fv : Value} {ys : List Int} {Wy : Nat → List WyV} {ds : List DiV} {fs : List Int}
end
end

section
open Go.RowKit Go.Maps
theorem mem_wyF {ys : List Int} {es : List EdV} {p : Nat} {y : WyV} : y ∈ wyF ys es p ↔ p < ys.length ∧ ∃ x ∈ es, plc ys x.2.1 = p ∧ wayOf ys x = y := by
  unfold wyF
  rw [List.getD_eq_getElem?_getD]
  rcases Nat.lt_or_ge p ys.length with q | q
  · rw [waysL_at q]
    simp only [Option.getD_some, List.mem_map, List.mem_filter, decide_eq_true_eq]
    exact ⟨fun ⟨x, ⟨h1, h2⟩, h3⟩ => ⟨q, x, h1, h2, h3⟩, fun ⟨_, x, h1, h2, h3⟩ => ⟨x, ⟨h1, h2⟩, h3⟩⟩
  · rw [List.getElem?_eq_none (by rw [waysL_len]; exact q)]
    simp only [Option.getD_none, List.not_mem_nil, false_iff]
    exact fun ⟨z, _⟩ => by omega
theorem wyF_len (ys : List Int) (es : List EdV) (p : Nat) : (wyF ys es p).length ≤ es.length := by
  unfold wyF
  rw [List.getD_eq_getElem?_getD]
  rcases Nat.lt_or_ge p ys.length with q | q
  · rw [waysL_at q, Option.getD_some, List.length_map]; exact List.length_filter_le _ _
  · rw [List.getElem?_eq_none (by rw [waysL_len]; exact q)]; exact Nat.zero_le _
theorem kept_le {n b : Int} (h : kept n = some b) : b < 2139095040 := by
  unfold kept at h
  split at h
  · have : (0 : Int) = b := by injection h
    omega
  · split at h
    · cases h
    · have : n = b := by injection h
      omega
theorem wtN_le (x : EdV) : wtN x < 2139095040 := by
  unfold wtN
  cases h : kept x.2.2.2 with
  | none => show (0 : Int).toNat < _; decide
  | some b => have := kept_le h; show b.toNat < _; omega
/-- What is so of lists without fault. -/
structure Good (ys : List Int) (es : List EdV) (s : Int) : Prop where
  nd : ys.Nodup
  en : (es.map (·.1)).Nodup
  lo : ∀ x ∈ es, 1 ≤ x.1
  src : s ∈ ys
  ends : ∀ x ∈ es, x.2.1 ∈ ys ∧ x.2.2.1 ∈ ys
  wt : ∀ x ∈ es, (kept x.2.2.2).isSome = true
theorem fault_zero {ys : List Int} {es : List EdV} {s : Int} : faultC ys es s = 0 ↔ Good ys es s := by
  unfold faultC
  constructor
  · intro h
    split at h
    · cases h
    · rename_i h1
      split at h
      · cases h
      · rename_i h2
        split at h
        · cases h
        · rename_i h3
          split at h
          · cases h
          · rename_i h4
            simp only [Bool.or_eq_true, Bool.not_eq_true', decide_eq_false_iff_not, not_or, Classical.not_not] at h1 h3
            have h2' : ∀ x ∈ es, lowB x = false := fun x hx => by
              cases q : lowB x with
              | false => rfl
              | true => exact absurd (List.any_eq_true.2 ⟨x, hx, q⟩) h2
            have h3' : ∀ x ∈ es, awayB ys x = false := fun x hx => by
              cases q : awayB ys x with
              | false => rfl
              | true => exact absurd (List.any_eq_true.2 ⟨x, hx, q⟩) h3.2
            have h4' : ∀ x ∈ es, badB x = false := fun x hx => by
              cases q : badB x with
              | false => rfl
              | true => exact absurd (List.any_eq_true.2 ⟨x, hx, q⟩) h4
            refine ⟨h1.1, h1.2, fun x hx => ?_, h3.1, fun x hx => ?_, fun x hx => ?_⟩
            · have := h2' x hx
              unfold lowB at this
              have := of_decide_eq_false this
              omega
            · have := h3' x hx
              unfold awayB at this
              simpa using this
            · have := h4' x hx
              unfold badB at this
              cases q : kept x.2.2.2 with
              | none => rw [q] at this; cases this
              | some b => rfl
  · intro h
    rw [if_neg, if_neg, if_neg, if_neg]
    · intro q
      obtain ⟨x, hx, h2⟩ := List.any_eq_true.1 q
      unfold badB at h2
      have := h.wt x hx
      cases e : kept x.2.2.2 with
      | none => rw [e] at this; cases this
      | some b => rw [e] at h2; cases h2
    · intro q
      rcases (Bool.or_eq_true _ _).mp q with q | q
      · rw [decide_eq_true h.src] at q; cases q
      · obtain ⟨x, hx, h2⟩ := List.any_eq_true.1 q
        unfold awayB at h2
        rw [decide_eq_true (h.ends x hx).1, decide_eq_true (h.ends x hx).2] at h2; cases h2
    · intro q
      obtain ⟨x, hx, h2⟩ := List.any_eq_true.1 q
      unfold lowB at h2
      have := h.lo x hx
      have := of_decide_eq_true h2
      omega
    · intro q
      rw [decide_eq_true h.nd, decide_eq_true h.en] at q; cases q
theorem strict_of_nodup {ys : List Int} (hs : ys.Pairwise (· ≤ ·)) (hn : ys.Nodup) : ys.Pairwise (· < ·) := by
  have := hs.and hn
  exact this.imp (fun ⟨a, b⟩ => by omega)
theorem Good.gk {ys : List Int} {es : List EdV} {s : Int} (h : Good ys es s) (hs : ys.Pairwise (· ≤ ·)) (h1 : ys.length ≤ 1000) (h2 : es.length ≤ 1000) : GK ys (wyF ys es) :=
  ⟨h1, strict_of_nodup hs h.nd, fun p => Nat.le_trans (wyF_len ys es p) h2, fun p y hy => by
    obtain ⟨-, x, hx, -, rfl⟩ := mem_wyF.1 hy
    have := wtN_le x
    exact ⟨plc_lt (h.ends x hx).2, by show wtN x ≤ _; omega⟩⟩
end

section
open Go.RowKit Go.Maps
/-- What is told of a number: 0, or an error. -/
def askC (ys : List Int) (ds : List DiV) (v : Int) : Int := if v ∈ ys then (if farAt ds (plc ys v) = true then 130 else 0) else 5
def askP (ys : List Int) (ds : List DiV) (v : Int) : Nat := if askC ys ds v = 0 then plc ys v else 0
def askB (ys : List Int) (ds : List DiV) (v : Int) : Nat := if askC ys ds v = 0 then bitsAt ds (plc ys v) else 0
def askE (ys : List Int) (ds : List DiV) (v : Int) : Int := if askC ys ds v = 0 then edgeAt ds (plc ys v) else 0
theorem rise_of {ys : List Int} {ds : List DiV} (h : ds.map (·.1) = ys) (hr : ys.Pairwise (· < ·)) : RiseD ds := by unfold RiseD; rw [← h, List.pairwise_map] at hr; exact hr
theorem ask_ok {ys : List Int} {ds : List DiV} {v : Int} : askC ys ds v = 0 ↔ v ∈ ys ∧ farAt ds (plc ys v) = false := by
  unfold askC
  by_cases h : v ∈ ys
  · rw [if_pos h]
    cases farAt ds (plc ys v) <;> simp [h]
  · rw [if_neg h]; simp [h]
section
variable {B : Nat} {W : World} {p : Nat} {s : Int} {ys : List Int} {es : List EdV} {ds : List DiV} {fs : List Int}
/-- Those to which a walk leads. -/
def nearV (ds : List DiV) : List Int := (ds.filter (fun d => !d.2.1)).map (·.1)
def RowAns (w : World) (ks : List Int) (v : Value) (w' : World) : Prop := BRow w.heap.size w' v ks ∧ Below w.heap.size w w'
end
end

section
open Go.RowKit Go.Maps
/-- The edges on the way back from a place, the last one first. -/
def Back (ds : List DiV) (fs : List Int) : Nat → List Int → Prop
  | q, [] => edgeAt ds q = 0
  | q, e :: l => e = edgeAt ds q ∧ e ≠ 0 ∧ ∃ p : Nat, fs[q]? = some (p : Int) ∧ Back ds fs p l
def PathAns (w : World) (ds : List DiV) (fs : List Int) (q : Nat) (v : Value) (w' : World) : Prop := ∃ l, Back ds fs q l ∧ BRow w.heap.size w' v l.reverse ∧ Below w.heap.size w w' ∧ l.length ≤ 1001
/-- slices.Reverse. -/
theorem revN (B : Nat) (v : Value) (ks : List Int) (w : World) (hl : ks.length ≤ 1000000) (h : BRow B w v ks) :
    Calls Try.prog 35 #[v] w fun e w' => e = .returned (.tuple #[]) ∧ Hid (BRow B w' v ks.reverse ∧ Turned (fun b => v.ownBlock = some b) w w') := by
  have hb := h
  rcases h.2 with ⟨rfl, h0⟩ | ⟨g, cap, cur, rfl, hB, hg, hcap, hmx, hsz, htk⟩
  · obtain rfl : ks = [] := List.length_eq_zero_iff.1 h0
    refine (Any.slices_Reverse_int_empty Try.lays112 none 0 w).mono ?_
    rintro e w' ⟨rfl, rfl⟩
    exact ⟨rfl, hb, Turned.refl _ _⟩
  · refine (Any.slices_Reverse_int_cells Try.lays112 g 0 ks.length cap ks w (Nat.le_refl _) (by omega) (fun j hj => ?_) (fun j hj => ?_)).mono ?_
    · rw [Nat.zero_add, brow_at hb (List.getElem?_eq_getElem hj), List.getD_eq_getElem?_getD, List.getElem?_eq_getElem hj]; rfl
    · exact (brow_set hb 0 hj).1 _
    · rintro e w' ⟨rfl, q, rfl⟩
      rw [List.take_of_length_le (Nat.le_refl _)]
      have hlen : (ks.reverse.map (Value.int .i64)).length = ks.length := by simp
      have hs1 : cur.size = cap := by omega
      have hM := setM_list (ks.reverse.map (Value.int .i64)) 0 cur (by rw [hlen]; omega)
      refine ⟨rfl, ⟨by simp, .inr ⟨g, cap, setM cur 0 (ks.reverse.map (Value.int .i64)), by rw [List.length_reverse], hB, setCells_heap g _ 0 (w.drewN q) cur hg, by rw [List.length_reverse]; exact hcap, hmx, by rw [setM_size]; exact hsz, ?_⟩⟩, (Turned.refl _ _).drewN q |>.trans (setCells_turned (S := fun b => (Value.slice (some ⟨g, 0, none⟩) ks.length cap).ownBlock = some b) g (show _ = some g from rfl) _ 0 _)⟩
      rw [hM, List.take_zero, List.nil_append, List.length_reverse, Nat.mul_one, List.take_left' hlen]
def PathAns2 (w : World) (ys : List Int) (ds : List DiV) (fs : List Int) (v : Int) (x : Value) (w' : World) : Prop :=
  Below w.heap.size w w' ∧ (askC ys ds v ≠ 0 → x = .slice none 0 0) ∧ (askC ys ds v = 0 → PathAns w ds fs (plc ys v) x w')
end

end Go.Proofs.Ytbmcibofecigeaa
