/- grow's memory; place, offer, lead. -/
import Derived.Test.YtbmcibofecigeaaGreatWysW13
import Derived.BigQuiet
namespace Go.Proofs.YtbmcibofecigeaaGreat

section
open Go.RowKit Go.Maps
abbrev d0 : DiV := (0, true, 0, 0)
def farAt (ds : List DiV) (p : Nat) : Bool := (ds.getD p d0).2.1
def bitsAt (ds : List DiV) (p : Nat) : Nat := (ds.getD p d0).2.2.1
def edgeAt (ds : List DiV) (p : Nat) : Int := (ds.getD p d0).2.2.2
theorem getD_set {ds : List DiV} {q : Nat} (hq : q < ds.length) (d : DiV) (p : Nat) : (ds.set q d).getD p d0 = if p = q then d else ds.getD p d0 := by
  rw [List.getD_eq_getElem?_getD, List.getD_eq_getElem?_getD]
  by_cases h : p = q
  · subst h; rw [if_pos rfl, List.getElem?_set_self hq]; rfl
  · rw [if_neg h, List.getElem?_set_ne (fun e => h e.symm)]
theorem far_lt {ds : List DiV} {p : Nat} (h : farAt ds p = false) : p < ds.length := by
  rcases Nat.lt_or_ge p ds.length with q | q
  · exact q
  · unfold farAt at h
    rw [List.getD_eq_getElem?_getD, List.getElem?_eq_none q] at h; cases h
theorem mem_lowered {k : Int} {r : Nat} {ms : List EntF} {x : EntF} (h : x ∈ lowered k r ms) : ∃ y ∈ ms, x.key = y.key ∧ (y.key = k → x.rank = r) ∧ (y.key ≠ k → x = y) := by
  unfold lowered at h
  obtain ⟨y, hy, rfl⟩ := List.mem_map.1 h
  by_cases e : y.key = k
  · rw [if_pos e]; exact ⟨y, hy, rfl, fun _ => rfl, fun z => absurd e z⟩
  · rw [if_neg e]; exact ⟨y, hy, rfl, fun z => absurd z e, fun _ => rfl⟩
theorem lowered_mem {k : Int} {r : Nat} {ms : List EntF} {y : EntF} (h : y ∈ ms) : ∃ x ∈ lowered k r ms, x.key = y.key := by
  refine ⟨_, List.mem_map.2 ⟨y, h, rfl⟩, ?_⟩
  by_cases e : y.key = k
  · rw [if_pos e]
  · rw [if_neg e]
/-- The search in the midst: ord are settled, in that order; ms are waiting; of the place at the first k ways were gone. -/
structure Dj (n : Nat) (W : Nat → List WyV) (st : Nat) (ys : List Int) (ds : List DiV) (fs : List Int) (ord : List Nat) (ms : List EntF) (at_ k : Nat) : Prop where
  dl : ds.length = n
  fl : fs.length = n
  nd : ord.Nodup
  oin : ∀ p ∈ ord, p < n ∧ farAt ds p = false ∧ ∀ x ∈ ms, x.key ≠ (p : Int)
  min_ : ∀ x ∈ ms, ∃ p : Nat, p < n ∧ x.key = (p : Int) ∧ farAt ds p = false ∧ bitsAt ds p = x.rank
  cov : ∀ p, p < n → farAt ds p = false → p ∈ ord ∨ ∃ x ∈ ms, x.key = (p : Int)
  le_ : ∀ p, bitsAt ds p ≤ 2139095040
  mono : ∀ p ∈ ord, ∀ x ∈ ms, bitsAt ds p ≤ x.rank
  top : at_ < n → ∀ p ∈ ord, bitsAt ds p ≤ bitsAt ds at_
  han : ∀ p ∈ ord, ∀ (j : Nat) (y : WyV), (W p)[j]? = some y → (p = at_ → j < k) → farAt ds y.2.1 = false ∧ bitsAt ds y.2.1 ≤ M.addC (bitsAt ds p) y.2.2
  src : st < n ∧ farAt ds st = false ∧ bitsAt ds st = 0 ∧ edgeAt ds st = 0
  hang : ∀ q, q < n → farAt ds q = false → q ≠ st → ∃ p ∈ ord, ∃ y ∈ W p, y.2.1 = q ∧ y.1 = edgeAt ds q ∧ bitsAt ds q = M.addC (bitsAt ds p) y.2.2 ∧ fs[q]? = some (p : Int) ∧ (q ∈ ord → ord.idxOf p < ord.idxOf q)
  farz : ∀ q, farAt ds q = true → bitsAt ds q = 0 ∧ edgeAt ds q = 0
  vs : ds.map (·.1) = ys
section
variable {n : Nat} {W : Nat → List WyV} {st : Nat} {ys : List Int} {ds : List DiV} {fs : List Int} {ord : List Nat} {ms : List EntF} {at_ k : Nat}
theorem bare_at (s : Int) (ys : List Int) {p : Nat} {v : Int} (h : ys[p]? = some v) : (bareD s ys).getD p d0 = (v, v != s, 0, 0) := by
  unfold bareD
  rw [List.getD_eq_getElem?_getD, List.getElem?_map, h]; rfl
theorem plc_at {ys : List Int} (hr : ys.Pairwise (· < ·)) {p : Nat} {v : Int} (h : ys[p]? = some v) : plc ys v = p := by
  have hl := (List.getElem?_eq_some_iff.1 h).1
  have e1 : ys = ys.take p ++ ys.drop p := (List.take_append_drop p ys).symm
  unfold plc
  have h1 : (ys.take p).countP (fun x => decide (x < v)) = p := by
    have : (ys.take p).countP (fun x => decide (x < v)) = (ys.take p).length := List.countP_eq_length.2 (fun x hx => by
      obtain ⟨i, hi⟩ := List.mem_iff_getElem?.1 hx
      have hi2 := (List.getElem?_eq_some_iff.1 hi).1
      rw [List.length_take] at hi2
      rw [List.getElem?_take_of_lt (by omega)] at hi
      have := List.pairwise_iff_getElem.1 hr i p (by omega) hl (by omega)
      rw [(List.getElem?_eq_some_iff.1 hi).2, (List.getElem?_eq_some_iff.1 h).2] at this
      simpa using this)
    rw [this, List.length_take]; omega
  have h2 : (ys.drop p).countP (fun x => decide (x < v)) = 0 := List.countP_eq_zero.2 (fun x hx => by
    obtain ⟨i, hi⟩ := List.mem_iff_getElem?.1 hx
    rw [List.getElem?_drop] at hi
    have hi2 := (List.getElem?_eq_some_iff.1 hi).1
    rcases Nat.eq_zero_or_pos i with q | q
    · subst q
      rw [Nat.add_zero, h] at hi
      injection hi with hi
      simp [hi]
    · have := List.pairwise_iff_getElem.1 hr p (p + i) hl hi2 (by omega)
      rw [(List.getElem?_eq_some_iff.1 hi).2, (List.getElem?_eq_some_iff.1 h).2] at this
      simp; omega)
  rw [e1, List.countP_append, h1, h2, Nat.add_zero]
theorem at_plc {ys : List Int} (hr : ys.Pairwise (· < ·)) {v : Int} (hv : v ∈ ys) : ys[plc ys v]? = some v := by
  obtain ⟨i, hi⟩ := List.mem_iff_getElem?.1 hv
  rw [plc_at hr hi]; exact hi
theorem dj_start {s : Int} (hr : ys.Pairwise (· < ·)) (hs : s ∈ ys) : Dj ys.length W (plc ys s) ys (bareD s ys) (List.replicate ys.length 0) [] [⟨(plc ys s : Int), 0, 0⟩] ys.length 0 := by
  have hst := at_plc hr hs
  have hlt := plc_lt hs
  have hfar : ∀ p, farAt (bareD s ys) p = false → p = plc ys s := fun p h => by
    have hp := far_lt h
    unfold bareD at hp
    rw [List.length_map] at hp
    obtain ⟨v, hv⟩ : ∃ v, ys[p]? = some v := ⟨_, List.getElem?_eq_getElem hp⟩
    unfold farAt at h
    rw [bare_at s ys hv] at h
    have e : v = s := by simpa using h
    rw [← e, plc_at hr hv]
  have hz : ∀ p, bitsAt (bareD s ys) p = 0 ∧ edgeAt (bareD s ys) p = 0 := fun p => by
    unfold bitsAt edgeAt
    rcases Nat.lt_or_ge p ys.length with q | q
    · rw [bare_at s ys (List.getElem?_eq_getElem q)]; exact ⟨rfl, rfl⟩
    · rw [List.getD_eq_getElem?_getD, List.getElem?_eq_none (by unfold bareD; rw [List.length_map]; exact q)]; exact ⟨rfl, rfl⟩
  have hs0 : farAt (bareD s ys) (plc ys s) = false := by unfold farAt; rw [bare_at s ys hst]; simp
  refine ⟨by unfold bareD; simp, by simp, .nil, fun p hp => (by cases hp), fun x hx => ?_, fun p _ hf => .inr ⟨_, List.mem_singleton.2 rfl, by rw [hfar p hf]⟩, fun p => by rw [(hz p).1]; omega, fun p hp => (by cases hp), fun h => absurd h (Nat.lt_irrefl _), fun p hp => (by cases hp), ⟨hlt, hs0, (hz _).1, (hz _).2⟩, fun q _ hf hne => absurd (hfar q hf) hne, fun q _ => hz q, ?_⟩
  · rw [List.mem_singleton.1 hx]; exact ⟨plc ys s, hlt, rfl, hs0, (hz _).1⟩
  · unfold bareD; rw [List.map_map]; exact List.map_id' ys
/-- The nearest of those that wait is settled. -/
theorem Dj.pop (h : Dj n W st ys ds fs ord ms n 0) {x : EntF} (hx : x ∈ ms) (hle : ∀ y ∈ ms, le gf x y) : ∃ p : Nat, p < n ∧ x.key = (p : Int) ∧ bitsAt ds p = x.rank ∧ x.rank ≤ 2139095040 ∧ p ∉ ord ∧ Dj n W st ys ds fs (ord ++ [p]) (without x.key ms) p 0 := by
  obtain ⟨p, hp, hk, hf, hb⟩ := h.min_ x hx
  have hxr : x.rank ≤ 2139095040 := by rw [← hb]; exact h.le_ p
  have hpo : p ∉ ord := fun q => (h.oin p q).2.2 x hx hk
  have hmin : ∀ y ∈ ms, x.rank ≤ y.rank := fun y hy => by
    obtain ⟨p2, -, -, -, hb2⟩ := h.min_ y hy
    have hyr : y.rank ≤ 2139095040 := by rw [← hb2]; exact h.le_ p2
    have := hle y hy
    unfold le gf cfl at this
    omega
  refine ⟨p, hp, hk, hb, hxr, hpo, h.dl, h.fl, ?_, fun q hq => ?_, fun y hy => h.min_ y (mem_without.1 hy).1, fun q hq hfq => ?_, h.le_, fun q hq y hy => ?_, fun _ q hq => ?_, fun q hq j y hy hj => ?_, h.src, fun q hq hfq hne => ?_, h.farz, h.vs⟩
  · rw [List.nodup_append]
    refine ⟨h.nd, by simp, fun a ha b hb => ?_⟩
    rw [List.mem_singleton.1 hb]; exact fun e => hpo (by rw [← e]; exact ha)
  · rcases List.mem_append.1 hq with q1 | q1
    · obtain ⟨a1, a2, a3⟩ := h.oin q q1
      exact ⟨a1, a2, fun y hy => a3 y (mem_without.1 hy).1⟩
    · rw [List.mem_singleton.1 q1]
      exact ⟨hp, hf, fun y hy => by rw [← hk]; exact (mem_without.1 hy).2⟩
  · rcases h.cov q hq hfq with q1 | ⟨y, hy, hyk⟩
    · exact .inl (List.mem_append.2 (.inl q1))
    · by_cases e : q = p
      · exact .inl (List.mem_append.2 (.inr (by simp [e])))
      · exact .inr ⟨y, mem_without.2 ⟨hy, by rw [hyk, hk]; exact fun z => e (by exact_mod_cast z)⟩, hyk⟩
  · rcases List.mem_append.1 hq with q1 | q1
    · exact h.mono q q1 y (mem_without.1 hy).1
    · rw [List.mem_singleton.1 q1, hb]; exact hmin y (mem_without.1 hy).1
  · rcases List.mem_append.1 hq with q1 | q1
    · rw [hb]; exact h.mono q q1 x hx
    · rw [List.mem_singleton.1 q1]; exact Nat.le_refl _
  · rcases List.mem_append.1 hq with q1 | q1
    · exact h.han q q1 j y hy (fun e => by have := (h.oin q q1).1; omega)
    · exact absurd (hj (List.mem_singleton.1 q1)) (Nat.not_lt_zero _)
  · obtain ⟨p2, hp2, y, hy, y1, y2, y3, y4, y5⟩ := h.hang q hq hfq hne
    refine ⟨p2, List.mem_append.2 (.inl hp2), y, hy, y1, y2, y3, y4, fun hqo => ?_⟩
    rw [List.idxOf_append, if_pos hp2, List.idxOf_append]
    by_cases e : q ∈ ord
    · rw [if_pos e]; exact y5 e
    · rw [if_neg e]
      have := List.idxOf_lt_length_of_mem hp2
      omega
/-- All ways of a place are gone. -/
theorem Dj.done (h : Dj n W st ys ds fs ord ms at_ k) (hk : (W at_).length ≤ k) : Dj n W st ys ds fs ord ms n 0 :=
  ⟨h.dl, h.fl, h.nd, h.oin, h.min_, h.cov, h.le_, h.mono, fun q => absurd q (Nat.lt_irrefl _), fun p hp j y hy _ => h.han p hp j y hy (fun e => by have := (List.getElem?_eq_some_iff.1 hy).1; rw [e] at this; omega), h.src, h.hang, h.farz, h.vs⟩
/-- A way that leads no nearer. -/
theorem Dj.skip (h : Dj n W st ys ds fs ord ms at_ k) {y : WyV} (hy : (W at_)[k]? = some y) (hf : farAt ds y.2.1 = false) (hb : bitsAt ds y.2.1 ≤ M.addC (bitsAt ds at_) y.2.2) : Dj n W st ys ds fs ord ms at_ (k + 1) :=
  ⟨h.dl, h.fl, h.nd, h.oin, h.min_, h.cov, h.le_, h.mono, h.top, fun p hp j z hz hj => by
    by_cases e : p = at_ ∧ j = k
    · obtain ⟨rfl, rfl⟩ := e
      rw [hy] at hz
      injection hz with hz
      rw [← hz]; exact ⟨hf, hb⟩
    · exact h.han p hp j z hz (fun q => by
        have := hj q
        have : j ≠ k := fun z => e ⟨q, z⟩
        omega), h.src, h.hang, h.farz, h.vs⟩
/-- A settled one lies no farther than any way from here. -/
theorem Dj.settled (h : Dj n W st ys ds fs ord ms at_ k) (ha : at_ < n) {q w : Nat} (hq : q ∈ ord) (hw : w ≤ 2139095040) : bitsAt ds q ≤ M.addC (bitsAt ds at_) w :=
  Nat.le_trans (h.top ha q hq) (M.addC_ge (h.le_ at_) hw)
/-- The path to a place goes by this way from now on. -/
theorem Dj.lead (h : Dj n W st ys ds fs ord ms at_ k) (ha : at_ < n) (hao : at_ ∈ ord) {y : WyV} (hy : (W at_)[k]? = some y) (hyn : y.2.1 < n) (hyw : y.2.2 ≤ 2139095040) (hqo : y.2.1 ∉ ord) (hqs : y.2.1 ≠ st) (hlow : farAt ds y.2.1 = false → M.addC (bitsAt ds at_) y.2.2 ≤ bitsAt ds y.2.1) {v : Int} (hv : (ds.getD y.2.1 d0).1 = v)
    {ms' : List EntF} (hm1 : ∀ x ∈ ms', (x.key = (y.2.1 : Int) ∧ x.rank = M.addC (bitsAt ds at_) y.2.2) ∨ (x.key ≠ (y.2.1 : Int) ∧ x ∈ ms)) (hm2 : ∃ x ∈ ms', x.key = (y.2.1 : Int)) (hm3 : ∀ x ∈ ms, x.key ≠ (y.2.1 : Int) → ∃ z ∈ ms', z.key = x.key) :
    Dj n W st ys (ds.set y.2.1 (v, false, M.addC (bitsAt ds at_) y.2.2, y.1)) (fs.set y.2.1 (at_ : Int)) ord ms' at_ (k + 1) := by
  obtain ⟨c, hc⟩ : ∃ c, c = M.addC (bitsAt ds at_) y.2.2 := ⟨_, rfl⟩
  have hcI : c ≤ 2139095040 := by rw [hc]; exact M.addC_le (h.le_ at_) hyw
  rw [← hc] at hlow hm1 ⊢
  have hql : y.2.1 < ds.length := by rw [h.dl]; exact hyn
  have gf_ : ∀ p, p ≠ y.2.1 → farAt (ds.set y.2.1 (v, false, c, y.1)) p = farAt ds p := fun p q => by unfold farAt; rw [getD_set hql, if_neg q]
  have gb : ∀ p, p ≠ y.2.1 → bitsAt (ds.set y.2.1 (v, false, c, y.1)) p = bitsAt ds p := fun p q => by unfold bitsAt; rw [getD_set hql, if_neg q]
  have ge : ∀ p, p ≠ y.2.1 → edgeAt (ds.set y.2.1 (v, false, c, y.1)) p = edgeAt ds p := fun p q => by unfold edgeAt; rw [getD_set hql, if_neg q]
  have sf : farAt (ds.set y.2.1 (v, false, c, y.1)) y.2.1 = false := by unfold farAt; rw [getD_set hql, if_pos rfl]
  have sb : bitsAt (ds.set y.2.1 (v, false, c, y.1)) y.2.1 = c := by unfold bitsAt; rw [getD_set hql, if_pos rfl]
  have se : edgeAt (ds.set y.2.1 (v, false, c, y.1)) y.2.1 = y.1 := by unfold edgeAt; rw [getD_set hql, if_pos rfl]
  have ho : ∀ p ∈ ord, p ≠ y.2.1 := fun p hp e => hqo (by rw [← e]; exact hp)
  have hca : ∀ p ∈ ord, bitsAt ds p ≤ c := fun p hp => by rw [hc]; exact h.settled ha hp hyw
  refine ⟨by rw [List.length_set]; exact h.dl, by rw [List.length_set]; exact h.fl, h.nd, fun p hp => ?_, fun x hx => ?_, fun p hp hf => ?_, fun p => ?_, fun p hp x hx => ?_, fun _ p hp => ?_, fun p hp j z hz hj => ?_, ⟨h.src.1, by rw [gf_ _ (fun e => hqs e.symm)]; exact h.src.2.1, by rw [gb _ (fun e => hqs e.symm)]; exact h.src.2.2.1, by rw [ge _ (fun e => hqs e.symm)]; exact h.src.2.2.2⟩, fun q hq hf hne => ?_, fun q hf => ?_, ?_⟩
  · obtain ⟨a1, a2, a3⟩ := h.oin p hp
    refine ⟨a1, by rw [gf_ p (ho p hp)]; exact a2, fun x hx => ?_⟩
    rcases hm1 x hx with ⟨e, -⟩ | ⟨-, e⟩
    · rw [e]; exact fun z => ho p hp (by exact_mod_cast z.symm)
    · exact a3 x e
  · rcases hm1 x hx with ⟨e1, e2⟩ | ⟨e1, e2⟩
    · exact ⟨y.2.1, hyn, e1, sf, by rw [sb, e2]⟩
    · obtain ⟨p, hp, hk, hf, hb⟩ := h.min_ x e2
      have hpq : p ≠ y.2.1 := fun z => e1 (by rw [hk, z])
      exact ⟨p, hp, hk, by rw [gf_ p hpq]; exact hf, by rw [gb p hpq]; exact hb⟩
  · by_cases e : p = y.2.1
    · rw [e]; exact .inr hm2
    · rw [gf_ p e] at hf
      rcases h.cov p hp hf with q | ⟨x, hx, hk⟩
      · exact .inl q
      · obtain ⟨z, hz, hzk⟩ := hm3 x hx (by rw [hk]; exact fun z => e (by exact_mod_cast z))
        exact .inr ⟨z, hz, hzk.trans hk⟩
  · by_cases e : p = y.2.1
    · rw [e, sb]; exact hcI
    · rw [gb p e]; exact h.le_ p
  · rw [gb p (ho p hp)]
    rcases hm1 x hx with ⟨-, e⟩ | ⟨-, e⟩
    · rw [e]; exact hca p hp
    · exact h.mono p hp x e
  · rw [gb p (ho p hp), gb at_ (ho at_ hao)]; exact h.top ha p hp
  · rw [gb p (ho p hp)]
    by_cases e : p = at_ ∧ j = k
    · obtain ⟨rfl, rfl⟩ := e
      rw [hy] at hz
      injection hz with hz
      rw [← hz, sf, sb, hc]; exact ⟨rfl, Nat.le_refl _⟩
    · obtain ⟨b1, b2⟩ := h.han p hp j z hz (fun q => by
        have := hj q
        have : j ≠ k := fun z => e ⟨q, z⟩
        omega)
      by_cases e2 : z.2.1 = y.2.1
      · rw [e2, sf, sb]
        refine ⟨rfl, ?_⟩
        rw [e2] at b1 b2
        exact Nat.le_trans (hlow b1) b2
      · rw [gf_ _ e2, gb _ e2]; exact ⟨b1, b2⟩
  · by_cases e : q = y.2.1
    · rw [e]
      refine ⟨at_, hao, y, List.mem_of_getElem? hy, rfl, se.symm, by rw [sb, gb at_ (ho at_ hao)]; exact hc, ?_, fun z => absurd z hqo⟩
      rw [List.getElem?_set_self (by rw [h.fl]; exact hyn)]
    · rw [gf_ q e] at hf
      obtain ⟨p, hp, z, hz, y1, y2, y3, y4, y5⟩ := h.hang q hq hf hne
      exact ⟨p, hp, z, hz, y1, by rw [ge q e]; exact y2, by rw [gb q e, gb p (ho p hp)]; exact y3, by rw [List.getElem?_set_ne (fun z => e z.symm)]; exact y4, y5⟩
  · by_cases e : q = y.2.1
    · rw [e, sf] at hf; cases hf
    · rw [gf_ q e] at hf
      rw [gb q e, ge q e]; exact h.farz q hf
  · rw [← h.vs]
    apply List.ext_getElem?
    intro i
    rw [List.getElem?_map, List.getElem?_map]
    by_cases e : i = y.2.1
    · subst e
      rw [List.getElem?_set_self hql, ← hv, List.getD_eq_getElem?_getD, List.getElem?_eq_getElem hql]; rfl
    · rw [List.getElem?_set_ne (fun z => e z.symm)]
end
end

section
open Go.RowKit Go.Maps
attribute [local go_sem] run_storeF
theorem cfl_eq {r : Nat} (h : r ≤ 2139095040) : cfl r = r := Nat.min_eq_left h
/-- A tree that grows, beside a heap of its own. -/
structure GM [Inhabited EntF] (w : World) (p : Nat) (s : Int) (dv fv : Value) (ph : Nat) (ds : List DiV) (fs : List Int) (ms : List EntF) (nn : Nat) (W : World) : Prop where
  tr : TrAt 0 W p s dv fv ds fs
  tur : Turned (fun b => dv.ownBlock = some b ∨ fv.ownBlock = some b) w W
  on : ∃ F, OnF W ph F ms nn ∧ ∀ j, F j → w.heap.size ≤ j
  old : ∀ b, b = p ∨ dv.ownBlock = some b ∨ fv.ownBlock = some b → b < w.heap.size
  ml : ms.length ≤ nn
section
variable {W : World} {p : Nat} {s : Int} {fv : Value} {ph : Nat} {ds : List DiV} {fs : List Int}
theorem placeS {a : Option Addr} {m c : Nat} (h : TrAt 0 W p s (.slice a m c) fv ds fs) (hr : RiseD ds) (hl : ds.length ≤ 1000) (x : Int) :
    Calls Tryz.prog 73 #[.pointer (some ⟨p, 0, none⟩), .int .i64 x] W fun e w' => e = .returned (.tuple #[.int .i64 (rankV ds x : Nat), .bool (decide (x ∈ ds.map (·.1)))]) ∧ Hid (Below W.heap.size W w') := by
  have C1 := hide (bsfS x h.ds_ hr (by omega))
  obtain ⟨-, c1, -, -⟩ := cellsT h.box
  generalize rankV ds x = r at *
  generalize decide (x ∈ ds.map (·.1)) = f at *
  clear h hr hl
  go_enter Tryz.func73, Tryz.ntmps73
  go_wp2_with fail
  refine (unhide C1).mono ?_
  rintro e w1 ⟨rfl, hb⟩
  clear C1 c1
  go_wp2_with fail
  go_ret2
  exact ⟨rfl, hb⟩
set_option maxHeartbeats 1000000 in
/-- offer, whatever the heap answers. -/
theorem offerS {g m c q : Nat} {d : DiV} {r : Bool} {Q : World → Prop} {cst : Nat} (h : TrAt 0 W p s (.slice (some ⟨g, 0, none⟩) m c) fv ds fs) (hq : ds[q]? = some d) (C1 : d.2.1 = true → Calls Tryz.prog 75 #[.pointer (some ⟨ph, 0, none⟩), .int .i64 (q : Nat), .float .f32 cst] W fun e w' => e = .returned (.bool r) ∧ Hid (Q w')) (C2 : d.2.1 = false → Calls Tryz.prog 110 #[.pointer (some ⟨ph, 0, none⟩), .int .i64 (q : Nat), .float .f32 cst] W fun e w' => e = .returned (.bool r) ∧ Hid (Q w')) :
    Calls Tryz.prog 79 #[.pointer (some ⟨p, 0, none⟩), .pointer (some ⟨ph, 0, none⟩), .int .i64 (q : Nat), .float .f32 cst] W fun e w' => e = .returned (.bool r) ∧ Hid (Q w') := by
  obtain ⟨-, c1, -, -⟩ := cellsT h.box
  obtain ⟨-, k1, -, -⟩ := drow_at h.ds_ hq
  have hl : q < m := by rw [rrow_len h.ds_]; exact (List.getElem?_eq_some_iff.1 hq).1
  have z1 : (q : Int) < (m : Int) := by omega
  generalize d.2.1 = fa at *
  clear h hq hl
  cases fa with
  | true =>
    have CC := hide (C1 rfl)
    clear C1 C2
    go_enter Tryz.func79, Tryz.ntmps79
    go_wp2_with fail
    refine (unhide CC).mono ?_
    rintro e w1 ⟨rfl, hb⟩
    clear CC c1 k1
    go_wp2_with fail
    go_ret
    exact ⟨rfl, hb⟩
  | false =>
    have CC := hide (C2 rfl)
    clear C1 C2
    go_enter Tryz.func79, Tryz.ntmps79
    go_wp2_with fail
    refine (unhide CC).mono ?_
    rintro e w1 ⟨rfl, hb⟩
    clear CC c1 k1
    go_wp2_with fail
    go_ret
    exact ⟨rfl, hb⟩
end
section
variable [Inhabited EntF] {w W W' : World} {p : Nat} {s : Int} {dv fv : Value} {ph : Nat} {ds : List DiV} {fs : List Int} {ms ms' : List EntF} {nn nn' : Nat}
theorem GM.heap {F F' : Nat → Prop} (h : GM w p s dv fv ph ds fs ms nn W) (hF : ∀ j, F j → w.heap.size ≤ j) (ho : OnF W' ph F' ms' nn') (ht : Turned F W W') (hs : ∀ j, F' j → F j ∨ W.heap.size ≤ j) (hm : ms'.length ≤ nn') : GM w p s dv fv ph ds fs ms' nn' W' := by
  have hsz := h.tur.size
  have hk : ∀ b, b < w.heap.size → W'.heap[b]? = W.heap[b]? := fun b hb => ht.block b (by omega) (fun q => by have := hF b q; omega)
  exact ⟨h.tr.kept (fun b e => hk b (h.old b e)), ⟨ht.os.trans h.tur.os, ht.tape.trans h.tur.tape, ht.output.trans h.tur.output, Nat.le_trans hsz ht.size, fun b hb hn => (hk b hb).trans (h.tur.block b hb hn)⟩, ⟨F', ho, fun j hj => (hs j hj).elim (hF j) (fun e => Nat.le_trans hsz e)⟩, h.old, hm⟩
theorem GM.below (h : GM w p s dv fv ph ds fs ms nn W) (hb : Below W.heap.size W W') : GM w p s dv fv ph ds fs ms nn W' := by
  obtain ⟨F, ho, hF⟩ := h.on
  exact ⟨h.tr.below hb, h.tur.trans (turned_of_below hb), ⟨F, ho.kept (fun k hk => hb.block k (ho.lt hk)), hF⟩, h.old, h.ml⟩
/-- What lead writes: the distance. -/
theorem lead_ds {g m c q : Nat} {v e0 e : Int} {fa : Bool} {b0 cst : Nat} (h : GM w p s (.slice (some ⟨g, 0, none⟩) m c) fv ph ds fs ms nn W) (hq : ds[q]? = some (v, fa, b0, e0)) :
    GM w p s (.slice (some ⟨g, 0, none⟩) m c) fv ph (ds.set q (v, false, cst, e)) fs ms nn (((W.setCell ⟨g, q * 4 + 1, none⟩ (.bool false)).setCell ⟨g, q * 4 + 2, none⟩ (.int .u32 (cst : Nat))).setCell ⟨g, q * 4 + 3, none⟩ (.int .i64 e)) := by
  have hql := (List.getElem?_eq_some_iff.1 hq).1
  have hgp : g ≠ p := fun z => h.tr.ne1 (by rw [← z]; rfl)
  have d1 := rrow_set kitD h.tr.ds_ hq (x' := (v, false, b0, e0)) (j := 1) (by omega) (u := .bool false) rfl
  have d2 := rrow_set kitD d1 (i := q) (x := (v, false, b0, e0)) (List.getElem?_set_self hql) (x' := (v, false, cst, e0)) (j := 2) (by omega) (u := .int .u32 (cst : Nat)) rfl
  rw [List.set_set] at d2
  have d3 := rrow_set kitD d2 (i := q) (x := (v, false, cst, e0)) (List.getElem?_set_self hql) (x' := (v, false, cst, e)) (j := 3) (by omega) (u := .int .i64 e) rfl
  rw [List.set_set] at d3
  have hot : ∀ b, b ≠ g → (((W.setCell ⟨g, q * 4 + 1, none⟩ (.bool false)).setCell ⟨g, q * 4 + 2, none⟩ (.int .u32 (cst : Nat))).setCell ⟨g, q * 4 + 3, none⟩ (.int .i64 e)).heap[b]? = W.heap[b]? := fun b h1 => by
    rw [heap_setCell_other _ _ _ _ h1, heap_setCell_other _ _ _ _ h1, heap_setCell_other _ _ _ _ h1]
  have hgo := h.old g (.inr (.inl rfl))
  obtain ⟨F, ho, hFl⟩ := h.on
  exact ⟨⟨(hot p (fun z => hgp z.symm)).trans h.tr.box, d3, brow_kept h.tr.fs_ (fun b e => hot b (fun z => h.tr.ne3 b (by rw [z]; rfl) e)), h.tr.lo, h.tr.ne1, h.tr.ne2, h.tr.ne3⟩, h.tur.trans ⟨rfl, rfl, rfl, by simp, fun b _ hn => hot b (fun z => hn (.inl (by rw [z]; rfl)))⟩, ⟨F, ho.kept (fun b hb => hot b (fun z => by have := hFl b hb; omega)), hFl⟩, h.old, h.ml⟩
/-- What lead writes: where the path comes from. -/
theorem lead_fs {q gf_ mf cf_ : Nat} {at_ : Int} (h : GM w p s dv (.slice (some ⟨gf_, 0, none⟩) mf cf_) ph ds fs ms nn W) (hqf : q < fs.length) :
    GM w p s dv (.slice (some ⟨gf_, 0, none⟩) mf cf_) ph ds (fs.set q at_) ms nn (W.setCell ⟨gf_, q, none⟩ (.int .i64 at_)) := by
  have hfp : gf_ ≠ p := fun z => h.tr.ne2 (by rw [← z]; rfl)
  obtain ⟨-, f2⟩ := brow_set h.tr.fs_ at_ (show q < mf by
    obtain ⟨a', c', e, -⟩ := brow_shape h.tr.fs_
    injection e with e1 e2; omega)
  have hot : ∀ b, b ≠ gf_ → (W.setCell ⟨gf_, q, none⟩ (.int .i64 at_)).heap[b]? = W.heap[b]? := fun b h1 => heap_setCell_other _ _ _ _ h1
  have hfo := h.old gf_ (.inr (.inr rfl))
  obtain ⟨F, ho, hFl⟩ := h.on
  exact ⟨⟨(hot p (fun z => hfp z.symm)).trans h.tr.box, rrow_kept h.tr.ds_ (fun b e => hot b (fun z => h.tr.ne3 b e (by rw [z]; rfl))), f2, h.tr.lo, h.tr.ne1, h.tr.ne2, h.tr.ne3⟩, h.tur.trans ⟨rfl, rfl, rfl, by simp, fun b _ hn => hot b (fun z => hn (.inr (by rw [z]; rfl)))⟩, ⟨F, ho.kept (fun b hb => hot b (fun z => by have := hFl b hb; omega)), hFl⟩, h.old, h.ml⟩
end
end

end Go.Proofs.YtbmcibofecigeaaGreat
