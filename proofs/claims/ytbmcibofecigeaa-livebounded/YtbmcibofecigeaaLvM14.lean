/- A tree that is repaired, as mathematics. -/
import Derived.Test.YtbmcibofecigeaaWCost
namespace Go.Proofs.Ytbmcibofecigeaa
open Go.RowKit
namespace L14
/-- Where an edge begins and ends, its weight. -/
abbrev Eg := Int × Int × Nat
/-- What is known of a vertex: whether a walk leads there, its cost, its last edge. -/
abbrev Sp := Bool × Nat × Int
abbrev Es := Int → Option Eg
abbrev Tr := Int → Sp
def fnd (T : Tr) (v : Int) : Bool := (T v).1
def cst (T : Tr) (v : Int) : Nat := (T v).2.1
def lst (T : Tr) (v : Int) : Int := (T v).2.2
def upd (T : Tr) (v : Int) (x : Sp) : Tr := fun w => if w = v then x else T w
theorem upd_self (T : Tr) (v : Int) (x : Sp) : upd T v x v = x := if_pos rfl
theorem upd_ne {T : Tr} {v w : Int} {x : Sp} (h : w ≠ v) : upd T v x w = T w := if_neg h
/-- The way back from v comes to the source: the edges, the last one first. -/
def Chain (E : Es) (s : Int) (T : Tr) : Int → List Int → Prop
  | v, [] => v = s
  | v, e :: l => v ≠ s ∧ e = lst T v ∧ ∃ u c, E e = some (u, v, c) ∧ fnd T u = true ∧ Chain E s T u l
/-- The tree in the midst of a repair: the vertices Q wait, the edges of rest are still to be gone along. -/
structure Lv (E : Es) (s : Int) (T : Tr) (Q : Int → Prop) (rest : List Int) : Prop where
  src : fnd T s = true ∧ cst T s = 0 ∧ lst T s = 0
  non : ∀ v, fnd T v = false → cst T v = 0 ∧ lst T v = 0
  le_ : ∀ v, cst T v ≤ 2139095040
  wl : ∀ e u v c, E e = some (u, v, c) → c ≤ 2139095040
  pos : E 0 = none
  hang : ∀ v, fnd T v = true → v ≠ s → ∃ u c, E (lst T v) = some (u, v, c) ∧ fnd T u = true ∧ M.addC (cst T u) c ≤ cst T v ∧ (cst T v = M.addC (cst T u) c ∨ Q u ∨ lst T v ∈ rest)
  clo : ∀ e u v c, E e = some (u, v, c) → fnd T u = true → ¬ Q u → e ∉ rest → fnd T v = true ∧ cst T v ≤ M.addC (cst T u) c
  chn : ∀ v, fnd T v = true → ∃ l, Chain E s T v l
  qf : ∀ v, Q v → fnd T v = true
section
variable {E : Es} {s : Int} {T : Tr} {Q : Int → Prop} {rest : List Int}
/-- Does the way back from v come by w? -/
def By (E : Es) (s : Int) (T : Tr) (w : Int) : Int → List Int → Prop
  | v, [] => v = w
  | v, e :: l => v = w ∨ ∃ u c, E e = some (u, v, c) ∧ By E s T w u l
theorem Lv.by_le (h : Lv E s T Q rest) {w : Int} : ∀ {l : List Int} {v : Int}, fnd T v = true → Chain E s T v l → By E s T w v l → fnd T w = true ∧ cst T w ≤ cst T v
  | [], v, hv, hc, hb => by
    have e : v = w := hb
    rw [← e]; exact ⟨hv, Nat.le_refl _⟩
  | e :: l, v, hv, ⟨h1, h2, u, c, h3, h4, h5⟩, hb => by
    rcases hb with q | ⟨u', c', g1, g2⟩
    · rw [← q]; exact ⟨hv, Nat.le_refl _⟩
    · rw [h3] at g1
      have e1 : u = u' := congrArg (·.1) (Option.some.inj g1)
      subst e1
      obtain ⟨i1, i2⟩ := h.by_le h4 h5 g2
      obtain ⟨u2, c2, k1, k2, k3, -⟩ := h.hang v hv h1
      rw [← h2, h3] at k1
      have e2 : u = u2 := congrArg (·.1) (Option.some.inj k1)
      have e3 : c = c2 := congrArg (·.2.2) (Option.some.inj k1)
      subst e2 e3
      exact ⟨i1, Nat.le_trans i2 (Nat.le_trans (M.addC_ge (h.le_ u) (h.wl _ _ _ _ h3)) k3)⟩
/-- A way back that doesn't come by a vertex stays where that one is changed. -/
theorem chain_upd {v : Int} {x : Sp} : ∀ {l : List Int} {w : Int}, Chain E s T w l → ¬ By E s T v w l → (∀ u, fnd T u = true → u ≠ v → fnd (upd T v x) u = true) → Chain E s (upd T v x) w l
  | [], w, hc, _, _ => hc
  | e :: l, w, ⟨h1, h2, u, c, h3, h4, h5⟩, hb, hf => by
    have hwv : w ≠ v := fun z => hb (.inl z)
    have hnb : ¬ By E s T v u l := fun z => hb (.inr ⟨u, c, h3, z⟩)
    have huv : u ≠ v := fun z => hnb (by cases l with
      | nil => exact z
      | cons d l => exact .inl z)
    exact ⟨h1, by unfold lst; rw [upd_ne hwv]; exact h2, u, c, h3, hf u h4 huv, chain_upd h5 hnb hf⟩
/-- An edge that leads to nothing nearer. -/
theorem Lv.skip {e u v : Int} {c : Nat} (h : Lv E s T Q (e :: rest)) (he : E e = some (u, v, c)) (hs : fnd T u = false ∨ (fnd T v = true ∧ cst T v ≤ M.addC (cst T u) c)) : Lv E s T Q rest := by
  refine ⟨h.src, h.non, h.le_, h.wl, h.pos, fun w hw hne => ?_, fun e' u' v' c' he' hu hq hr => ?_, h.chn, h.qf⟩
  · obtain ⟨u', c', g1, g2, g3, g4⟩ := h.hang w hw hne
    refine ⟨u', c', g1, g2, g3, ?_⟩
    rcases g4 with q | q | q
    · exact .inl q
    · exact .inr (.inl q)
    · rcases List.mem_cons.1 q with z | z
      · rw [z, he] at g1
        have e1 : u = u' := congrArg (·.1) (Option.some.inj g1)
        have e2 : v = w := congrArg (·.2.1) (Option.some.inj g1)
        have e3 : c = c' := congrArg (·.2.2) (Option.some.inj g1)
        subst e1 e2 e3
        rcases hs with q1 | ⟨-, q1⟩
        · rw [g2] at q1; cases q1
        · exact .inl (Nat.le_antisymm q1 g3)
      · exact .inr (.inr z)
  · by_cases z : e' = e
    · rw [z, he] at he'
      have e1 : u = u' := congrArg (·.1) (Option.some.inj he')
      have e2 : v = v' := congrArg (·.2.1) (Option.some.inj he')
      have e3 : c = c' := congrArg (·.2.2) (Option.some.inj he')
      subst e1 e2 e3
      rcases hs with q1 | q1
      · rw [hu] at q1; cases q1
      · exact q1
    · exact h.clo e' u' v' c' he' hu hq (fun q => (List.mem_cons.1 q).elim z hr)
/-- An edge by which its end is nearer, or first come to. -/
theorem Lv.take {e u v : Int} {c k : Nat} (h : Lv E s T Q (e :: rest)) (he : E e = some (u, v, c)) (hu : fnd T u = true) (hk : k = M.addC (cst T u) c) (hs : fnd T v = false ∨ k < cst T v) : Lv E s (upd T v (true, k, e)) (fun w => w = v ∨ Q w) rest := by
  have hkI : k ≤ 2139095040 := by rw [hk]; exact M.addC_le (h.le_ u) (h.wl _ _ _ _ he)
  have hku : cst T u ≤ k := by rw [hk]; exact M.addC_ge (h.le_ u) (h.wl _ _ _ _ he)
  have hvs : v ≠ s := fun z => by
    rw [z] at hs
    rcases hs with q | q
    · rw [h.src.1] at q; cases q
    · rw [h.src.2.1] at q; omega
  have huv : u ≠ v := fun z => by
    rw [z] at hu hku
    rcases hs with q | q
    · rw [hu] at q; cases q
    · omega
  have fv : fnd (upd T v (true, k, e)) v = true := by unfold fnd; rw [upd_self]
  have cv : cst (upd T v (true, k, e)) v = k := by unfold cst; rw [upd_self]
  have lv : lst (upd T v (true, k, e)) v = e := by unfold lst; rw [upd_self]
  have fo : ∀ w, w ≠ v → fnd (upd T v (true, k, e)) w = fnd T w := fun w q => by unfold fnd; rw [upd_ne q]
  have co : ∀ w, w ≠ v → cst (upd T v (true, k, e)) w = cst T w := fun w q => by unfold cst; rw [upd_ne q]
  have lo : ∀ w, w ≠ v → lst (upd T v (true, k, e)) w = lst T w := fun w q => by unfold lst; rw [upd_ne q]
  have fm : ∀ w, fnd T w = true → fnd (upd T v (true, k, e)) w = true := fun w q => by
    by_cases z : w = v
    · rw [z]; exact fv
    · rw [fo w z]; exact q
  have hle : fnd T v = true → k ≤ cst T v := fun q => by
    rcases hs with r | r
    · rw [q] at r; cases r
    · omega
  -- the way back from u doesn't come by v
  have hnb : ∀ l, Chain E s T u l → ¬ By E s T v u l := fun l hl hb => by
    obtain ⟨g1, g2⟩ := h.by_le hu hl hb
    rcases hs with q | q
    · rw [g1] at q; cases q
    · omega
  refine ⟨⟨by rw [fo s (fun z => hvs z.symm)]; exact h.src.1, by rw [co s (fun z => hvs z.symm)]; exact h.src.2.1, by rw [lo s (fun z => hvs z.symm)]; exact h.src.2.2⟩, fun w hw => ?_, fun w => ?_, h.wl, h.pos, fun w hw hne => ?_, fun e' u' v' c' he' hu' hq hr => ?_, fun w hw => ?_, fun w hw => ?_⟩
  · have hwv : w ≠ v := fun z => by rw [z, fv] at hw; cases hw
    rw [fo w hwv] at hw
    rw [co w hwv, lo w hwv]; exact h.non w hw
  · by_cases z : w = v
    · rw [z, cv]; exact hkI
    · rw [co w z]; exact h.le_ w
  · by_cases z : w = v
    · subst z
      rw [lv, cv]
      exact ⟨u, c, he, by rw [fo u huv]; exact hu, by rw [co u huv, ← hk]; exact Nat.le_refl _, .inl (by rw [co u huv]; exact hk)⟩
    · rw [fo w z] at hw
      obtain ⟨u', c', g1, g2, g3, g4⟩ := h.hang w hw hne
      rw [lo w z, co w z]
      refine ⟨u', c', g1, fm u' g2, ?_, ?_⟩
      · by_cases y : u' = v
        · rw [y, cv]
          rw [y] at g2 g3
          exact Nat.le_trans (M.addC_mono hkI (h.le_ v) (h.wl _ _ _ _ g1) (hle g2)) g3
        · rw [co u' y]; exact g3
      · by_cases y : u' = v
        · exact .inr (.inl (.inl y))
        · rw [co u' y]
          rcases g4 with q | q | q
          · exact .inl q
          · exact .inr (.inl (.inr q))
          · rcases List.mem_cons.1 q with r | r
            · rw [r, he] at g1
              have e2 : v = w := congrArg (·.2.1) (Option.some.inj g1)
              exact absurd e2.symm z
            · exact .inr (.inr r)
  · have hu'v : u' ≠ v := fun z => hq (.inl z)
    have hq' : ¬ Q u' := fun z => hq (.inr z)
    rw [fo u' hu'v] at hu'
    rw [co u' hu'v]
    by_cases z : e' = e
    · rw [z, he] at he'
      have e1 : u = u' := congrArg (·.1) (Option.some.inj he')
      have e2 : v = v' := congrArg (·.2.1) (Option.some.inj he')
      have e3 : c = c' := congrArg (·.2.2) (Option.some.inj he')
      subst e1 e2 e3
      rw [fv, cv, ← hk]; exact ⟨rfl, Nat.le_refl _⟩
    · obtain ⟨g1, g2⟩ := h.clo e' u' v' c' he' hu' hq' (fun q => (List.mem_cons.1 q).elim z hr)
      by_cases y : v' = v
      · rw [y, fv, cv]
        rw [y] at g1 g2
        exact ⟨rfl, Nat.le_trans (hle g1) g2⟩
      · rw [fo v' y, co v' y]; exact ⟨g1, g2⟩
  · obtain ⟨lu, hlu⟩ := h.chn u hu
    have hlu' : Chain E s (upd T v (true, k, e)) u lu := chain_upd hlu (hnb lu hlu) (fun x q _ => fm x q)
    have hcv : Chain E s (upd T v (true, k, e)) v (e :: lu) := ⟨hvs, lv.symm, u, c, he, fm u hu, hlu'⟩
    have key : ∀ (l : List Int) (w : Int), Chain E s T w l → ∃ l', Chain E s (upd T v (true, k, e)) w l' := by
      intro l
      induction l with
      | nil => intro w hw; exact ⟨[], hw⟩
      | cons d l ih =>
        intro w hw
        obtain ⟨h1, h2, u2, c2, h3, h4, h5⟩ := hw
        by_cases z : w = v
        · rw [z]; exact ⟨_, hcv⟩
        · obtain ⟨l', hl'⟩ := ih u2 h5
          exact ⟨d :: l', h1, by rw [lo w z]; exact h2, u2, c2, h3, fm u2 h4, hl'⟩
    by_cases z : w = v
    · rw [z]; exact ⟨_, hcv⟩
    · rw [fo w z] at hw
      obtain ⟨l, hl⟩ := h.chn w hw
      exact key l w hl
  · rcases hw with z | z
    · rw [z]; exact fv
    · exact fm w (h.qf w z)
/-- A vertex that waited is gone on from. -/
theorem Lv.pop {v : Int} {outs : List Int} (h : Lv E s T Q []) (ho : ∀ e u c, E e = some (v, u, c) → e ∈ outs) : Lv E s T (fun w => w ≠ v ∧ Q w) outs := by
  refine ⟨h.src, h.non, h.le_, h.wl, h.pos, fun w hw hne => ?_, fun e u w c he hu hq hr => ?_, h.chn, fun w hw => h.qf w hw.2⟩
  · obtain ⟨u, c, g1, g2, g3, g4⟩ := h.hang w hw hne
    refine ⟨u, c, g1, g2, g3, ?_⟩
    rcases g4 with q | q | q
    · exact .inl q
    · by_cases z : u = v
      · rw [z] at g1; exact .inr (.inr (ho _ _ _ g1))
      · exact .inr (.inl ⟨z, q⟩)
    · cases q
  · by_cases z : u = v
    · rw [z] at he; exact absurd (ho _ _ _ he) hr
    · exact h.clo e u w c he hu (fun q => hq ⟨z, q⟩) (fun q => by cases q)
/-- Nothing is left to do. -/
def Right (E : Es) (s : Int) (T : Tr) : Prop := Lv E s T (fun _ => False) []
theorem Lv.done (h : Lv E s T Q []) (hq : ∀ v, ¬ Q v) : Right E s T :=
  ⟨h.src, h.non, h.le_, h.wl, h.pos, fun w hw hne => by
    obtain ⟨u, c, g1, g2, g3, g4⟩ := h.hang w hw hne
    exact ⟨u, c, g1, g2, g3, g4.imp id (fun q => q.elim (fun z => absurd z (hq u)) .inr)⟩, fun e u w c he hu _ hr => h.clo e u w c he hu (hq u) hr, h.chn, fun v z => z.elim⟩
theorem Right.eqn (h : Right E s T) {v : Int} (hv : fnd T v = true) (hs : v ≠ s) : ∃ u c, E (lst T v) = some (u, v, c) ∧ fnd T u = true ∧ cst T v = M.addC (cst T u) c := by
  obtain ⟨u, c, g1, g2, g3, g4⟩ := h.hang v hv hs
  exact ⟨u, c, g1, g2, g4.elim id (fun q => q.elim (fun z => z.elim) (fun z => by cases z))⟩
/-- What no edge lowers lies nowhere above. -/
theorem Right.up (h : Right E s T) (d : Int → Nat) (h0 : d s = 0) (F : Nat) (hF : 2139095040 < F) (hd : ∀ e u v c, E e = some (u, v, c) → d u ≠ F → d v ≤ M.addC (d u) c) : ∀ v, fnd T v = true → d v ≤ cst T v := by
  have key : ∀ (l : List Int) (v : Int), fnd T v = true → Chain E s T v l → d v ≤ cst T v := by
    intro l
    induction l with
    | nil => intro v _ hc; have e : v = s := hc; rw [e, h0]; exact Nat.zero_le _
    | cons e l ih =>
      intro v hv hc
      obtain ⟨h1, h2, u, c, h3, h4, h5⟩ := hc
      have hi := ih u h4 h5
      have hle := h.le_ u
      obtain ⟨u', c', g1, g2, g3⟩ := h.eqn hv h1
      rw [← h2, h3] at g1
      have e1 : u = u' := congrArg (·.1) (Option.some.inj g1)
      have e2 : c = c' := congrArg (·.2.2) (Option.some.inj g1)
      subst e1 e2
      have hx := hd e u v c h3 (by omega)
      rw [g3]
      exact Nat.le_trans hx (M.addC_mono (by omega) hle (h.wl _ _ _ _ h3) hi)
  intro v hv
  obtain ⟨l, hl⟩ := h.chn v hv
  exact key l v hv hl
/-- An edge more, or one that is no dearer: it alone is to be gone along. -/
theorem Right.more {E' : Es} {e u v : Int} {c : Nat} (h : Right E s T) (he : E' e = some (u, v, c)) (h0 : e ≠ 0) (hc : c ≤ 2139095040) (ho : ∀ d, d ≠ e → E' d = E d) (hw : ∀ u' v' c', E e = some (u', v', c') → u' = u ∧ v' = v ∧ c ≤ c') : Lv E' s T (fun _ => False) [e] := by
  have hE : ∀ d x y k, E d = some (x, y, k) → ∃ k', E' d = some (x, y, k') ∧ k' ≤ k ∧ (d ≠ e → k' = k) := fun d x y k hd => by
    by_cases z : d = e
    · rw [z] at hd ⊢
      obtain ⟨a, b, cc⟩ := hw _ _ _ hd
      rw [a, b]; exact ⟨c, he, cc, fun q => absurd rfl q⟩
    · exact ⟨k, by rw [ho d z]; exact hd, Nat.le_refl _, fun _ => rfl⟩
  refine ⟨h.src, h.non, h.le_, fun d x y k hd => ?_, by rw [ho 0 (fun z => h0 z.symm)]; exact h.pos, fun w hwf hne => ?_, fun d x y k hd hx _ hr => ?_, fun w hwf => ?_, fun _ z => z.elim⟩
  · by_cases z : d = e
    · rw [z, he] at hd
      have e3 : c = k := congrArg (·.2.2) (Option.some.inj hd)
      rw [← e3]; exact hc
    · rw [ho d z] at hd; exact h.wl d x y k hd
  · obtain ⟨x, k, g1, g2, g3⟩ := h.eqn hwf hne
    obtain ⟨k', f1, f2, f3⟩ := hE _ _ _ _ g1
    refine ⟨x, k', f1, g2, ?_, ?_⟩
    · rw [g3]
      have hkI := h.wl _ _ _ _ g1
      rw [M.addC_comm (h.le_ x) (by omega), M.addC_comm (h.le_ x) hkI]
      exact M.addC_mono (by omega) hkI (h.le_ x) f2
    · by_cases z : lst T w = e
      · exact .inr (.inr (by rw [z]; exact List.mem_singleton.2 rfl))
      · rw [f3 z]; exact .inl g3
  · have z : d ≠ e := fun q => hr (by rw [q]; exact List.mem_singleton.2 rfl)
    rw [ho d z] at hd
    exact h.clo d x y k hd hx (fun q => q) (fun q => by cases q)
  · obtain ⟨l, hl⟩ := h.chn w hwf
    refine ⟨l, ?_⟩
    have key : ∀ (l : List Int) (w : Int), Chain E s T w l → Chain E' s T w l := by
      intro l
      induction l with
      | nil => intro w hw; exact hw
      | cons d l ih =>
        intro w hw
        obtain ⟨h1, h2, u2, c2, h3, h4, h5⟩ := hw
        obtain ⟨k', f1, -, -⟩ := hE _ _ _ _ h3
        exact ⟨h1, h2, u2, k', f1, h4, ih u2 h5⟩
    exact key l w hl
/-- No walk to these is known. -/
def forget (T : Tr) (lost : List Int) : Tr := fun w => if w ∈ lost then (false, 0, 0) else T w
theorem forget_in {T : Tr} {lost : List Int} {w : Int} (h : w ∈ lost) : forget T lost w = (false, 0, 0) := if_pos h
theorem forget_out {T : Tr} {lost : List Int} {w : Int} (h : w ∉ lost) : forget T lost w = T w := if_neg h
/-- All that hangs below an edge that went, or is dearer, is forgotten: the edges by which one comes there from elsewhere are to be gone along. -/
theorem Right.lose {E' : Es} {e v : Int} {lost rest : List Int} (h : Right E s T) (ho : ∀ d, d ≠ e → E' d = E d) (hn : ∀ x y c, E' e = some (x, y, c) → y = v ∧ c ≤ 2139095040) (he : ∀ x y c, E e = some (x, y, c) → y = v) (h0 : e ≠ 0) (hv : v ∈ lost) (hs : s ∉ lost)
    (hc : ∀ u w c, u ∈ lost → fnd T w = true → w ≠ s → E (lst T w) = some (u, w, c) → w ∈ lost) (hr : ∀ d u w k, E' d = some (u, w, k) → fnd T u = true → u ∉ lost → w ∈ lost → d ∈ rest) : Lv E' s (forget T lost) (fun _ => False) rest := by
  have fi : ∀ w, w ∈ lost → fnd (forget T lost) w = false := fun w q => by unfold fnd; rw [forget_in q]
  have fo : ∀ w, w ∉ lost → fnd (forget T lost) w = fnd T w := fun w q => by unfold fnd; rw [forget_out q]
  have co : ∀ w, w ∉ lost → cst (forget T lost) w = cst T w := fun w q => by unfold cst; rw [forget_out q]
  have lo : ∀ w, w ∉ lost → lst (forget T lost) w = lst T w := fun w q => by unfold lst; rw [forget_out q]
  have fn : ∀ w, fnd (forget T lost) w = true → w ∉ lost ∧ fnd T w = true := fun w q => by
    by_cases z : w ∈ lost
    · rw [fi w z] at q; cases q
    · rw [fo w z] at q; exact ⟨z, q⟩
  -- what one hangs from isn't lost either, and it is the same edge
  have par : ∀ w, w ∉ lost → fnd T w = true → w ≠ s → ∀ u c, E (lst T w) = some (u, w, c) → u ∉ lost ∧ E' (lst T w) = some (u, w, c) := fun w hwl hwf hws u c q => by
    refine ⟨fun z => hwl (hc u w c z hwf hws q), ?_⟩
    have : lst T w ≠ e := fun z => by
      rw [z] at q
      exact hwl (by rw [he _ _ _ q]; exact hv)
    rw [ho _ this]; exact q
  refine ⟨⟨by rw [fo s hs]; exact h.src.1, by rw [co s hs]; exact h.src.2.1, by rw [lo s hs]; exact h.src.2.2⟩, fun w hw => ?_, fun w => ?_, fun d x y k hd => ?_, by rw [ho 0 (fun z => h0 z.symm)]; exact h.pos, fun w hw hne => ?_, fun d x y k hd hx _ hnr => ?_, fun w hw => ?_, fun _ z => z.elim⟩
  · by_cases z : w ∈ lost
    · unfold cst lst; rw [forget_in z]; exact ⟨rfl, rfl⟩
    · rw [fo w z] at hw
      rw [co w z, lo w z]; exact h.non w hw
  · by_cases z : w ∈ lost
    · unfold cst; rw [forget_in z]; exact Nat.zero_le _
    · rw [co w z]; exact h.le_ w
  · by_cases z : d = e
    · rw [z] at hd; exact (hn _ _ _ hd).2
    · rw [ho d z] at hd; exact h.wl d x y k hd
  · obtain ⟨hwl, hwf⟩ := fn w hw
    obtain ⟨u, c, g1, g2, g3⟩ := h.eqn hwf hne
    obtain ⟨p1, p2⟩ := par w hwl hwf hne u c g1
    rw [lo w hwl, co w hwl]
    exact ⟨u, c, p2, by rw [fo u p1]; exact g2, by rw [co u p1, g3]; exact Nat.le_refl _, .inl (by rw [co u p1]; exact g3)⟩
  · obtain ⟨hxl, hxf⟩ := fn x hx
    have hyl : y ∉ lost := fun z => hnr (hr d x y k hd hxf hxl z)
    have hde : d ≠ e := fun z => by
      rw [z] at hd
      exact hyl (by rw [(hn _ _ _ hd).1]; exact hv)
    rw [ho d hde] at hd
    obtain ⟨g1, g2⟩ := h.clo d x y k hd hxf (fun q => q) (fun q => by cases q)
    rw [fo y hyl, co y hyl, co x hxl]; exact ⟨g1, g2⟩
  · obtain ⟨hwl, hwf⟩ := fn w hw
    obtain ⟨l, hl⟩ := h.chn w hwf
    refine ⟨l, ?_⟩
    have key : ∀ (l : List Int) (w : Int), w ∉ lost → fnd T w = true → Chain E s T w l → Chain E' s (forget T lost) w l := by
      intro l
      induction l with
      | nil => intro w _ _ hw; exact hw
      | cons d l ih =>
        intro w hwl hwf hw
        obtain ⟨h1, h2, u2, c2, h3, h4, h5⟩ := hw
        obtain ⟨p1, p2⟩ := par w hwl hwf h1 u2 c2 (by rw [← h2]; exact h3)
        exact ⟨h1, by rw [lo w hwl]; exact h2, u2, c2, by rw [h2]; exact p2, by rw [fo u2 p1]; exact h4, ih u2 p1 h4 h5⟩
    exact key l w hwl hwf hl
/-- An edge goes with which no path ends. -/
theorem Right.drop {E' : Es} {e : Int} (h : Right E s T) (ho : ∀ d, d ≠ e → E' d = E d) (hn : E' e = none) (hl : ∀ v, fnd T v = true → v ≠ s → lst T v ≠ e) (h0 : e ≠ 0) : Right E' s T := by
  refine ⟨h.src, h.non, h.le_, fun d x y k hd => ?_, by rw [ho 0 (fun z => h0 z.symm)]; exact h.pos, fun w hwf hne => ?_, fun d x y k hd hx _ _ => ?_, fun w hwf => ?_, fun _ z => z.elim⟩
  · by_cases z : d = e
    · rw [z, hn] at hd; cases hd
    · rw [ho d z] at hd; exact h.wl d x y k hd
  · obtain ⟨u, c, g1, g2, g3⟩ := h.eqn hwf hne
    exact ⟨u, c, by rw [ho _ (hl w hwf hne)]; exact g1, g2, by rw [g3]; exact Nat.le_refl _, .inl g3⟩
  · by_cases z : d = e
    · rw [z, hn] at hd; cases hd
    · rw [ho d z] at hd; exact h.clo d x y k hd hx (fun q => q) (fun q => by cases q)
  · obtain ⟨l, hc⟩ := h.chn w hwf
    refine ⟨l, ?_⟩
    have key : ∀ (l : List Int) (w : Int), fnd T w = true → Chain E s T w l → Chain E' s T w l := by
      intro l
      induction l with
      | nil => intro w _ hw; exact hw
      | cons d l ih =>
        intro w hwf hw
        obtain ⟨h1, h2, u2, c2, h3, h4, h5⟩ := hw
        exact ⟨h1, h2, u2, c2, by rw [ho d (by rw [h2]; exact hl w hwf h1)]; exact h3, h4, ih u2 h4 h5⟩
    exact key l w hwf hc
/-- An edge gets dearer, and no path by it does. -/
theorem Right.dearer {E' : Es} {e u v : Int} {c c' : Nat} (h : Right E s T) (he : E e = some (u, v, c)) (he' : E' e = some (u, v, c')) (hcc : c ≤ c') (hcI : c' ≤ 2139095040) (ho : ∀ d, d ≠ e → E' d = E d) (h0 : e ≠ 0) (hk : lst T v = e → fnd T v = true → M.addC (cst T u) c' ≤ cst T v) : Right E' s T := by
  have hE : ∀ d x y k, E d = some (x, y, k) → ∃ k', E' d = some (x, y, k') := fun d x y k hd => by
    by_cases z : d = e
    · rw [z, he] at hd
      have e1 : u = x := congrArg (·.1) (Option.some.inj hd)
      have e2 : v = y := congrArg (·.2.1) (Option.some.inj hd)
      rw [z, ← e1, ← e2]; exact ⟨c', he'⟩
    · exact ⟨k, by rw [ho d z]; exact hd⟩
  have hup : ∀ x, x ≤ 2139095040 → M.addC x c ≤ M.addC x c' := fun x hx => by
    rw [M.addC_comm hx (by omega), M.addC_comm hx hcI]
    exact M.addC_mono (by omega) hcI hx hcc
  refine ⟨h.src, h.non, h.le_, fun d x y k hd => ?_, by rw [ho 0 (fun z => h0 z.symm)]; exact h.pos, fun w hwf hne => ?_, fun d x y k hd hx _ _ => ?_, fun w hwf => ?_, fun _ z => z.elim⟩
  · by_cases z : d = e
    · rw [z, he'] at hd
      have e3 : c' = k := congrArg (·.2.2) (Option.some.inj hd)
      rw [← e3]; exact hcI
    · rw [ho d z] at hd; exact h.wl d x y k hd
  · obtain ⟨x, k, g1, g2, g3⟩ := h.eqn hwf hne
    by_cases z : lst T w = e
    · rw [z, he] at g1
      have e1 : u = x := congrArg (·.1) (Option.some.inj g1)
      have e2 : v = w := congrArg (·.2.1) (Option.some.inj g1)
      have e3 : c = k := congrArg (·.2.2) (Option.some.inj g1)
      subst e1 e2 e3
      have h1 := hk z hwf
      have h2 := hup _ (h.le_ u)
      exact ⟨u, c', by rw [z]; exact he', g2, h1, .inl (by omega)⟩
    · exact ⟨x, k, by rw [ho _ z]; exact g1, g2, by rw [g3]; exact Nat.le_refl _, .inl g3⟩
  · by_cases z : d = e
    · rw [z, he'] at hd
      have e1 : u = x := congrArg (·.1) (Option.some.inj hd)
      have e2 : v = y := congrArg (·.2.1) (Option.some.inj hd)
      have e3 : c' = k := congrArg (·.2.2) (Option.some.inj hd)
      subst e1 e2 e3
      obtain ⟨g1, g2⟩ := h.clo e u v c he hx (fun q => q) (fun q => by cases q)
      exact ⟨g1, Nat.le_trans g2 (hup _ (h.le_ u))⟩
    · rw [ho d z] at hd; exact h.clo d x y k hd hx (fun q => q) (fun q => by cases q)
  · obtain ⟨l, hc⟩ := h.chn w hwf
    refine ⟨l, ?_⟩
    have key : ∀ (l : List Int) (w : Int), Chain E s T w l → Chain E' s T w l := by
      intro l
      induction l with
      | nil => intro w hw; exact hw
      | cons d l ih =>
        intro w hw
        obtain ⟨h1, h2, u2, c2, h3, h4, h5⟩ := hw
        obtain ⟨k', f1⟩ := hE _ _ _ _ h3
        exact ⟨h1, h2, u2, k', f1, h4, ih u2 h5⟩
    exact key l w hc
/-- The source alone. -/
theorem Right.new (s : Int) : Right (fun _ => none) s (upd (fun _ => (false, 0, 0)) s (true, 0, 0)) := by
  have fs : ∀ w, fnd (upd (fun _ => (false, 0, 0)) s (true, 0, 0)) w = true → w = s := fun w q => by
    by_cases z : w = s
    · exact z
    · unfold fnd at q; rw [upd_ne z] at q; cases q
  refine ⟨⟨by unfold fnd; rw [upd_self], by unfold cst; rw [upd_self], by unfold lst; rw [upd_self]⟩, fun v hv => ?_, fun v => ?_, fun _ _ _ _ q => (by cases q), rfl, fun v hv hne => absurd (fs v hv) hne, fun _ _ _ _ q => (by cases q), fun v hv => ⟨[], fs v hv⟩, fun _ z => z.elim⟩
  · by_cases z : v = s
    · rw [z] at hv; unfold fnd at hv; rw [upd_self] at hv; cases hv
    · unfold cst lst; rw [upd_ne z]; exact ⟨rfl, rfl⟩
  · by_cases z : v = s
    · unfold cst; rw [z, upd_self]; exact Nat.zero_le _
    · unfold cst; rw [upd_ne z]; exact Nat.zero_le _
end
end L14
end Go.Proofs.Ytbmcibofecigeaa
