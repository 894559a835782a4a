/- The memory of HeapWrong: the heap, the array of marks, the array of lists. -/
import Derived.Test.YtfhpabcjbjmcmaaWrongL
import Derived.Laws.Rows
namespace Go.Proofs.Ytfhpabcjbjmcmaa
open Go.RowKit Go.Maps

def nums (l : List Int) : List Value := l.map fun z => .int .i64 z
theorem nums_length (l : List Int) : (nums l).length = l.length := by simp [nums]
theorem nums_one (l : List Int) : ∀ u ∈ nums l, u.oneCell' = true := by
  intro u hu
  simp only [nums, List.mem_map] at hu
  obtain ⟨z, -, rfl⟩ := hu
  rfl
/-- f, but x at k. -/
def putN {α : Type} (f : Nat → α) (k : Nat) (x : α) : Nat → α := fun j => if j = k then x else f j
theorem putN_self {α : Type} (f : Nat → α) (k : Nat) (x : α) : putN f k x k = x := by simp [putN]
theorem putN_other {α : Type} (f : Nat → α) {k j : Nat} (x : α) (h : j ≠ k) : putN f k x j = f j := by simp [putN, h]

/-- An array of 16 cells. -/
def Arr (W : World) (b : Nat) (t : TypeId) (g : Nat → Value) : Prop := ∃ fa : Array Value, W.heap[b]? = some (.cells fa t (0, 0)) ∧ fa.size = 16 ∧ ∀ k, k < 16 → fa[k]? = some (g k)
theorem Arr.cell {W : World} {b : Nat} {t : TypeId} {g : Nat → Value} (h : Arr W b t g) {k : Nat} (hk : k < 16) : W.cell? ⟨b, k, none⟩ = some (g k) := by
  obtain ⟨fa, h1, h2, h3⟩ := h
  rw [cell_of_row _ _ _ _ _ _ h1]
  exact h3 k hk
theorem Arr.frozen {W : World} {b : Nat} {t : TypeId} {g : Nat → Value} (h : Arr W b t g) (o : Nat) : W.frozen? ⟨b, o, none⟩ = false := by
  obtain ⟨fa, h1, -⟩ := h
  exact frozen_of_row _ _ o _ _ h1
theorem Arr.lt {W : World} {b : Nat} {t : TypeId} {g : Nat → Value} (h : Arr W b t g) : b < W.heap.size := by
  obtain ⟨fa, h1, -⟩ := h
  exact (Array.getElem?_eq_some_iff.1 h1).1
theorem Arr.kept {W W' : World} {b : Nat} {t : TypeId} {g : Nat → Value} (h : Arr W b t g) (he : W'.heap[b]? = W.heap[b]?) : Arr W' b t g := by
  obtain ⟨fa, h1, h2⟩ := h
  exact ⟨fa, he.trans h1, h2⟩
theorem Arr.set {W : World} {b : Nat} {t : TypeId} {g : Nat → Value} (h : Arr W b t g) {k : Nat} (hk : k < 16) (x : Value) : Arr (W.setCell ⟨b, k, none⟩ x) b t (putN g k x) := by
  obtain ⟨fa, h1, h2, h3⟩ := h
  refine ⟨fa.setIfInBounds k x, heap_setCell_same _ _ _ _ _ _ h1, by simpa using h2, fun j hj => ?_⟩
  by_cases e : j = k
  · subst e
    rw [putN_self]
    simp [h2, hk]
  · rw [putN_other _ _ e, Array.getElem?_setIfInBounds_ne (fun e2 => e e2.symm)]
    exact h3 j hj

/-- The memory. -/
structure LMem [Inhabited EntI] (B : Nat) (w0 : World) (lv : Value) (Inv : Nat → World → Prop) (D : Nat → Prop) (p bi bg ob : Nat) (es : List EntI) (n c : Nat) (f : Nat → Bool) (gv : Nat → Value) (gl : Nat → List Int) (W : World) : Prop where
  below : Below B w0 W
  room : B ≤ W.heap.size
  heap : ∃ m v, WH lv Inv D c W p m v es n ∧ ∀ k, Foot p m v k → B ≤ k ∧ k ≠ bi ∧ k ≠ bg ∧ k ≠ ob ∧ ∀ j, j < 16 → (gv j).ownBlock ≠ some k
  ins : Arr W bi 50 (fun k => .bool (f k))
  gave : Arr W bg 51 gv
  rows : ∀ k, k < 16 → W.ownsRow B 3 1 (gv k) (gl k).length (nums (gl k))
  apart : ∀ k, k < 16 → ∀ b, (gv k).ownBlock = some b → b ≠ bi ∧ b ≠ bg ∧ (b ≠ ob ∧ ¬ D b) ∧ ∀ j, j < 16 → j ≠ k → (gv j).ownBlock ≠ some b
  ne : bi ≠ bg
  hbi : B ≤ bi ∧ ¬ D bi
  hbg : B ≤ bg ∧ ¬ D bg
  hob : ¬ D ob ∧ ob < W.heap.size

/-- What the marks and lists say of the heap. -/
structure LFit (es : List EntI) (f : Nat → Bool) (gl : Nat → List Int) : Prop where
  marks : ∀ k : Nat, k < 16 → (f k = true ↔ ∃ x ∈ es, x.key = (k : Int))
  keys : ∀ x ∈ es, ∃ k : Nat, k < 16 ∧ x.key = (k : Int) ∧ x.rank ∈ gl k

theorem row1_kept {W W' : World} {B n : Nat} {v : Value} {xs : List Value} (h : W.ownsRow B 3 1 v n xs) (hk : ∀ b, v.ownBlock = some b → W'.heap[b]? = W.heap[b]?) : W'.ownsRow B 3 1 v n xs := by
  refine ⟨h.1, ?_⟩
  rcases h.2 with hn | ⟨g, cap, cur, rfl, hb, hgg, rest⟩
  · exact .inl hn
  · exact .inr ⟨g, cap, cur, rfl, hb, (hk g rfl).trans hgg, rest⟩

section
variable [Inhabited EntI] {B : Nat} {w0 W W' : World} {lv : Value} {Inv : Nat → World → Prop} {A D : Nat → Prop} {p bi bg ob n n' c K : Nat} {es es1 : List EntI} {f : Nat → Bool} {gv : Nat → Value} {gl : Nat → List Int}

/-- Behind a call of the heap. -/
theorem LMem.called {m : Nat} {v : Value} (h : LMem B w0 lv Inv D p bi bg ob es n c f gv gl W) (he : Env lv Inv A D) (_hw : WH lv Inv D c W p m v es n) (hf : ∀ k, Foot p m v k → B ≤ k ∧ k ≠ bi ∧ k ≠ bg ∧ k ≠ ob ∧ ∀ j, j < 16 → (gv j).ownBlock ≠ some k) (hA : ∀ k, A k → B ≤ k) (hc : ChangedW lv Inv A D c K W p m v es1 n' W') :
    ∃ es' c', es'.Perm es1 ∧ c' ≤ c + K ∧ LMem B w0 lv Inv D p bi bg ob es' n' c' f gv gl W' ∧ W'.heap[ob]? = W.heap[ob]? := by
  obtain ⟨v', es', c', g1, g2, g3, g4, g5⟩ := hc
  have same : ∀ k, k < W.heap.size → (¬ Foot p m v k) → ¬ D k → W'.heap[k]? = W.heap[k]? := fun k hk h1 h2 => g4.block k hk (fun x => x.elim h1 (fun a => h2 (he.sub k a)))
  have nf : ∀ {k}, (k = bi ∨ k = bg ∨ k = ob ∨ ∃ j, j < 16 ∧ (gv j).ownBlock = some k) → ¬ Foot p m v k := fun {k} h1 h2 => by
    obtain ⟨a1, a2, a3, a5, a4⟩ := hf k h2
    rcases h1 with h1 | h1 | h1 | ⟨j, hj, h1⟩
    · exact a2 h1
    · exact a3 h1
    · exact a5 h1
    · exact a4 j hj h1
  have rlt : ∀ j, j < 16 → ∀ b, (gv j).ownBlock = some b → b < W.heap.size := fun j hj b hb => ((h.rows j hj).lt b hb).2
  refine ⟨es', c', g1, g2, ⟨h.below.trans (g4.below h.room (fun k hk => hk.elim (fun x => (hf k x).1) (hA k))), Nat.le_trans h.room g4.size, ⟨m, v', g3, fun k hk => ?_⟩, h.ins.kept (same _ h.ins.lt (nf (.inl rfl)) h.hbi.2), h.gave.kept (same _ h.gave.lt (nf (.inr (.inl rfl))) h.hbg.2), fun j hj => row1_kept (h.rows j hj) (fun b hb => same b (rlt j hj b hb) (nf (.inr (.inr (.inr ⟨j, hj, hb⟩)))) (h.apart j hj b hb).2.2.1.2), h.apart, h.ne, h.hbi, h.hbg, h.hob.1, Nat.lt_of_lt_of_le h.hob.2 g4.size⟩, same _ h.hob.2 (nf (.inr (.inr (.inl rfl)))) h.hob.1⟩
  have hcase : Foot p m v k ∨ W.heap.size ≤ k := by
    rcases hk with hk | hk | hk
    · exact .inl (.inl hk)
    · exact .inl (.inr (.inl hk))
    · exact (g5 k hk).imp (fun e => .inr (.inr e)) id
  rcases hcase with hk | hk
  · exact hf k hk
  · have := h.room
    have := h.ins.lt
    have := h.gave.lt
    have := h.hob.2
    exact ⟨by omega, by omega, by omega, by omega, fun j hj e => by have := rlt j hj k e; omega⟩

/-- Behind what makes memory alone. -/
theorem LMem.step (h : LMem B w0 lv Inv D p bi bg ob es n c f gv gl W) (he : Env lv Inv A D) (hb : Below W.heap.size W W') : LMem B w0 lv Inv D p bi bg ob es n c f gv gl W' := by
  obtain ⟨m, v, hw, hf⟩ := h.heap
  have same : ∀ k, k < W.heap.size → W'.heap[k]? = W.heap[k]? := fun k hk => hb.block k hk
  exact ⟨h.below.trans (hb.mono h.room), Nat.le_trans h.room hb.size, ⟨m, v, ⟨hw.at_.kept (fun k hk => same k (hw.at_.lt hk)), he.keep _ _ _ hw.inv (fun k hk => same k (he.lt _ _ k hw.inv hk)), hw.off⟩, hf⟩, h.ins.kept (same _ h.ins.lt), h.gave.kept (same _ h.gave.lt), fun j hj => row1_kept (h.rows j hj) (fun b hb => same b ((h.rows j hj).lt b hb).2), h.apart, h.ne, h.hbi, h.hbg, h.hob.1, Nat.lt_of_lt_of_le h.hob.2 hb.size⟩

/-- A mark is written. -/
theorem LMem.mark (h : LMem B w0 lv Inv D p bi bg ob es n c f gv gl W) (he : Env lv Inv A D) {k : Nat} (hk : k < 16) (x : Bool) : LMem B w0 lv Inv D p bi bg ob es n c (putN f k x) gv gl (W.setCell ⟨bi, k, none⟩ (.bool x)) := by
  obtain ⟨m, v, hw, hf⟩ := h.heap
  have oth : ∀ j, j ≠ bi → (W.setCell ⟨bi, k, none⟩ (.bool x)).heap[j]? = W.heap[j]? := fun j hj => heap_setCell_other _ _ _ _ hj
  have e : (fun j => Value.bool (putN f k x j)) = putN (fun j => .bool (f j)) k (.bool x) := by
    funext j
    by_cases e : j = k
    · rw [e, putN_self, putN_self]
    · rw [putN_other _ _ e, putN_other _ _ e]
  refine ⟨h.below.setCell (p := ⟨bi, k, none⟩) h.hbi.1 _, by simpa using h.room, ⟨m, v, ⟨hw.at_.kept (fun j hj => oth j (hf j hj).2.1), he.keep _ _ _ hw.inv (fun j hj => oth j (fun e => h.hbi.2 (e ▸ hj))), hw.off⟩, hf⟩, ?_, h.gave.kept (oth _ (Ne.symm h.ne)), fun j hj => row1_kept (h.rows j hj) (fun b hb => oth b (h.apart j hj b hb).1), h.apart, h.ne, h.hbi, h.hbg, h.hob.1, by simpa using h.hob.2⟩
  rw [e]
  exact h.ins.set hk _

/-- A list is written: its row lies in a block of its own. -/
theorem LMem.list (h : LMem B w0 lv Inv D p bi bg ob es n c f gv gl W) (he : Env lv Inv A D) {k : Nat} (hk : k < 16) {v' : Value} {l : List Int} (hr : W.ownsRow B 3 1 v' l.length (nums l)) (hd : ∀ b, v'.ownBlock = some b → b ≠ bi ∧ b ≠ bg ∧ (b ≠ ob ∧ ¬ D b) ∧ ∀ j, j < 16 → j ≠ k → (gv j).ownBlock ≠ some b) (hfo : ∀ m v, WH lv Inv D c W p m v es n → (∀ k, Foot p m v k → B ≤ k ∧ k ≠ bi ∧ k ≠ bg ∧ k ≠ ob ∧ ∀ j, j < 16 → (gv j).ownBlock ≠ some k) → ∀ b, v'.ownBlock = some b → ¬ Foot p m v b) :
    LMem B w0 lv Inv D p bi bg ob es n c f (putN gv k v') (putN gl k l) (W.setCell ⟨bg, k, none⟩ v') := by
  obtain ⟨m, v, hw, hf⟩ := h.heap
  have oth : ∀ j, j ≠ bg → (W.setCell ⟨bg, k, none⟩ v').heap[j]? = W.heap[j]? := fun j hj => heap_setCell_other _ _ _ _ hj
  refine ⟨h.below.setCell (p := ⟨bg, k, none⟩) h.hbg.1 _, by simpa using h.room, ⟨m, v, ⟨hw.at_.kept (fun j hj => oth j (hf j hj).2.2.1), he.keep _ _ _ hw.inv (fun j hj => oth j (fun e => h.hbg.2 (e ▸ hj))), hw.off⟩, fun j hj => ⟨(hf j hj).1, (hf j hj).2.1, (hf j hj).2.2.1, (hf j hj).2.2.2.1, fun i hi e => ?_⟩⟩, h.ins.kept (oth _ h.ne), h.gave.set hk _, fun j hj => ?_, fun j hj b hb => ?_, h.ne, h.hbi, h.hbg, h.hob.1, by simpa using h.hob.2⟩
  · by_cases e1 : i = k
    · rw [e1, putN_self] at e
      exact hfo m v hw hf j e hj
    · rw [putN_other _ _ e1] at e
      exact (hf j hj).2.2.2.2 i hi e
  · by_cases e1 : j = k
    · rw [e1, putN_self, putN_self]
      exact row1_kept hr (fun b hb => oth b (hd b hb).2.1)
    · rw [putN_other _ _ e1, putN_other _ _ e1]
      exact row1_kept (h.rows j hj) (fun b hb => oth b (h.apart j hj b hb).2.1)
  · by_cases e1 : j = k
    · rw [e1, putN_self] at hb
      obtain ⟨a1, a2, a3, a4⟩ := hd b hb
      refine ⟨a1, a2, a3, fun i hi hij => ?_⟩
      rw [putN_other _ _ (by rw [← e1]; exact hij)]
      exact a4 i hi (by rw [← e1]; exact hij)
    · rw [putN_other _ _ e1] at hb
      obtain ⟨a1, a2, a3, a4⟩ := h.apart j hj b hb
      refine ⟨a1, a2, a3, fun i hi hij e => ?_⟩
      by_cases e2 : i = k
      · rw [e2, putN_self] at e
        exact (hd b e).2.2.2 j hj e1 hb
      · rw [putN_other _ _ e2] at e
        exact a4 i hi hij e
end

section
variable [Inhabited EntI] {B : Nat} {w0 W : World} {lv : Value} {Inv : Nat → World → Prop} {A D : Nat → Prop} {p bi bg ob n c : Nat} {es : List EntI} {f : Nat → Bool} {gv : Nat → Value} {gl : Nat → List Int}
/-- Another box. -/
theorem LMem.box (h : LMem B w0 lv Inv D p bi bg ob es n c f gv gl W) (he : Env lv Inv A D) (o : Obj) : LMem B w0 lv Inv D p bi bg W.heap.size es n c f gv gl (W.alloc o) := by
  have h1 := h.step he ((Below.refl _ _).alloc (Nat.le_refl _) o)
  obtain ⟨m, v, hw, hf⟩ := h.heap
  have hw1 : WH lv Inv D c (W.alloc o) p m v es n := by
    have same : ∀ k, k < W.heap.size → (W.alloc o).heap[k]? = W.heap[k]? := fun k hk => ((Below.refl W.heap.size W).alloc (Nat.le_refl _) o).block k hk
    exact ⟨hw.at_.kept (fun k hk => same k (hw.at_.lt hk)), he.keep _ _ _ hw.inv (fun k hk => same k (he.lt _ _ k hw.inv hk)), hw.off⟩
  refine ⟨h1.below, h1.room, ⟨m, v, hw1, fun k hk => ?_⟩, h1.ins, h1.gave, h1.rows, fun k hk b hb => ?_, h1.ne, h1.hbi, h1.hbg, fun hd => ?_, by simp⟩
  · obtain ⟨a1, a2, a3, a4, a5⟩ := hf k hk
    exact ⟨a1, a2, a3, by have := hw.at_.lt hk; omega, a5⟩
  · obtain ⟨a1, a2, a3, a4⟩ := h.apart k hk b hb
    exact ⟨a1, a2, ⟨by have := ((h.rows k hk).lt b hb).2; omega, a3.2⟩, a4⟩
  · have := he.lt _ _ _ hw.inv hd
    omega
theorem LMem.once (h : LMem B w0 lv Inv D p bi bg ob es n c f gv gl W) : KeysOnce es := by
  obtain ⟨m, v, hw, -⟩ := h.heap
  obtain ⟨D', -, hM⟩ := hw.at_.map
  exact hM.once
end

/-! ### what is said of the heap -/

/-- As many marks as entries. -/
theorem fit_count {es : List EntI} {f : Nat → Bool} {gl : Nat → List Int} (h : LFit es f gl) (ho : KeysOnce es) : (List.range 16).countP f = es.length := by
  have hp : (((List.range 16).filter f).map (fun k : Nat => (k : Int))).Perm (es.map (·.key)) := by
    refine (List.perm_ext_iff_of_nodup ?_ ?_).2 (fun z => ?_)
    · have hn : ((List.range 16).filter f).Nodup := (List.nodup_range).filter _
      exact List.Pairwise.map _ (fun a b hab e => hab (by omega)) hn
    · exact List.Pairwise.map _ (fun a b hab => hab) ho
    · simp only [List.mem_map, List.mem_filter, List.mem_range]
      constructor
      · rintro ⟨k, ⟨hk, hf⟩, rfl⟩
        obtain ⟨x, hx, e⟩ := (h.marks k hk).1 hf
        exact ⟨x, hx, e⟩
      · rintro ⟨x, hx, rfl⟩
        obtain ⟨k, hk, e, -⟩ := h.keys x hx
        exact ⟨k, ⟨hk, (h.marks k hk).2 ⟨x, hx, e⟩⟩, e.symm⟩
  have := hp.length_eq
  rw [List.length_map, List.length_map] at this
  rw [List.countP_eq_length_filter]
  exact this
theorem fit_len {es : List EntI} {f : Nat → Bool} {gl : Nat → List Int} (h : LFit es f gl) (ho : KeysOnce es) : es.length ≤ 16 := by
  rw [← fit_count h ho]
  have := List.countP_le_length (p := f) (l := List.range 16)
  simpa using this

theorem fit_perm {es es' : List EntI} {f : Nat → Bool} {gl : Nat → List Int} (h : LFit es f gl) (hp : es'.Perm es) : LFit es' f gl :=
  ⟨fun k hk => (h.marks k hk).trans ⟨fun ⟨x, hx, e⟩ => ⟨x, hp.mem_iff.2 hx, e⟩, fun ⟨x, hx, e⟩ => ⟨x, hp.mem_iff.1 hx, e⟩⟩, fun x hx => h.keys x (hp.mem_iff.1 hx)⟩
theorem fit_push {es : List EntI} {f : Nat → Bool} {gl : Nat → List Int} (h : LFit es f gl) {k : Nat} (hk : k < 16) (r : Int) (t : Nat) (hno : ∀ x ∈ es, x.key ≠ (k : Int)) : LFit (es ++ [⟨(k : Int), r, t⟩]) (putN f k true) (putN gl k [r]) := by
  refine ⟨fun j hj => ?_, fun x hx => ?_⟩
  · by_cases e : j = k
    · subst e
      rw [putN_self]
      exact ⟨fun _ => ⟨⟨(j : Int), r, t⟩, by simp, rfl⟩, fun _ => rfl⟩
    · rw [putN_other _ _ e, h.marks j hj]
      constructor
      · rintro ⟨x, hx, e2⟩
        exact ⟨x, by simp [hx], e2⟩
      · rintro ⟨x, hx, e2⟩
        rcases List.mem_append.1 hx with hx | hx
        · exact ⟨x, hx, e2⟩
        · simp at hx
          subst hx
          simp at e2
          omega
  · rcases List.mem_append.1 hx with hx | hx
    · obtain ⟨j, hj, e1, e2⟩ := h.keys x hx
      have hjk : j ≠ k := fun e => hno x hx (by rw [e1, e])
      exact ⟨j, hj, e1, by rw [putN_other _ _ hjk]; exact e2⟩
    · simp at hx
      subst hx
      exact ⟨k, hk, rfl, by rw [putN_self]; simp⟩
theorem fit_without {es : List EntI} {f : Nat → Bool} {gl : Nat → List Int} (h : LFit es f gl) {k : Nat} : LFit (without (k : Int) es) (putN f k false) gl := by
  refine ⟨fun j hj => ?_, fun x hx => h.keys x (List.mem_filter.1 hx).1⟩
  by_cases e : j = k
  · subst e
    rw [putN_self]
    refine ⟨fun h => (by cases h), fun ⟨x, hx, e2⟩ => ?_⟩
    have := (List.mem_filter.1 hx).2
    simp [e2] at this
  · rw [putN_other _ _ e, h.marks j hj]
    constructor
    · rintro ⟨x, hx, e2⟩
      refine ⟨x, List.mem_filter.2 ⟨hx, ?_⟩, e2⟩
      simp [e2]
      omega
    · rintro ⟨x, hx, e2⟩
      exact ⟨x, (List.mem_filter.1 hx).1, e2⟩
theorem fit_lowered {es : List EntI} {f : Nat → Bool} {gl : Nat → List Int} (h : LFit es f gl) {k : Nat} (hk : k < 16) (r : Int) : LFit (lowered (k : Int) r es) f (putN gl k (gl k ++ [r])) := by
  have key : ∀ x ∈ lowered (k : Int) r es, ∃ y ∈ es, x.key = y.key ∧ (x = y ∨ x.key = (k : Int) ∧ x.rank = r) := fun x hx => by
    unfold lowered at hx
    obtain ⟨y, hy, rfl⟩ := List.mem_map.1 hx
    by_cases e : y.key = (k : Int)
    · exact ⟨y, hy, by simp [e], .inr (by simp [e])⟩
    · exact ⟨y, hy, by simp [e], .inl (by simp [e])⟩
  have back : ∀ y ∈ es, ∃ x ∈ lowered (k : Int) r es, x.key = y.key := fun y hy => by
    refine ⟨_, List.mem_map.2 ⟨y, hy, rfl⟩, ?_⟩
    by_cases e : y.key = (k : Int)
    · simp [e]
    · simp [e]
  refine ⟨fun j hj => (h.marks j hj).trans ⟨fun ⟨y, hy, e⟩ => ?_, fun ⟨x, hx, e⟩ => ?_⟩, fun x hx => ?_⟩
  · obtain ⟨x, hx, e2⟩ := back y hy
    exact ⟨x, hx, e2.trans e⟩
  · obtain ⟨y, hy, e2, -⟩ := key x hx
    exact ⟨y, hy, e2.symm.trans e⟩
  · obtain ⟨y, hy, e1, e2⟩ := key x hx
    obtain ⟨j, hj, f1, f2⟩ := h.keys y hy
    refine ⟨j, hj, e1.trans f1, ?_⟩
    by_cases e3 : j = k
    · subst e3
      rw [putN_self]
      rcases e2 with e2 | ⟨-, e2⟩
      · rw [e2]; exact List.mem_append_left _ f2
      · rw [e2]; simp
    · rw [putN_other _ _ e3]
      rcases e2 with e2 | ⟨e2, -⟩
      · rw [e2]; exact f2
      · rw [e1, f1] at e2; omega
end Go.Proofs.Ytfhpabcjbjmcmaa
