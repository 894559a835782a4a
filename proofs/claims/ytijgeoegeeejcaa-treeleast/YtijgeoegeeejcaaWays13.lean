/- waysOf. -/
import Derived.Test.YtijgeoegeeejcaaBare13
namespace Go.Proofs.Ytijgeoegeeejcaa
open Go.RowKit Go.Maps
attribute [local go_sem] run_storeF
/-- The ways of each place, in memory. -/
structure WyAt (B : Nat) (w : World) (v : Value) (xs : List SlV) (wss : List (List WyV)) : Prop where
  outer : HdRow B w v xs
  len : xs.length = wss.length
  inner : ∀ (i : Nat) (x : SlV) (ws : List WyV), xs[i]? = some x → wss[i]? = some ws → WRow B w (slv x) ws
  ap0 : ∀ (i : Nat) (x : SlV) (b : Nat), xs[i]? = some x → (slv x).ownBlock = some b → v.ownBlock ≠ some b
  ap : ∀ (i j : Nat) (x y : SlV) (b : Nat), i ≠ j → xs[i]? = some x → xs[j]? = some y → (slv x).ownBlock = some b → (slv y).ownBlock ≠ some b
theorem WyAt.below {B : Nat} {w w' : World} {v : Value} {xs : List SlV} {wss : List (List WyV)} (h : WyAt B w v xs wss) (hb : Below w.heap.size w w') : WyAt B w' v xs wss :=
  ⟨rrow_below h.outer hb, h.len, fun i x ws h1 h2 => rrow_below (h.inner i x ws h1 h2) hb, h.ap0, h.ap⟩
theorem mkW {n : Nat} (hn : n ≤ 1000000) (w : World) : (Instr.makeSlice 58 (.int .i64 (n : Nat)) (.int .i64 (n : Nat))).run Try.prog w = .ok (.slice (some ⟨w.heap.size, 0, none⟩) n n) (w.alloc (.cells (madeCells #[.slice none 0 0] n) 95)) :=
  run_make_row' 58 95 (.slice none 0 0) 24 Try.underlying58 infoWS rfl .i64 .i64 n (by omega) (by omega) w
theorem flat_rep (n : Nat) : (List.replicate n ((none, 0, 0) : SlV)).flatMap encS = List.replicate n (.slice none 0 0) := by
  induction n with
  | zero => rfl
  | succ n ih => rw [List.replicate_succ, List.flatMap_cons, ih, List.replicate_succ]; rfl
theorem wy_made {n : Nat} (hn : n ≤ 1000000) (w : World) : WyAt w.heap.size (w.alloc (.cells (madeCells #[.slice none 0 0] n) 95)) (.slice (some ⟨w.heap.size, 0, none⟩) n n) (List.replicate n (none, 0, 0)) (List.replicate n []) := by
  refine ⟨⟨by rw [flat_rep]; simp, .inr ⟨w.heap.size, n, madeCells #[.slice none 0 0] n, by simp, Nat.le_refl _, heap_alloc_new _ _, by simp, by unfold maxLen; omega, ?_, ?_⟩⟩, by simp, fun i x ws h1 h2 => ?_, fun i x b h1 e => ?_, fun i j x y b _ h1 _ e => ?_⟩
  · rw [← Array.length_toList, made_list]; simp
  · rw [made_list, flat_rep]; simp
  · rw [List.eq_of_mem_replicate (List.mem_of_getElem? h1), List.eq_of_mem_replicate (List.mem_of_getElem? h2)]
    exact ⟨rfl, .inl ⟨rfl, rfl⟩⟩
  · rw [List.eq_of_mem_replicate (List.mem_of_getElem? h1)] at e; cases e
  · rw [List.eq_of_mem_replicate (List.mem_of_getElem? h1)] at e; cases e
/-- A way more at one place. -/
theorem wy_step {B : Nat} {w : World} {g n c f : Nat} {xs : List SlV} {wss : List (List WyV)} {x : SlV} {ws : List WyV} (h : WyAt B w (.slice (some ⟨g, 0, none⟩) n c) xs wss) (hB : B ≤ w.heap.size) (hx : xs[f]? = some x) (hw : wss[f]? = some ws) (hl : ws.length ≤ 1000) (y : WyV) :
    ∃ a' n' c' w', (∀ ty, (Builtin.append_ #[95, 95] ty #[slv x, .slice (some ⟨w.heap.size, 0, none⟩) 1 1]).run Try.prog (w.alloc (.cells #[.int .i64 y.1, .int .i64 (y.2.1 : Nat), .float .f32 y.2.2] 97)) = .ok (.slice a' n' c') w') ∧ w'.cell? ⟨g, f, none⟩ = some (slv x) ∧ (∀ o, w'.frozen? ⟨g, o, none⟩ = false) ∧ Turned (fun b => (slv x).ownBlock = some b) w w' ∧
      WyAt B (w'.setCell ⟨g, f, none⟩ (.slice a' n' c')) (.slice (some ⟨g, 0, none⟩) n c) (xs.set f (a', n', c')) (wss.set f (ws ++ [y])) := by
  have hin := h.inner f x ws hx hw
  have hxl := (List.getElem?_eq_some_iff.1 hx).1
  obtain ⟨a', n', c', w', r, g1, g2, g3⟩ := run_app1 kitW (ts := 95) Try.underlying95 infoW rfl (by omega) y (cs := #[.int .i64 y.1, .int .i64 (y.2.1 : Nat), .float .f32 y.2.2]) rfl hin hB (by omega)
  have hg0 : (Value.slice (some ⟨g, 0, none⟩) n c).ownBlock = some g := rfl
  have hgl := (h.outer.lt g hg0).2
  have ho : HdRow B w' (.slice (some ⟨g, 0, none⟩) n c) xs := rrow_kept h.outer (fun b e => g2.block b (h.outer.lt b e).2 (fun q => h.ap0 f x b hx q e))
  have hnew : ∀ b, (Value.slice a' n' c').ownBlock = some b → b ≠ g := fun b e q => by
    rcases g3 b e with z | z
    · exact h.ap0 f x b hx z (by rw [q]; rfl)
    · omega
  have hset := rrow_set kitS ho hx (x' := (a', n', c')) (j := 0) (by omega) (u := .slice a' n' c') rfl
  rw [Nat.mul_one, Nat.add_zero] at hset
  refine ⟨a', n', c', w', r, hdrow_at ho hx, rrow_frozen ho (by omega), g2, hset, by rw [List.length_set, List.length_set]; exact h.len, fun i z zs h1 h2 => ?_, fun i z b h1 e => ?_, fun i j z z' b hne h1 h2 e => ?_⟩
  · by_cases q : i = f
    · subst q
      rw [List.getElem?_set_self hxl] at h1
      rw [List.getElem?_set_self (by rw [← h.len]; exact hxl)] at h2
      injection h1 with h1
      injection h2 with h2
      subst h1 h2
      exact rrow_kept g1 (fun b e => heap_setCell_other _ _ _ _ (hnew b e))
    · rw [List.getElem?_set_ne (fun z => q z.symm)] at h1 h2
      have hr := h.inner i z zs h1 h2
      refine rrow_kept hr (fun b e => ?_)
      rw [heap_setCell_other _ _ _ _ (fun z2 => h.ap0 i z b h1 e (by have z3 : b = g := z2; rw [z3]; rfl))]
      exact g2.block b (hr.lt b e).2 (fun z2 => h.ap i f z x b q h1 hx e z2)
  · by_cases q : i = f
    · subst q
      rw [List.getElem?_set_self hxl] at h1
      injection h1 with h1
      subst h1
      exact fun z2 => hnew b e (own_eq z2).symm
    · rw [List.getElem?_set_ne (fun z => q z.symm)] at h1
      exact h.ap0 i z b h1 e
  · have old : ∀ (i : Nat) (z : SlV) (b : Nat), i ≠ f → xs[i]? = some z → (slv z).ownBlock = some b → (Value.slice a' n' c').ownBlock ≠ some b := fun i z b q h1 e e2 => by
      rcases g3 b e2 with y2 | y2
      · exact h.ap i f z x b q h1 hx e y2
      · have hlz : i < wss.length := by rw [← h.len]; exact (List.getElem?_eq_some_iff.1 h1).1
        have := ((h.inner i z _ h1 (List.getElem?_eq_getElem hlz)).lt b e).2; omega
    by_cases q : i = f
    · subst q
      rw [List.getElem?_set_self hxl] at h1
      injection h1 with h1
      subst h1
      rw [List.getElem?_set_ne hne] at h2
      exact fun e2 => old j z' b (fun z2 => hne z2.symm) h2 e2 e
    · rw [List.getElem?_set_ne (fun z => q z.symm)] at h1
      by_cases q2 : j = f
      · subst q2
        rw [List.getElem?_set_self hxl] at h2
        injection h2 with h2
        subst h2
        exact old i z b q h1 e
      · rw [List.getElem?_set_ne (fun z => q2 z.symm)] at h2
        exact h.ap i j z z' b hne h1 h2 e
/-- Where a vertex stands. -/
def plc (ys : List Int) (v : Int) : Nat := ys.countP (fun x => decide (x < v))
/-- The weight's word. -/
def wtN (x : EdV) : Nat := ((kept x.2.2.2).getD 0).toNat
def wayOf (ys : List Int) (x : EdV) : WyV := (x.1, plc ys x.2.2.1, wtN x)
/-- The ways of each place. -/
def waysL (ys : List Int) (es : List EdV) : List (List WyV) := (List.range ys.length).map (fun p => (es.filter (fun x => decide (plc ys x.2.1 = p))).map (wayOf ys))
theorem waysL_nil (ys : List Int) : waysL ys [] = List.replicate ys.length [] := by
  unfold waysL
  apply List.ext_getElem?
  intro i
  by_cases h : i < ys.length
  · simp [h]
  · simp [h]
theorem waysL_at {ys : List Int} {es : List EdV} {p : Nat} (h : p < ys.length) : (waysL ys es)[p]? = some ((es.filter (fun x => decide (plc ys x.2.1 = p))).map (wayOf ys)) := by
  unfold waysL; simp [h]
theorem waysL_len (ys : List Int) (es : List EdV) : (waysL ys es).length = ys.length := by unfold waysL; simp
theorem waysL_snoc {ys : List Int} {es : List EdV} {x : EdV} {ws : List WyV} (hp : plc ys x.2.1 < ys.length) (hw : (waysL ys es)[plc ys x.2.1]? = some ws) : waysL ys (es ++ [x]) = (waysL ys es).set (plc ys x.2.1) (ws ++ [wayOf ys x]) := by
  rw [waysL_at hp] at hw
  injection hw with hw
  apply List.ext_getElem?
  intro i
  by_cases h : i < ys.length
  · rw [waysL_at h]
    by_cases q : i = plc ys x.2.1
    · subst q
      rw [List.getElem?_set_self (by rw [waysL_len]; exact hp), ← hw, List.filter_append, List.map_append]
      simp
    · rw [List.getElem?_set_ne (fun z => q z.symm), waysL_at h, List.filter_append]
      have : [x].filter (fun y => decide (plc ys y.2.1 = i)) = [] := by simp; exact fun z => q z.symm
      rw [this, List.append_nil]
  · rw [List.getElem?_eq_none (by rw [waysL_len]; omega), List.getElem?_eq_none (by rw [List.length_set, waysL_len]; omega)]
theorem plc_lt {ys : List Int} {v : Int} (hv : v ∈ ys) : plc ys v < ys.length := by
  unfold plc
  rcases Nat.lt_or_ge (ys.countP (fun x => decide (x < v))) ys.length with h | h
  · exact h
  · have := List.countP_eq_length.1 (Nat.le_antisymm List.countP_le_length h) v hv
    simp at this
def WysAns (w : World) (ys : List Int) (es : List EdV) (v : Value) (w' : World) : Prop := ∃ xs, WyAt w.heap.size w' v xs (waysL ys es) ∧ Below w.heap.size w w'
end Go.Proofs.Ytijgeoegeeejcaa
