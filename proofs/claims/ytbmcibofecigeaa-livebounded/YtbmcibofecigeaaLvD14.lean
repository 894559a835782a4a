/- The tree in memory is changed: edges, vertices, rows of numbers. -/
import Derived.Test.YtbmcibofecigeaaLvO14
import Derived.Test.YtbmcibofecigeaaLvN14
namespace Go.Proofs.Ytbmcibofecigeaa
open Go.RowKit Go.Maps
/-- What a call leaves alone: the blocks that are nobody's. -/
structure ChL (L : Lab) (w : World) (L' : Lab) (w' : World) : Prop where
  lab_ : ∀ b, b < w.heap.size → L' b = L b
  tur : Turned (fun b => L b ≠ none) w w'
theorem ChL.refl (L : Lab) (w : World) : ChL L w L w := ⟨fun _ _ => rfl, Turned.refl _ _⟩
theorem ChL.trans {L L1 L2 : Lab} {w w1 w2 : World} (h : ChL L w L1 w1) (k : ChL L1 w1 L2 w2) : ChL L w L2 w2 := by
  have hs := h.tur.size
  refine ⟨fun b hb => (k.lab_ b (by omega)).trans (h.lab_ b hb), ⟨k.tur.os.trans h.tur.os, k.tur.tape.trans h.tur.tape, k.tur.output.trans h.tur.output, Nat.le_trans hs k.tur.size, fun b hb hn => ?_⟩⟩
  rw [k.tur.block b (by omega) (by rw [h.lab_ b hb]; exact hn), h.tur.block b hb hn]
theorem ChL.below {L : Lab} {w w' : World} (h : Below w.heap.size w w') : ChL L w L w' := ⟨fun _ _ => rfl, turned_of_below h⟩
/-- A tree in memory, no label lying ahead. -/
structure LvS (L : Lab) (w : World) (p mv me : Nat) (s tc : Int) (V : Int → Option Nat) (nv : Nat) (E : L14.Es) (ne : Nat) (T : L14.Tr) (O I : Int → List Int) : Prop where
  at_ : LvAt L w p mv me s tc V nv E ne T O I
  fr : ∀ b, w.heap.size ≤ b → L b = none
def updO (O : Int → List Int) (u : Int) (ks : List Int) : Int → List Int := fun w => if w = u then ks else O w
theorem updO_self (O : Int → List Int) (u : Int) (ks : List Int) : updO O u ks u = ks := if_pos rfl
theorem updO_ne {O : Int → List Int} {u w : Int} {ks : List Int} (h : w ≠ u) : updO O u ks w = O w := if_neg h
def labV (L : Lab) (n : Nat) (v : Value) (x : Nat × Int) : Lab := fun d => if v.ownBlock = some d ∧ n ≤ d then some x else L d
section
variable {L L' : Lab} {w w' : World} {p mv me : Nat} {s tc : Int} {V : Int → Option Nat} {nv : Nat} {E E' : L14.Es} {ne ne' : Nat} {T T' : L14.Tr} {O O' I I' : Int → List Int}
theorem LvS.below (h : LvS L w p mv me s tc V nv E ne T O I) (hb : Below w.heap.size w w') : LvS L w' p mv me s tc V nv E ne T O I := ⟨h.at_.below hb, fun b q => h.fr b (Nat.le_trans hb.size q)⟩
/-- The map of edges is another. -/
theorem LvAt.edges (h : LvAt L w p mv me s tc V nv E ne T O I) (hk : ∀ d, d < w.heap.size → d ≠ me → w'.heap[d]? = w.heap[d]?) (he : MapG edG rdG (0, 0, 0) w' me E' ne') : LvAt L w' p mv me s tc V nv E' ne' T O I := by
  have hne : ∀ {d : Nat} {k : Nat} {u : Int}, L d = some (k, u) → k ≠ 3 → d ≠ me := fun {d k u} q r z => by
    rw [z, h.le] at q
    exact r (congrArg (·.1) (Option.some.inj q)).symm
  refine ⟨(hk p (Array.getElem?_eq_some_iff.1 h.box).1 (hne h.lp (by omega))).trans h.box, h.vs.kept (hk mv h.vs.lt (hne h.lv (by omega))), he, h.lp, h.lv, h.le, fun v b hb => ?_⟩
  obtain ⟨ov, iv, g1, g2, g3, g4, g5, g6⟩ := h.sp v b hb
  exact ⟨ov, iv, (hk b (Array.getElem?_eq_some_iff.1 g1).1 (hne g2 (by omega))).trans g1, g2, nrow_kept g3 (fun d e => hk d (g3.lt d e).2 (hne (g5 d e) (by omega))), nrow_kept g4 (fun d e => hk d (g4.lt d e).2 (hne (g6 d e) (by omega))), g5, g6⟩
/-- One vertex's blocks are others. -/
theorem LvAt.spot (h : LvAt L w p mv me s tc V nv E ne T O I) {v : Int} {b : Nat} (hV : V v = some b) (hL : ∀ d, d < w.heap.size → L' d = L d) (hk : ∀ d, d < w.heap.size → (∀ k, L d = some (k, v) → k < 4) → w'.heap[d]? = w.heap[d]?)
    (hs : ∃ ov iv, w'.heap[b]? = some (oSp ov iv (T' v)) ∧ NRow w' ov (O' v) ∧ NRow w' iv (I' v) ∧ (∀ d, ov.ownBlock = some d → L' d = some (5, v)) ∧ (∀ d, iv.ownBlock = some d → L' d = some (6, v))) (ht : ∀ u, u ≠ v → T' u = T u ∧ O' u = O u ∧ I' u = I u) : LvAt L' w' p mv me s tc V nv E ne T' O' I' := by
  have hp := (Array.getElem?_eq_some_iff.1 h.box).1
  have lo : ∀ {d : Nat} {j : Nat} {x : Int}, L d = some (j, x) → (j < 4 ∨ x ≠ v) → ∀ k, L d = some (k, v) → k < 4 := fun {d j x} q r k q2 => by
    rw [q] at q2
    have e := Option.some.inj q2
    have e1 : j = k := congrArg (·.1) e
    have e2 : x = v := congrArg (·.2) e
    rcases r with z | z
    · omega
    · exact absurd e2 z
  refine ⟨(hk p hp (lo h.lp (.inl (by omega)))).trans h.box, h.vs.kept (hk mv h.vs.lt (lo h.lv (.inl (by omega)))), h.es.kept (hk me h.es.lt (lo h.le (.inl (by omega)))), (hL p hp).trans h.lp, (hL mv h.vs.lt).trans h.lv, (hL me h.es.lt).trans h.le, fun u d hd => ?_⟩
  by_cases z : u = v
  · subst z
    rw [hV] at hd
    have e := Option.some.inj hd
    subst e
    obtain ⟨ov, iv, g1, g3, g4, g5, g6⟩ := hs
    obtain ⟨_, _, f1, f2, -⟩ := h.sp u b hV
    exact ⟨ov, iv, g1, (hL b (Array.getElem?_eq_some_iff.1 f1).1).trans f2, g3, g4, g5, g6⟩
  · obtain ⟨ov, iv, g1, g2, g3, g4, g5, g6⟩ := h.sp u d hd
    obtain ⟨e1, e2, e3⟩ := ht u z
    have lb := (Array.getElem?_eq_some_iff.1 g1).1
    rw [e1, e2, e3]
    exact ⟨ov, iv, (hk d lb (lo g2 (.inr z))).trans g1, (hL d lb).trans g2, nrow_kept g3 (fun c e => hk c (g3.lt c e).2 (lo (g5 c e) (.inr z))), nrow_kept g4 (fun c e => hk c (g4.lt c e).2 (lo (g6 c e) (.inr z))), fun c e => (hL c (g3.lt c e).2).trans (g5 c e), fun c e => (hL c (g4.lt c e).2).trans (g6 c e)⟩
theorem LvS.putE (h : LvS L w p mv me s tc V nv E ne T O I) (hn : ne < 1000000) {e : Int} (he : okN e) (u v : Int) (c : Nat) :
    ∃ w', (Instr.mapUpdate 49 (.map (some me)) (.int .i64 e) (.agg #[.int .i64 u, .int .i64 v, .float .f32 c])).run Try.prog w = .ok () w' ∧ LvS L w' p mv me s tc V nv (putG E e (some (u, v, c))) (if (E e).isSome then ne else ne + 1) T O I ∧ ChL L w L w' := by
  obtain ⟨w', r, g1, g2⟩ := h.at_.es.put kitEg (t := 49) (e := 73) Try.underlying49 (by unfold maxLen; omega) he (u, v, c)
  have ht : Turned (fun b => L b ≠ none) w w' := turned_map g2 (by rw [h.at_.le]; exact fun z => by cases z)
  have ht2 : Turned (fun b => b = me) w w' := turned_map g2 rfl
  exact ⟨w', r, ⟨h.at_.edges (fun d q z => ht2.block d q z) g1, fun b q => h.fr b (Nat.le_trans ht.size q)⟩, fun _ _ => rfl, ht⟩
theorem LvS.delE (h : LvS L w p mv me s tc V nv E (ne + 1) T O I) {e : Int} (he : okN e) (hs : (E e).isSome = true) :
    ∃ w', (∀ ty, (Builtin.delete_ #[49, 3] ty #[.map (some me), .int .i64 e]).run Try.prog w = .ok (.tuple #[]) w') ∧ LvS L w' p mv me s tc V nv (putG E e none) ne T O I ∧ ChL L w L w' := by
  obtain ⟨w', r, g1, g2⟩ := h.at_.es.del (t := 49) (e := 73) Try.underlying49 he hs 0
  have ht : Turned (fun b => L b ≠ none) w w' := turned_map g2 (by rw [h.at_.le]; exact fun z => by cases z)
  have ht2 : Turned (fun b => b = me) w w' := turned_map g2 rfl
  exact ⟨w', fun _ => r, ⟨h.at_.edges (fun d q z => ht2.block d q z) g1, fun b q => h.fr b (Nat.le_trans ht.size q)⟩, fun _ _ => rfl, ht⟩
theorem oSp_set0 (ov iv a : Value) (x : L14.Sp) : Obj.cells ((#[ov, iv, .bool x.1, .float .f32 x.2.1, .int .i64 x.2.2] : Array Value).setIfInBounds 0 a) 47 (0, 0) = oSp a iv x := rfl
theorem oSp_set1 (ov iv a : Value) (x : L14.Sp) : Obj.cells ((#[ov, iv, .bool x.1, .float .f32 x.2.1, .int .i64 x.2.2] : Array Value).setIfInBounds 1 a) 47 (0, 0) = oSp ov a x := rfl
/-- The numbers of the edges that leave a vertex are others. -/
theorem LvS.setO (h : LvS L w p mv me s tc V nv E ne T O I) {v : Int} {b : Nat} (hV : V v = some b) {ov iv v' : Value} (hb : w.heap[b]? = some (oSp ov iv (T v))) (hi : NRow w iv (I v)) (hov : ∀ d, ov.ownBlock = some d → L d = some (5, v)) (hiv : ∀ d, iv.ownBlock = some d → L d = some (6, v)) {ks : List Int} {w1 : World} (h1 : Rows1 w ov ks v' w1) :
    ∃ L', LvS L' (w1.setCell ⟨b, 0, none⟩ v') p mv me s tc V nv E ne T (updO O v ks) I ∧ ChL L w L' (w1.setCell ⟨b, 0, none⟩ v') ∧ w1.frozen? ⟨b, 0, none⟩ = false ∧ w1.cell? ⟨b, 0, none⟩ = some ov := by
  obtain ⟨_, _, -, gl, -⟩ := h.at_.sp v b hV
  obtain ⟨r1, r2, r3⟩ := h1
  have hbl := (Array.getElem?_eq_some_iff.1 hb).1
  have hob : ov.ownBlock ≠ some b := fun z => by have := hov b z; rw [gl] at this; cases this
  have hb1 : w1.heap[b]? = some (oSp ov iv (T v)) := (r2.block b hbl hob).trans hb
  have hb2 : (w1.setCell ⟨b, 0, none⟩ v').heap[b]? = some (oSp v' iv (T v)) := by rw [heap_setCell_same _ _ _ _ _ _ hb1]; rfl
  have ht : Turned (fun d => ov.ownBlock = some d ∨ d = b) w (w1.setCell ⟨b, 0, none⟩ v') := (r2.mono (fun k _ e => .inl e)).trans (turned_setCell (S := fun d => ov.ownBlock = some d ∨ d = b) w1 ⟨b, 0, none⟩ _ (.inr rfl))
  have hsz : (w1.setCell ⟨b, 0, none⟩ v').heap.size = w1.heap.size := by simp
  have hlab : ∀ d, d < w.heap.size → labV L w.heap.size v' (5, v) d = L d := fun d q => if_neg (fun z => by omega)
  have hfz : ∀ d, (w1.setCell ⟨b, 0, none⟩ v').heap.size ≤ d → labV L w.heap.size v' (5, v) d = none := fun d q => by
    have e : ¬ (v'.ownBlock = some d ∧ w.heap.size ≤ d) := fun z => by have := (r1.lt d z.1).2; omega
    unfold labV
    rw [if_neg e]
    exact h.fr d (by have := r2.size; omega)
  have hne : ∀ d, v'.ownBlock = some d → d ≠ b := fun d q z => by
    rcases r3 d q with y | y
    · exact hob (by rw [← z]; exact y)
    · omega
  refine ⟨labV L w.heap.size v' (5, v), ⟨h.at_.spot hV hlab (fun d q r => ht.block d q (fun z => ?_)) ⟨v', iv, hb2, ?_, ?_, fun d e => ?_, fun d e => ?_⟩ (fun u q => ⟨rfl, updO_ne q, rfl⟩), hfz⟩, ⟨hlab, ht.mono (fun k _ e => ?_)⟩, frozen_of_row _ _ 0 _ _ hb1, (cellsSp hb1).1⟩
  · rcases z with z | z
    · have := r 5 (hov d z); omega
    · have := r 4 (by rw [z]; exact gl); omega
  · rw [updO_self]
    exact nrow_kept r1 (fun d e => heap_setCell_other _ _ _ _ (hne d e))
  · refine nrow_kept hi (fun d e => ?_)
    have hd := hiv d e
    exact ht.block d (hi.lt d e).2 (fun z => by
      rcases z with z | z
      · rw [hov d z] at hd; cases hd
      · rw [z, gl] at hd; cases hd)
  · unfold labV
    by_cases q : w.heap.size ≤ d
    · rw [if_pos ⟨e, q⟩]
    · rw [if_neg (fun z => q z.2)]
      exact (r3 d e).elim (hov d) (fun z => absurd z q)
  · rw [hlab d (hi.lt d e).2]; exact hiv d e
  · rcases e with e | e
    · rw [hov k e]; exact fun z => by cases z
    · rw [e, gl]; exact fun z => by cases z
/-- The numbers of the edges that enter a vertex are others. -/
theorem LvS.setI (h : LvS L w p mv me s tc V nv E ne T O I) {v : Int} {b : Nat} (hV : V v = some b) {ov iv v' : Value} (hb : w.heap[b]? = some (oSp ov iv (T v))) (ho : NRow w ov (O v)) (hov : ∀ d, ov.ownBlock = some d → L d = some (5, v)) (hiv : ∀ d, iv.ownBlock = some d → L d = some (6, v)) {ks : List Int} {w1 : World} (h1 : Rows1 w iv ks v' w1) :
    ∃ L', LvS L' (w1.setCell ⟨b, 1, none⟩ v') p mv me s tc V nv E ne T O (updO I v ks) ∧ ChL L w L' (w1.setCell ⟨b, 1, none⟩ v') ∧ w1.frozen? ⟨b, 1, none⟩ = false ∧ w1.cell? ⟨b, 1, none⟩ = some iv := by
  obtain ⟨_, _, -, gl, -⟩ := h.at_.sp v b hV
  obtain ⟨r1, r2, r3⟩ := h1
  have hbl := (Array.getElem?_eq_some_iff.1 hb).1
  have hob : iv.ownBlock ≠ some b := fun z => by have := hiv b z; rw [gl] at this; cases this
  have hb1 : w1.heap[b]? = some (oSp ov iv (T v)) := (r2.block b hbl hob).trans hb
  have hb2 : (w1.setCell ⟨b, 1, none⟩ v').heap[b]? = some (oSp ov v' (T v)) := by rw [heap_setCell_same _ _ _ _ _ _ hb1]; rfl
  have ht : Turned (fun d => iv.ownBlock = some d ∨ d = b) w (w1.setCell ⟨b, 1, none⟩ v') := (r2.mono (fun k _ e => .inl e)).trans (turned_setCell (S := fun d => iv.ownBlock = some d ∨ d = b) w1 ⟨b, 1, none⟩ _ (.inr rfl))
  have hsz : (w1.setCell ⟨b, 1, none⟩ v').heap.size = w1.heap.size := by simp
  have hlab : ∀ d, d < w.heap.size → labV L w.heap.size v' (6, v) d = L d := fun d q => if_neg (fun z => by omega)
  have hfz : ∀ d, (w1.setCell ⟨b, 1, none⟩ v').heap.size ≤ d → labV L w.heap.size v' (6, v) d = none := fun d q => by
    have e : ¬ (v'.ownBlock = some d ∧ w.heap.size ≤ d) := fun z => by have := (r1.lt d z.1).2; omega
    unfold labV
    rw [if_neg e]
    exact h.fr d (by have := r2.size; omega)
  have hne : ∀ d, v'.ownBlock = some d → d ≠ b := fun d q z => by
    rcases r3 d q with y | y
    · exact hob (by rw [← z]; exact y)
    · omega
  refine ⟨labV L w.heap.size v' (6, v), ⟨h.at_.spot hV hlab (fun d q r => ht.block d q (fun z => ?_)) ⟨ov, v', hb2, ?_, ?_, fun d e => ?_, fun d e => ?_⟩ (fun u q => ⟨rfl, rfl, updO_ne q⟩), hfz⟩, ⟨hlab, ht.mono (fun k _ e => ?_)⟩, frozen_of_row _ _ 1 _ _ hb1, (cellsSp hb1).2.1⟩
  · rcases z with z | z
    · have := r 6 (hiv d z); omega
    · have := r 4 (by rw [z]; exact gl); omega
  · refine nrow_kept ho (fun d e => ?_)
    have hd := hov d e
    exact ht.block d (ho.lt d e).2 (fun z => by
      rcases z with z | z
      · rw [hiv d z] at hd; cases hd
      · rw [z, gl] at hd; cases hd)
  · rw [updO_self]
    exact nrow_kept r1 (fun d e => heap_setCell_other _ _ _ _ (hne d e))
  · rw [hlab d (ho.lt d e).2]; exact hov d e
  · unfold labV
    by_cases q : w.heap.size ≤ d
    · rw [if_pos ⟨e, q⟩]
    · rw [if_neg (fun z => q z.2)]
      exact (r3 d e).elim (hiv d) (fun z => absurd z q)
  · rcases e with e | e
    · rw [hiv k e]; exact fun z => by cases z
    · rw [e, gl]; exact fun z => by cases z
/-- with, for the edges that leave. -/
theorem LvS.outWith (h : LvS L w p mv me s tc V nv E ne T O I) {v e : Int} {b : Nat} (hV : V v = some b) (hr : Rising ltN (O v)) (hl : (O v).length ≤ 1000000) :
    ∃ ov, w.cell? ⟨b, 0, none⟩ = some ov ∧ Calls Try.prog 47 #[ov, .int .i64 e] w fun r w' => ∃ a n c, r = .returned (.slice a n c) ∧ Hid ((w'.frozen? ⟨b, 0, none⟩ = false ∧ w'.cell? ⟨b, 0, none⟩ = some ov) ∧ ∃ L', LvS L' (w'.setCell ⟨b, 0, none⟩ (.slice a n c)) p mv me s tc V nv E ne T (updO O v ((O v).take (cnt ltN (O v) e) ++ [e] ++ (O v).drop (cnt ltN (O v) e))) I ∧ ChL L w L' (w'.setCell ⟨b, 0, none⟩ (.slice a n c))) := by
  obtain ⟨ov, iv, g1, g2, g3, g4, g5, g6⟩ := h.at_.sp v b hV
  refine ⟨ov, (cellsSp g1).1, (withN ov (O v) e w g3 hl hr).mono ?_⟩
  rintro r w' ⟨v', rfl, h1⟩
  obtain ⟨a, c, e, -⟩ := brow_shape (unhide h1).1
  subst e
  obtain ⟨L', k1, k2, k3⟩ := h.setO hV g1 g4 g5 g6 (unhide h1)
  exact ⟨_, _, _, rfl, k3, L', k1, k2⟩
theorem LvS.inWith (h : LvS L w p mv me s tc V nv E ne T O I) {v e : Int} {b : Nat} (hV : V v = some b) (hr : Rising ltN (I v)) (hl : (I v).length ≤ 1000000) :
    ∃ iv, w.cell? ⟨b, 1, none⟩ = some iv ∧ Calls Try.prog 47 #[iv, .int .i64 e] w fun r w' => ∃ a n c, r = .returned (.slice a n c) ∧ Hid ((w'.frozen? ⟨b, 1, none⟩ = false ∧ w'.cell? ⟨b, 1, none⟩ = some iv) ∧ ∃ L', LvS L' (w'.setCell ⟨b, 1, none⟩ (.slice a n c)) p mv me s tc V nv E ne T O (updO I v ((I v).take (cnt ltN (I v) e) ++ [e] ++ (I v).drop (cnt ltN (I v) e))) ∧ ChL L w L' (w'.setCell ⟨b, 1, none⟩ (.slice a n c))) := by
  obtain ⟨ov, iv, g1, g2, g3, g4, g5, g6⟩ := h.at_.sp v b hV
  refine ⟨iv, (cellsSp g1).2.1, (withN iv (I v) e w g4 hl hr).mono ?_⟩
  rintro r w' ⟨v', rfl, h1⟩
  obtain ⟨a, c, e, -⟩ := brow_shape (unhide h1).1
  subst e
  obtain ⟨L', k1, k2, k3⟩ := h.setI hV g1 g3 g5 g6 (unhide h1)
  exact ⟨_, _, _, rfl, k3, L', k1, k2⟩
theorem LvS.outWithout (h : LvS L w p mv me s tc V nv E ne T O I) {v e : Int} {b : Nat} (hV : V v = some b) (hr : Rising ltN (O v)) (hl : (O v).length ≤ 1000000) (he : e ∈ O v) :
    ∃ ov, w.cell? ⟨b, 0, none⟩ = some ov ∧ Calls Try.prog 55 #[ov, .int .i64 e] w fun r w' => ∃ a n c, r = .returned (.slice a n c) ∧ Hid ((w'.frozen? ⟨b, 0, none⟩ = false ∧ w'.cell? ⟨b, 0, none⟩ = some ov) ∧ ∃ L', LvS L' (w'.setCell ⟨b, 0, none⟩ (.slice a n c)) p mv me s tc V nv E ne T (updO O v ((O v).take (cnt ltN (O v) e) ++ (O v).drop (cnt ltN (O v) e + 1))) I ∧ ChL L w L' (w'.setCell ⟨b, 0, none⟩ (.slice a n c))) := by
  obtain ⟨ov, iv, g1, g2, g3, g4, g5, g6⟩ := h.at_.sp v b hV
  refine ⟨ov, (cellsSp g1).1, (withoutN ov (O v) e w g3 hl hr he).mono ?_⟩
  rintro r w' ⟨v', rfl, h1⟩
  obtain ⟨a, c, e, -⟩ := brow_shape (unhide h1).1
  subst e
  obtain ⟨L', k1, k2, k3⟩ := h.setO hV g1 g4 g5 g6 (unhide h1)
  exact ⟨_, _, _, rfl, k3, L', k1, k2⟩
theorem LvS.inWithout (h : LvS L w p mv me s tc V nv E ne T O I) {v e : Int} {b : Nat} (hV : V v = some b) (hr : Rising ltN (I v)) (hl : (I v).length ≤ 1000000) (he : e ∈ I v) :
    ∃ iv, w.cell? ⟨b, 1, none⟩ = some iv ∧ Calls Try.prog 55 #[iv, .int .i64 e] w fun r w' => ∃ a n c, r = .returned (.slice a n c) ∧ Hid ((w'.frozen? ⟨b, 1, none⟩ = false ∧ w'.cell? ⟨b, 1, none⟩ = some iv) ∧ ∃ L', LvS L' (w'.setCell ⟨b, 1, none⟩ (.slice a n c)) p mv me s tc V nv E ne T O (updO I v ((I v).take (cnt ltN (I v) e) ++ (I v).drop (cnt ltN (I v) e + 1))) ∧ ChL L w L' (w'.setCell ⟨b, 1, none⟩ (.slice a n c))) := by
  obtain ⟨ov, iv, g1, g2, g3, g4, g5, g6⟩ := h.at_.sp v b hV
  refine ⟨iv, (cellsSp g1).2.1, (withoutN iv (I v) e w g4 hl hr he).mono ?_⟩
  rintro r w' ⟨v', rfl, h1⟩
  obtain ⟨a, c, e, -⟩ := brow_shape (unhide h1).1
  subst e
  obtain ⟨L', k1, k2, k3⟩ := h.setI hV g1 g3 g5 g6 (unhide h1)
  exact ⟨_, _, _, rfl, k3, L', k1, k2⟩
/-- The map of vertices is another, no vertex's blocks being touched. -/
theorem LvAt.verts {V' : Int → Option Nat} {nv' : Nat} (h : LvAt L w p mv me s tc V nv E ne T O I) (hL : ∀ d, d < w.heap.size → L' d = L d) (hk : ∀ d, d < w.heap.size → d ≠ mv → w'.heap[d]? = w.heap[d]?) (hv : MapG dat ptrElem none w' mv (fun v => (V' v).map some) nv')
    (hs : ∀ v b, V' v = some b → V v = some b ∨ ∃ ov iv, w'.heap[b]? = some (oSp ov iv (T v)) ∧ L' b = some (4, v) ∧ NRow w' ov (O v) ∧ NRow w' iv (I v) ∧ (∀ d, ov.ownBlock = some d → L' d = some (5, v)) ∧ (∀ d, iv.ownBlock = some d → L' d = some (6, v))) : LvAt L' w' p mv me s tc V' nv' E ne T O I := by
  have hp := (Array.getElem?_eq_some_iff.1 h.box).1
  have hne : ∀ {d : Nat} {k : Nat} {u : Int}, L d = some (k, u) → k ≠ 2 → d ≠ mv := fun {d k u} q r z => by
    rw [z, h.lv] at q
    exact r (congrArg (·.1) (Option.some.inj q)).symm
  refine ⟨(hk p hp (hne h.lp (by omega))).trans h.box, hv, h.es.kept (hk me h.es.lt (hne h.le (by omega))), (hL p hp).trans h.lp, (hL mv h.vs.lt).trans h.lv, (hL me h.es.lt).trans h.le, fun v b hb => ?_⟩
  rcases hs v b hb with q | q
  · obtain ⟨ov, iv, g1, g2, g3, g4, g5, g6⟩ := h.sp v b q
    have lb := (Array.getElem?_eq_some_iff.1 g1).1
    exact ⟨ov, iv, (hk b lb (hne g2 (by omega))).trans g1, (hL b lb).trans g2, nrow_kept g3 (fun d e => hk d (g3.lt d e).2 (hne (g5 d e) (by omega))), nrow_kept g4 (fun d e => hk d (g4.lt d e).2 (hne (g6 d e) (by omega))), fun d e => (hL d (g3.lt d e).2).trans (g5 d e), fun d e => (hL d (g4.lt d e).2).trans (g6 d e)⟩
  · exact q
/-- A vertex more: its spot is made, then it is put in. -/
theorem LvS.putV (h : LvS L w p mv me s tc V nv E ne T O I) (hn : nv < 1000000) {v : Int} (hv : okN v) (hV : V v = none) (hT : T v = (false, 0, 0)) (hO : O v = []) (hI : I v = []) :
    ∃ w' L', (Instr.mapUpdate 48 (.map (some mv)) (.int .i64 v) (.pointer (some ⟨w.heap.size, 0, none⟩))).run Try.prog (w.alloc (oSp (.slice none 0 0) (.slice none 0 0) (false, 0, 0))) = .ok () w' ∧ LvS L' w' p mv me s tc (fun x => if x = v then some w.heap.size else V x) (nv + 1) E ne T O I ∧ ChL L w L' w' := by
  have hb := below_new w (oSp (.slice none 0 0) (.slice none 0 0) (false, 0, 0))
  have hblk := heap_alloc_new w (oSp (.slice none 0 0) (.slice none 0 0) (false, 0, 0))
  have h1 := h.at_.below hb
  obtain ⟨w', r, g1, g2⟩ := h1.vs.put kitPt (t := 48) (e := 44) Try.underlying48 (by unfold maxLen; omega) hv (some w.heap.size)
  have ht2 : Turned (fun b => b = mv) (w.alloc (oSp (.slice none 0 0) (.slice none 0 0) (false, 0, 0))) w' := turned_map g2 rfl
  have hmv := h.at_.vs.lt
  have hsz : (w.alloc (oSp (.slice none 0 0) (.slice none 0 0) (false, 0, 0))).heap.size = w.heap.size + 1 := by simp
  have hsz2 := ht2.size
  have hlab : ∀ d, d < w.heap.size → (if d = w.heap.size then some (4, v) else L d) = L d := fun d q => if_neg (by omega)
  have hk : ∀ d, d < w.heap.size → d ≠ mv → w'.heap[d]? = w.heap[d]? := fun d q z => (ht2.block d (by omega) z).trans (hb.block d q)
  have hnb : w'.heap[w.heap.size]? = some (oSp (.slice none 0 0) (.slice none 0 0) (false, 0, 0)) := (ht2.block _ (by omega) (by omega)).trans hblk
  refine ⟨w', fun d => if d = w.heap.size then some (4, v) else L d, r, ⟨h.at_.verts hlab hk ?_ (fun u b q => ?_), fun b q => ?_⟩, ⟨hlab, ⟨ht2.os.trans hb.os, ht2.tape.trans hb.tape, ht2.output.trans hb.output, by omega, fun d q z => hk d q (fun y => z (by rw [y, h.at_.lv]; exact fun x => by cases x))⟩⟩⟩
  · have e : (fun x => ((if x = v then some w.heap.size else V x) : Option Nat).map some) = putG (fun v => (V v).map some) v (some (some w.heap.size)) := by
      funext x
      unfold putG
      by_cases q : x = v
      · rw [if_pos q, if_pos q]; rfl
      · rw [if_neg q, if_neg q]
    rw [e]
    rw [hV] at g1
    exact g1
  · by_cases z : u = v
    · rw [if_pos z] at q
      have e := Option.some.inj q
      rw [← e]
      refine .inr ⟨_, _, by rw [z, hT]; exact hnb, by rw [if_pos rfl, z], by rw [z, hO]; exact ⟨rfl, .inl ⟨rfl, rfl⟩⟩, by rw [z, hI]; exact ⟨rfl, .inl ⟨rfl, rfl⟩⟩, fun d e => (by cases e), fun d e => (by cases e)⟩
    · rw [if_neg z] at q; exact .inl q
  · have e : b ≠ w.heap.size := by omega
    show (if b = w.heap.size then some (4, v) else L b) = none
    rw [if_neg e]; exact h.fr b (by omega)
theorem LvS.delV (h : LvS L w p mv me s tc V (nv + 1) E ne T O I) {v : Int} (hv : okN v) (hV : (V v).isSome = true) :
    ∃ w', (∀ ty, (Builtin.delete_ #[48, 3] ty #[.map (some mv), .int .i64 v]).run Try.prog w = .ok (.tuple #[]) w') ∧ LvS L w' p mv me s tc (fun x => if x = v then none else V x) nv E ne T O I ∧ ChL L w L w' := by
  obtain ⟨w', r, g1, g2⟩ := h.at_.vs.del (t := 48) (e := 44) Try.underlying48 hv (by simpa using hV) 0
  have ht : Turned (fun b => L b ≠ none) w w' := turned_map g2 (by rw [h.at_.lv]; exact fun z => by cases z)
  have ht2 : Turned (fun b => b = mv) w w' := turned_map g2 rfl
  refine ⟨w', fun _ => r, ⟨h.at_.verts (fun _ _ => rfl) (fun d q z => ht2.block d q z) ?_ (fun u b q => .inl ?_), fun b q => h.fr b (Nat.le_trans ht.size q)⟩, fun _ _ => rfl, ht⟩
  · have e : (fun x => ((if x = v then none else V x) : Option Nat).map some) = putG (fun v => (V v).map some) v none := by
      funext x
      unfold putG
      by_cases q : x = v
      · rw [if_pos q, if_pos q]; rfl
      · rw [if_neg q, if_neg q]
    rw [e]; exact g1
  · by_cases z : u = v
    · rw [if_pos z] at q; cases q
    · rw [if_neg z] at q; exact q
end
end Go.Proofs.Ytbmcibofecigeaa
