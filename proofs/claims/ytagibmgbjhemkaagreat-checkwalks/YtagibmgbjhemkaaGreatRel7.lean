/- The store's picture against the reference's graph: plain mathematics. -/
import Derived.Test.YtagibmgbjhemkaaGreatStDropV
import Derived.Test.YtagibmgbjhemkaaGreatRefDropE
import Derived.Test.YtagibmgbjhemkaaGreatRefDropV
namespace Go.Proofs.YtagibmgbjhemkaaGreat

section
open Go.RowKit Go.Maps
def setT (w : World) (g i : Nat) (x : EdgeV) : World := (((w.setCell ⟨g, i * 5, none⟩ (.int .i64 x.1)).setCell ⟨g, i * 5 + 1, none⟩ (.int .i64 x.2.1)).setCell ⟨g, i * 5 + 2, none⟩ (.int .i64 x.2.2.1)).setCell ⟨g, i * 5 + 3, none⟩ (.int .u32 x.2.2.2)
theorem set_same {α : Type} {l : List α} {j : Nat} {v : α} (h : l[j]? = some v) : l.set j v = l := by
  refine List.ext_getElem? (fun k => ?_)
  rw [List.getElem?_set]
  by_cases e : j = k
  · subst e; rw [if_pos rfl, if_pos (List.getElem?_eq_some_iff.1 h).1, h]
  · simp [e]
theorem encE_set4 {ps : List (EdgeV × Bool)} {i : Nat} {a : EdgeV} (x : EdgeV) (hi : ps[i]? = some (a, true)) : encE (ps.set i (x, true)) = ((((encE ps).set (i * 5) (.int .i64 x.1)).set (i * 5 + 1) (.int .i64 x.2.1)).set (i * 5 + 2) (.int .i64 x.2.2.1)).set (i * 5 + 3) (.int .u32 x.2.2.2) := by
  rw [encE_set]; unfold putE; refine set_same ?_; rw [List.getElem?_set_ne (by omega), List.getElem?_set_ne (by omega), List.getElem?_set_ne (by omega), List.getElem?_set_ne (by omega)]
  exact (encE_at ps i a true hi).2.2.2.2
section
variable [Inhabited EntI] {w w' : World} {t hp : Nat} {v : Value} {most : Int} {ps : List (EdgeV × Bool)} {ms ms' : List EntI} {n n' : Nat} {G G' : Nat → Prop}
theorem TRawE.storeT {g L c : Nat} {a : EdgeV} (h : TRawE w t hp (.slice (some ⟨g, 0, none⟩) L c) most ps ms n G) (i : Nat) (x : EdgeV) (hi : ps[i]? = some (a, true)) :
    TRawE (setT w g i x) t hp (.slice (some ⟨g, 0, none⟩) L c) most (ps.set i (x, true)) ms n G ∧ Turned (Feet t (.slice (some ⟨g, 0, none⟩) L c) G) w (setT w g i x) := by
  have hgt : t ≠ g := fun e => h.nv (by simp [Value.ownBlock, e])
  have hgG := h.ng g rfl; have hL : L = ps.length := by
    rcases h.row.2 with ⟨e, -⟩ | ⟨g', cap, cur, e, -⟩
    · cases e
    · cases e; rfl
  subst hL; have oth : ∀ k, k ≠ g → (setT w g i x).heap[k]? = w.heap[k]? := fun k hk => by
    unfold setT; rw [heap_setCell_other _ _ _ _ hk, heap_setCell_other _ _ _ _ hk, heap_setCell_other _ _ _ _ hk, heap_setCell_other _ _ _ _ hk]
  refine ⟨⟨(oth t hgt).trans h.box, ?_, h.on.kept (fun k hk => oth k (fun e => hgG (by rw [← e]; exact hk))), h.nt, h.nv, h.ng, by simpa using h.len, h.top⟩, ?_⟩
  · rw [encE_set4 x hi, List.length_set]; exact ((((h.row.stored _ _).1.stored _ _).1.stored _ _).1.stored _ _).1
  · exact (((turned_setCell _ _ _ (.inr (.inl rfl))).trans (turned_setCell _ _ _ (.inr (.inl rfl)))).trans (turned_setCell _ _ _ (.inr (.inl rfl)))).trans (turned_setCell _ _ _ (.inr (.inl rfl)))
set_option maxHeartbeats 1000000 in
set_option maxRecDepth 100000 in
theorem setYesE {a : EdgeV} (i : Nat) (x : EdgeV) (h : TAtE w t hp v most ps ms n G) (hi : ps[i]? = some (a, true)) :
    Calls Tryz.prog 102 #[.pointer (some ⟨t, 0, none⟩), .int .i64 ((i : Int) + 1), .agg #[.int .i64 x.1, .int .i64 x.2.1, .int .i64 x.2.2.1, .int .u32 x.2.2.2]] w fun e w' => e = .returned (.bool true) ∧ Hid (ThenE w w' t hp v most (ps.set i (x, true)) n G) := by
  have hb0 : Below w.heap.size w (w.alloc (oE x)) := (Below.refl _ _).alloc (Nat.le_refl _) _; have H0 : TAtE (w.alloc (oE x)) t hp v most ps ms n G := h.kept (fun j hj => hb0.block j (h.lt hj))
  have CT := hide (takenAtE i (w.alloc (oE x)) H0 hi); obtain ⟨-, c1, -, -⟩ := H0.cells; have hil := lt_of_at hi; obtain ⟨g, c, rfl, -, df, hc⟩ := H0.some_ (by omega)
  obtain ⟨⟨d0, d1, d2, d3⟩, -⟩ := hc i a true hi; have hl := h.len; have ht := h.top; obtain ⟨x0, x1, x2, x3, -⟩ := box_cells (heap_alloc_new w (oE x)); have hgw : g < w.heap.size := (h.row.lt g rfl).2; have hn1 : ¬ g = w.heap.size := by omega
  have hn2 : ¬ w.heap.size = g := by omega
  have HF : Hid (∀ q, ThenE w (setT ((w.alloc (oE x)).drewN q) g i x) t hp (.slice (some ⟨g, 0, none⟩) ps.length c) most (ps.set i (x, true)) n G) := fun q => by
    have H1 : TAtE ((w.alloc (oE x)).drewN q) t hp (.slice (some ⟨g, 0, none⟩) ps.length c) most ps ms n G := h.kept (fun j hj => (below_drewN hb0 q).block j (h.lt hj))
    obtain ⟨r1, T1⟩ := H1.raw.storeT i x hi; refine ThenE.boxed h (oE x) ?_; have bq := below_drewN (Below.refl (w.alloc (oE x)).heap.size (w.alloc (oE x))) q; exact ⟨_, _, _, _, by omega, r1.full (frees_set h.fr hi x), Turned.then_ (S := Feet t (.slice (some ⟨g, 0, none⟩) ps.length c) G) ⟨bq.os, bq.tape, bq.output, bq.size, fun _ _ _ => rfl⟩ T1 (fun _ _ h => h), fun j hj => .inl hj⟩
  generalize ps.length = L at *; have h3 : (i : Int) < (L : Int) := by omega
  have hw1 : IntKind.i64.wrap ((i : Int) + 1 - 1) = (i : Int) := by rw [IntKind.wrap_i64]; omega
  have h4 : (L : Int) ≤ 65536 := by omega
  clear h hc hi hl ht hil H0 hb0 hgw
  go_enter Tryz.func102, Tryz.ntmps102
  go_upto_region 1 with fail
  change Code.wp _ _ _ _ (w.alloc (oE x)); generalize w.alloc (oE x) = wb at *; generalize w.heap.size = bb at *
  go_wp2_with fail
  refine (unhide CT).mono ?_
  rintro e w2 ⟨rfl, rfl⟩
  clear CT
  go_upto_region 3 with fail
  have h0 : (0 : Int) ≤ (i : Int) := by omega
  clear hw1
  go_region
  all_goals
    go_wp2_with fail
    go_ret
    exact ⟨rfl, unhide HF 1⟩
end
theorem nums_set {p : EdgeV → Bool} : ∀ {ps : List (EdgeV × Bool)} {i : Nat} {a x : EdgeV}, ps[i]? = some (a, true) → p x = p a → numsOf p (ps.set i (x, true)) = numsOf p ps := by
  intro ps i a x hi hp; refine rising_ext linN (rising_numsOf _ _) (rising_numsOf _ _) (fun k => ?_)
  rw [mem_numsOf, mem_numsOf]; have hl := (List.getElem?_eq_some_iff.1 hi).1; constructor
  · rintro ⟨j, y, hj, hy, e⟩
    rw [List.getElem?_set] at hj
    by_cases hij : i = j
    · subst hij; simp [hl] at hj; exact ⟨i, a, hi, by rw [← hp, hj]; exact hy, e⟩
    · simp [hij] at hj; exact ⟨j, y, hj, hy, e⟩
  · rintro ⟨j, y, hj, hy, e⟩
    by_cases hij : i = j
    · subst hij; rw [hi] at hj; cases hj; exact ⟨i, x, by rw [List.getElem?_set]; simp [hl], by rw [hp]; exact hy, e⟩
    · exact ⟨j, y, by rw [List.getElem?_set]; simp [hij]; exact hj, hy, e⟩
section
variable [Inhabited EntI] {w w' : World} {X X' : Sto}
def Rewd (w : World) (X : Sto) (i : Nat) (x : EdgeV) (w' : World) (X' : Sto) : Prop :=
  Step w X w' X' ∧ X'.ps = X.ps.set i (x, true) ∧ X'.f = X.f ∧ X'.N = X.N ∧ X'.rd = X.rd ∧ X'.wr = X.wr + 1 ∧ X'.n ≤ X.n + 65536
theorem rew_end {w2 : World} {a : EdgeV} {i : Nat} {b : Int} (h : StAt w X) (hi : X.ps[i]? = some (a, true)) (hb : Below w.heap.size w w2) {w3 : World} (ht : ThenE w2 w3 X.t X.hp X.v 1024 (X.ps.set i ((a.1, a.2.1, a.2.2.1, b), true)) X.n X.G) :
    (w3.cell? ⟨X.s, 3, none⟩ = some (.int .i64 X.wr) ∧ ∀ o, w3.frozen? ⟨X.s, o, none⟩ = false) ∧ ∃ X', Rewd w X i (a.1, a.2.1, a.2.2.1, b) (w3.setCell ⟨X.s, 3, none⟩ (.int .i64 (X.wr + 1))) X' := by
  obtain ⟨v', ms', n', G', L', hn, hM, hF⟩ := (h.mem.below hb).tabTurn ht; obtain ⟨-, -, -, c3, cf⟩ := hM.cells; refine ⟨⟨c3, cf⟩, ?_⟩; obtain ⟨z1, z2⟩ := hM.wrTurn (X.wr + 1); refine ⟨{ X with v := v', ms := ms', n := n', G := G', ps := X.ps.set i ((a.1, a.2.1, a.2.2.1, b), true), L := L', wr := X.wr + 1 }, ⟨⟨?_, fun j x hj => ?_, h.size⟩, rfl, (Foots.below X.L hb).trans (hF.trans z2)⟩, rfl, rfl, rfl, rfl, rfl, hn⟩
  · have e1 : outs (X.ps.set i ((a.1, a.2.1, a.2.2.1, b), true)) = outs X.ps := funext fun k => nums_set hi rfl
    have e2 : inns (X.ps.set i ((a.1, a.2.1, a.2.2.1, b), true)) = inns X.ps := funext fun k => nums_set hi rfl
    show StMid _ _ (outs (X.ps.set i ((a.1, a.2.1, a.2.2.1, b), true))) (inns (X.ps.set i ((a.1, a.2.1, a.2.2.1, b), true))); rw [e1, e2]; exact z1
  · have hl := (List.getElem?_eq_some_iff.1 hi).1; have hj' : (X.ps.set i ((a.1, a.2.1, a.2.2.1, b), true))[j]? = some (x, true) := hj; rw [List.getElem?_set] at hj'
    by_cases hij : i = j
    · subst hij; simp [hl] at hj'; subst hj'; exact h.edge i a hi
    · simp [hij] at hj'; exact h.edge j x hj'
set_option maxHeartbeats 1000000 in
set_option maxRecDepth 100000 in
theorem rewNo (e n : Int) (h : StAt w X) (hno : ∀ (i : Nat) a, e = (i : Int) + 1 → X.ps[i]? ≠ some (a, true)) :
    Calls Tryz.prog 71 #[.pointer (some ⟨X.s, 0, none⟩), .int .i64 e, .int .u32 n] w fun r w' => r = .returned (.tuple #[.int .u32 0, .int .i64 6]) ∧ Hid (Below w.heap.size w w') := by
  obtain ⟨c0, -, -, -, -⟩ := h.cells; have CT := hide (atNoE e w h.tab hno); generalize X.s = s at *; generalize X.t = t at *; clear h hno
  go_enter Tryz.func71, Tryz.ntmps71
  go_wp2_with fail
  refine (unhide CT).mono ?_
  rintro r w2 ⟨rfl, hb2⟩
  have HB : Hid (Below w.heap.size w (w2.alloc o34)) := hb2.trans ((Below.refl _ _).alloc hb2.size _); clear CT hb2
  go_upto_region 2 with fail
  change Code.wp _ _ _ _ (w2.alloc o34); generalize w2.alloc o34 = w3 at *
  go_wp2_with fail
  go_ret2
  exact ⟨rfl, unhide HB⟩
set_option maxHeartbeats 1000000 in
set_option maxRecDepth 100000 in
theorem rewBad {a : EdgeV} (i : Nat) (n : Int) (h : StAt w X) (hi : X.ps[i]? = some (a, true)) (h0 : 0 ≤ n) (hk : kept n = none) :
    Calls Tryz.prog 71 #[.pointer (some ⟨X.s, 0, none⟩), .int .i64 ((i : Int) + 1), .int .u32 n] w fun r w' => r = .returned (.tuple #[.int .u32 0, .int .i64 7]) ∧ Hid (Below w.heap.size w w') := by
  obtain ⟨c0, -, -, -, -⟩ := h.cells; have CT := hide (atYesE i w h.tab hi); have CA : Hid (∀ W, Calls Tryz.prog 101 #[.int .u32 n] W fun e w' => e = .returned (ansK (kept n)) ∧ w' = W) := fun W => keptS n h0 W
  rw [hk] at CA; simp only [ansK] at CA; generalize X.s = s at *; generalize X.t = t at *; clear h hi h0 hk
  go_enter Tryz.func71, Tryz.ntmps71
  go_wp2_with fail
  refine (unhide CT).mono ?_
  rintro r w2 ⟨rfl, hb2⟩
  have HB : Hid (Below w.heap.size w (w2.alloc (oE a))) := hb2.trans ((Below.refl _ _).alloc hb2.size _); clear CT hb2 c0
  go_upto_region 2 with fail
  change Code.wp _ _ _ _ (w2.alloc (oE a)); generalize w2.alloc (oE a) = w3 at *
  go_wp2_with fail
  refine (unhide CA _).mono ?_
  rintro r w4 ⟨rfl, rfl⟩
  go_wp2_with fail
  go_ret2
  exact ⟨rfl, unhide HB⟩
set_option maxHeartbeats 2000000 in
set_option maxRecDepth 100000 in
theorem rewS {a : EdgeV} (i : Nat) (n : Int) {b : Int} (h : StAt w X) (hi : X.ps[i]? = some (a, true)) (h0 : 0 ≤ n) (hk : kept n = some b) (hw0 : 0 ≤ X.wr) (hw1 : X.wr ≤ 1000000000) :
    Calls Tryz.prog 71 #[.pointer (some ⟨X.s, 0, none⟩), .int .i64 ((i : Int) + 1), .int .u32 n] w fun r w' => r = .returned (.tuple #[.int .u32 a.2.2.2, .int .i64 0]) ∧ Hid (∃ X', Rewd w X i (a.1, a.2.1, a.2.2.1, b) w' X') := by
  obtain ⟨c0, -, -, -, -⟩ := h.cells; have CT := hide (atYesE i w h.tab hi); have CA : Hid (∀ W, Calls Tryz.prog 101 #[.int .u32 n] W fun e w' => e = .returned (ansK (kept n)) ∧ w' = W) := fun W => keptS n h0 W
  rw [hk] at CA; simp only [ansK] at CA; have hsl := h.mem.lt X.s (by rw [h.mem.lbox]; simp)
  have HS : Hid (∀ w2, Below w.heap.size w w2 → ((w2.alloc (oE a)).setCell ⟨w2.heap.size, 3, none⟩ (.int .u32 b)).cell? ⟨X.s, 0, none⟩ = some (.pointer (some ⟨X.t, 0, none⟩)) ∧ ((w2.alloc (oE a)).setCell ⟨w2.heap.size, 3, none⟩ (.int .u32 b)).heap[w2.heap.size]? = some (oE (a.1, a.2.1, a.2.2.1, b)) ∧ ∀ q, Calls Tryz.prog 102 #[.pointer (some ⟨X.t, 0, none⟩), .int .i64 ((i : Int) + 1), .agg #[.int .i64 a.1, .int .i64 a.2.1, .int .i64 a.2.2.1, .int .u32 b]] (((w2.alloc (oE a)).setCell ⟨w2.heap.size, 3, none⟩ (.int .u32 b)).drewN q) fun e w3 => e = .returned (.bool true) ∧ Hid ((w3.cell? ⟨X.s, 3, none⟩ = some (.int .i64 X.wr) ∧ ∀ o, w3.frozen? ⟨X.s, o, none⟩ = false) ∧ ∃ X', Rewd w X i (a.1, a.2.1, a.2.2.1, b) (w3.setCell ⟨X.s, 3, none⟩ (.int .i64 (X.wr + 1))) X')) := fun w2 hb2 => by
    have hs2 := hb2.size; have hB : Below w.heap.size w ((w2.alloc (oE a)).setCell ⟨w2.heap.size, 3, none⟩ (.int .u32 b)) := (hb2.trans ((Below.refl _ _).alloc (by omega) _)).setCell (p := ⟨w2.heap.size, 3, none⟩) hs2 _
    refine ⟨(h.below hB).cells.1, ?_, fun q => ?_⟩
    · rw [heap_setCell_same _ _ _ _ _ _ (heap_alloc_new w2 (oE a))]; rfl
    · have hB' := below_drewN hB q; refine (setYesE i ((a.1, a.2.1, a.2.2.1, b) : EdgeV) (h.mem.below hB').tab hi).mono ?_
      rintro e w3 ⟨rfl, hh⟩
      exact ⟨rfl, rew_end h hi hB' (unhide hh)⟩
  have hwr : IntKind.i64.wrap (X.wr + 1) = X.wr + 1 := by rw [IntKind.wrap_i64]; omega
  generalize X.s = s at *; generalize X.t = t at *; generalize X.wr = wr_0 at *; clear h hi h0 hk hw0 hw1 hsl
  go_enter Tryz.func71, Tryz.ntmps71
  go_wp2_with fail
  refine (unhide CT).mono ?_
  rintro r w2 ⟨rfl, hb2⟩
  obtain ⟨j1, j2, j3⟩ := unhide HS w2 hb2; have HJ := hide (And.intro j1 (And.intro j2 j3)); obtain ⟨x0, x1, x2, x3, xf⟩ := box_cells (heap_alloc_new w2 (oE a)); clear CT hb2 c0 HS j1 j2 j3
  go_upto_region 2 with fail
  change Code.wp _ _ _ _ (w2.alloc (oE a)); generalize w2.alloc (oE a) = w3 at *; generalize w2.heap.size = b2 at *
  go_wp2_with fail
  refine (unhide CA _).mono ?_
  rintro r w4 ⟨rfl, rfl⟩
  clear CA
  go_upto_region 9 with fail
  obtain ⟨j1, j2, j3⟩ := unhide HJ; have HJ3 := hide j3; clear HJ x0 x1 x2 x3 xf j3; generalize w4.setCell ⟨b2, 3, none⟩ (.int .u32 b) = w5 at *; obtain ⟨x0, x1, x2, x3, -⟩ := box_cells j2; clear j2; simp only at x0 x1 x2 x3
  go_region_with (refine (unhide HJ3 _).mono ?_; rintro r w6 ⟨rfl, h6⟩)
  all_goals
    obtain ⟨⟨k1, k2⟩, hX⟩ := unhide h6; have HX := hide hX; clear h6 hX x0 x1 x2 x3 j1 HJ3
    go_wp2_with fail
    go_ret2
    exact ⟨rfl, unhide HX⟩
end
end

section
open Go.RowKit Go.Maps
def Recs (es : List EdgeV) : Prop := es.Pairwise (fun a b => a.1 < b.1)
theorem Recs.one {es : List EdgeV} (h : Recs es) (i j : Nat) (a b : EdgeV) (hi : es[i]? = some a) (hj : es[j]? = some b) (e : a.1 = b.1) : a = b := by
  obtain ⟨hi1, hi2⟩ := List.getElem?_eq_some_iff.1 hi; obtain ⟨hj1, hj2⟩ := List.getElem?_eq_some_iff.1 hj; rcases Nat.lt_trichotomy i j with h' | h' | h'
  · have := List.pairwise_iff_getElem.1 h i j hi1 hj1 h'; rw [hi2, hj2] at this; omega
  · subst h'; rw [hi] at hj; exact Option.some.inj hj
  · have := List.pairwise_iff_getElem.1 h j i hj1 hi1 h'; rw [hi2, hj2] at this; omega
structure RelG (g : Gr) (vs : List Int) (es : List EdgeV) : Prop where
  rv : Rising ltN vs
  V : ∀ k, g.V k = true ↔ k ∈ vs
  N : vs.length = g.N
  re : Recs es
  mem : ∀ x, x ∈ es ↔ ∃ i : Nat, g.ps[i]? = some (x, true)
  edge : ∀ (i : Nat) (x : EdgeV), g.ps[i]? = some (x, true) → x.1 = (i : Int) + 1 ∧ g.V x.2.1 = true ∧ g.V x.2.2.1 = true
section
variable {g : Gr} {vs : List Int} {es : List EdgeV}
theorem RelG.start (nb : Nat) : RelG ⟨fun _ => false, 0, [], 0, 0, nb⟩ [] [] := ⟨List.Pairwise.nil, fun k => by simp, rfl, List.Pairwise.nil, fun x => by simp, fun i x h => by simp at h⟩
theorem RelG.has (h : RelG g vs es) (k : Int) : decide (k ∈ vs) = g.V k := by
  cases e : g.V k with
  | true => exact decide_eq_true ((h.V k).1 e)
  | false => exact decide_eq_false (fun hm => by rw [(h.V k).2 hm] at e; cases e)
theorem RelG.no (h : RelG g vs es) (e : Int) : HasNo es e ↔ ∃ (i : Nat) (a : EdgeV), e = (i : Int) + 1 ∧ g.ps[i]? = some (a, true) := by
  constructor
  · rintro ⟨j, a, hj, rfl⟩
    obtain ⟨i, hi⟩ := (h.mem a).1 (List.mem_of_getElem? hj); exact ⟨i, a, (h.edge i a hi).1, hi⟩
  · rintro ⟨i, a, rfl, hi⟩
    obtain ⟨j, hj, e⟩ := List.mem_iff_getElem.1 ((h.mem a).2 ⟨i, hi⟩); exact ⟨j, a, by rw [List.getElem?_eq_getElem hj, e], (h.edge i a hi).1⟩
theorem RelG.noN (h : RelG g vs es) (i : Nat) : HasNo es ((i : Int) + 1) ↔ ∃ a, g.ps[i]? = some (a, true) := by
  rw [h.no]; constructor
  · rintro ⟨j, a, e, hj⟩; exact ⟨a, by rw [show i = j by omega]; exact hj⟩
  · rintro ⟨a, ha⟩; exact ⟨i, a, rfl, ha⟩
theorem RelG.nums (h : RelG g vs es) (p : EdgeV → Bool) : (es.filter p).map (·.1) = numsOf p g.ps := by
  refine rising_ext linN ?_ (rising_numsOf _ _) (fun e => ?_)
  · refine List.pairwise_map.2 ((h.re.filter p).imp ?_); intro a b hab; simpa [ltN] using hab
  · rw [mem_numsOf, List.mem_map]; constructor
    · rintro ⟨x, hx, rfl⟩
      obtain ⟨hm, hp⟩ := List.mem_filter.1 hx; obtain ⟨i, hi⟩ := (h.mem x).1 hm; exact ⟨i, x, hi, hp, (h.edge i x hi).1⟩
    · rintro ⟨i, x, hi, hp, rfl⟩
      exact ⟨x, List.mem_filter.2 ⟨(h.mem x).2 ⟨i, hi⟩, hp⟩, (h.edge i x hi).1⟩
theorem RelG.all (h : RelG g vs es) : eAll es = numsOf (fun _ => true) g.ps := by
  rw [← h.nums]; unfold eAll; rw [List.filter_eq_self.2 (fun _ _ => rfl)]
theorem RelG.out (h : RelG g vs es) (k : Int) : eOut es k = outs g.ps k := h.nums _
theorem RelG.inn (h : RelG g vs es) (k : Int) : eIn es k = inns g.ps k := h.nums _
theorem RelG.len (h : RelG g vs es) : es.length ≤ g.ps.length := by
  have := congrArg List.length h.all; unfold eAll at this; rw [List.length_map] at this; rw [this]; exact length_numsOf _ _
theorem RelG.outs_no (h : RelG g vs es) {k : Int} (hk : g.V k = false) : outs g.ps k = [] ∧ inns g.ps k = [] := by
  constructor
  · refine List.eq_nil_iff_forall_not_mem.2 (fun e he => ?_)
    obtain ⟨i, x, hi, hp, -⟩ := mem_numsOf.1 he; have := (h.edge i x hi).2.1; rw [of_decide_eq_true hp, hk] at this; cases this
  · refine List.eq_nil_iff_forall_not_mem.2 (fun e he => ?_)
    obtain ⟨i, x, hi, hp, -⟩ := mem_numsOf.1 he; have := (h.edge i x hi).2.2; rw [of_decide_eq_true hp, hk] at this; cases this
theorem plus_len (vs : List Int) (v : Int) : (plus vs v).length = vs.length + 1 := by
  unfold plus; have := cnt_le (lt := ltN) vs v; simp; omega
theorem RelG.addV (h : RelG g vs es) {v : Int} (hv : g.V v = false) : RelG { g with V := fun j => decide (j = v) || g.V j, N := g.N + 1 } (plus vs v) es := by
  have hm : v ∉ vs := fun e => by rw [(h.V v).2 e] at hv; cases hv
  obtain ⟨p1, p2⟩ := put_one h.rv hm; refine ⟨p1, fun k => ?_, by rw [plus_len, h.N], h.re, h.mem, fun i x hi => ?_⟩
  · unfold plus; rw [p2]; simp only [Bool.or_eq_true, decide_eq_true_eq, h.V]
  · obtain ⟨e1, e2, e3⟩ := h.edge i x hi; exact ⟨e1, by simp [e2], by simp [e3]⟩
theorem RelG.ins (h : RelG g vs es) {i k : Nat} {u v kb : Int} (hu : g.V u = true) (hv : g.V v = true) (hfree : ∀ a, g.ps[i]? ≠ some (a, true)) (hp : Puts es ((i : Int) + 1) k) :
    RelG (g.ins i u v kb) vs (es.take k ++ [((i : Int) + 1, u, v, kb)] ++ es.drop k) := by
  obtain ⟨hk, hp1, hp2⟩ := hp; have hat : ∀ j y, (g.ins i u v kb).ps[j]? = some (y, true) ↔ (j = i ∧ y = ((i : Int) + 1, u, v, kb)) ∨ g.ps[j]? = some (y, true) := fun j y => at_put hfree
  have hge : ∀ a ∈ es.drop k, (i : Int) + 1 < a.1 := fun a ha => by
    obtain ⟨j, hj, e⟩ := List.mem_iff_getElem.1 ha; have hjl : k + j < es.length := by rw [List.length_drop] at hj; omega
    have e1 : es[k + j]? = some a := by rw [List.getElem_drop] at e; rw [List.getElem?_eq_getElem hjl, e]
    have hne : a.1 ≠ (i : Int) + 1 := fun e2 => by
      obtain ⟨m, b, e3, hb⟩ := (h.no a.1).1 ⟨k + j, a, e1, rfl⟩; exact hfree b (by rw [show i = m by omega]; exact hb)
    have h0 := hp2 es[k] (List.getElem?_eq_getElem (by omega))
    rcases Nat.eq_zero_or_pos j with e4 | e4
    · subst e4; have : es[k] = a := by rw [Nat.add_zero] at e1; rw [List.getElem?_eq_getElem (by omega)] at e1; exact Option.some.inj e1
      rw [this] at h0; omega
    · have := List.pairwise_iff_getElem.1 h.re k (k + j) (by omega) hjl (by omega)
      have e5 : es[k + j] = a := by rw [List.getElem?_eq_getElem hjl] at e1; exact Option.some.inj e1
      rw [e5] at this; omega
  have hlt : ∀ a ∈ es.take k, a.1 < (i : Int) + 1 := fun a ha => by
    obtain ⟨j, hj, e⟩ := List.mem_iff_getElem.1 ha; have hjk : j < k ∧ j < es.length := by rw [List.length_take] at hj; omega
    rw [List.getElem_take] at e; exact hp1 j a hjk.1 (by rw [List.getElem?_eq_getElem hjk.2, e])
  have hre : Recs (es.take k ++ es.drop k) := by rw [List.take_append_drop]; exact h.re
  obtain ⟨r1, r2, r3⟩ := List.pairwise_append.1 hre; refine ⟨h.rv, h.V, h.N, ?_, fun x => ?_, fun j x hj => ?_⟩
  · refine List.pairwise_append.2 ⟨List.pairwise_append.2 ⟨r1, List.pairwise_singleton _ _, fun a ha b hb => ?_⟩, r2, fun a ha b hb => ?_⟩
    · simp at hb; subst hb; exact hlt a ha
    · rcases List.mem_append.1 ha with ha | ha
      · exact r3 a ha b hb
      · simp at ha; subst ha; exact hge b hb
  · have e1 : x ∈ es ↔ x ∈ es.take k ∨ x ∈ es.drop k := by rw [← List.mem_append, List.take_append_drop]
    simp only [List.mem_append, List.mem_singleton]; constructor
    · rintro ((hx | hx) | hx)
      · obtain ⟨j, hj⟩ := (h.mem x).1 (e1.2 (.inl hx)); exact ⟨j, (hat j x).2 (.inr hj)⟩
      · exact ⟨i, (hat i x).2 (.inl ⟨rfl, hx⟩)⟩
      · obtain ⟨j, hj⟩ := (h.mem x).1 (e1.2 (.inr hx)); exact ⟨j, (hat j x).2 (.inr hj)⟩
    · rintro ⟨j, hj⟩
      rcases (hat j x).1 hj with ⟨-, e⟩ | hj
      · exact .inl (.inr e)
      · rcases e1.1 ((h.mem x).2 ⟨j, hj⟩) with hx | hx
        · exact .inl (.inl hx)
        · exact .inr hx
  · rcases (hat j x).1 hj with ⟨rfl, rfl⟩ | hj
    · exact ⟨rfl, hu, hv⟩
    · exact h.edge j x hj
theorem cut_mem {es : List EdgeV} {k : Nat} {x : EdgeV} (h : Recs es) (hk : es[k]? = some x) : Recs (es.take k ++ es.drop (k + 1)) ∧ ∀ y, y ∈ es.take k ++ es.drop (k + 1) ↔ y ∈ es ∧ y.1 ≠ x.1 := by
  obtain ⟨hl, e⟩ := List.getElem?_eq_some_iff.1 hk; have hd : es.drop k = x :: es.drop (k + 1) := by rw [List.drop_eq_getElem_cons hl, e]
  have hre : Recs (es.take k ++ es.drop k) := by rw [List.take_append_drop]; exact h
  rw [hd] at hre; obtain ⟨r1, r2, r3⟩ := List.pairwise_append.1 hre; obtain ⟨s1, s2⟩ := List.pairwise_cons.1 r2; refine ⟨List.pairwise_append.2 ⟨r1, s2, fun a ha b hb => r3 a ha b (List.mem_cons_of_mem _ hb)⟩, fun y => ?_⟩
  have e1 : y ∈ es ↔ y ∈ es.take k ∨ y = x ∨ y ∈ es.drop (k + 1) := by
    rw [← List.mem_cons, ← hd, ← List.mem_append, List.take_append_drop]
  rw [List.mem_append, e1]; constructor
  · rintro (hy | hy)
    · exact ⟨.inl hy, fun e => by have := r3 y hy x (by simp); omega⟩
    · exact ⟨.inr (.inr hy), fun e => by have := s1 y hy; omega⟩
  · rintro ⟨hy | hy | hy, hne⟩
    · exact .inl hy
    · exact absurd (by rw [hy]) hne
    · exact .inr hy
theorem RelG.cut (h : RelG g vs es) {i k : Nat} {x : EdgeV} (hi : g.ps[i]? = some (x, true)) (hk : es[k]? = some x) : RelG (g.cut i) vs (es.take k ++ es.drop (k + 1)) := by
  obtain ⟨c1, c2⟩ := cut_mem h.re hk; have hat : ∀ j y, (g.cut i).ps[j]? = some (y, true) ↔ j ≠ i ∧ g.ps[j]? = some (y, true) := fun j y => at_cut
  refine ⟨h.rv, h.V, h.N, c1, fun y => ?_, fun j y hj => h.edge j y ((hat j y).1 hj).2⟩
  rw [c2, h.mem]; have hx := (h.edge i x hi).1; constructor
  · rintro ⟨⟨j, hj⟩, hne⟩
    have hy := (h.edge j y hj).1; exact ⟨j, (hat j y).2 ⟨fun e => hne (by rw [hy, hx, e]), hj⟩⟩
  · rintro ⟨j, hj⟩
    obtain ⟨h1, h2⟩ := (hat j y).1 hj; have hy := (h.edge j y h2).1; exact ⟨⟨j, h2⟩, fun e => h1 (by omega)⟩
def Gr.rew (g : Gr) (i : Nat) (x : EdgeV) : Gr := { g with ps := g.ps.set i (x, true), wr := g.wr + 1, nb := g.nb + 65536 }
theorem RelG.rew (h : RelG g vs es) {i k : Nat} {x : EdgeV} (b : Int) (hi : g.ps[i]? = some (x, true)) (hk : es[k]? = some x) : RelG (g.rew i (x.1, x.2.1, x.2.2.1, b)) vs (es.set k (x.1, x.2.1, x.2.2.1, b)) := by
  obtain ⟨hl, e⟩ := List.getElem?_eq_some_iff.1 hk; obtain ⟨hil, -⟩ := List.getElem?_eq_some_iff.1 hi; have hx := h.edge i x hi; have hat : ∀ j y, (g.rew i (x.1, x.2.1, x.2.2.1, b)).ps[j]? = some (y, true) ↔ (j = i ∧ y = (x.1, x.2.1, x.2.2.1, b)) ∨ (j ≠ i ∧ g.ps[j]? = some (y, true)) := fun j y => by
    show (g.ps.set i ((x.1, x.2.1, x.2.2.1, b), true))[j]? = _ ↔ _; rw [List.getElem?_set]
    by_cases e : i = j
    · subst e; rw [if_pos rfl, if_pos hil]; constructor
      · intro h; exact .inl ⟨rfl, by have := Option.some.inj h; exact (congrArg Prod.fst this).symm⟩
      · rintro (⟨-, rfl⟩ | ⟨h, -⟩)
        · rfl
        · exact absurd rfl h
    · rw [if_neg e]; constructor
      · intro h; exact .inr ⟨fun e' => e e'.symm, h⟩
      · rintro (⟨h, -⟩ | ⟨-, h⟩)
        · exact absurd h.symm e
        · exact h
  refine ⟨h.rv, h.V, h.N, ?_, fun y => ?_, fun j y hj => ?_⟩
  · refine List.pairwise_iff_getElem.2 (fun a c ha hc hac => ?_)
    have ha' : a < es.length := by simpa using ha
    have hc' : c < es.length := by simpa using hc
    have := List.pairwise_iff_getElem.1 h.re a c ha' hc' hac; rw [List.getElem_set, List.getElem_set]; split <;> split
    · omega
    · rename_i e1 _; subst e1; rw [e] at this; exact this
    · rename_i _ e1; subst e1; rw [e] at this; exact this
    · exact this
  · constructor
    · intro hy; obtain ⟨j, hj, e1⟩ := List.mem_iff_getElem.1 hy; have hj' : j < es.length := by simpa using hj
      rw [List.getElem_set] at e1; split at e1
      · exact ⟨i, (hat i y).2 (.inl ⟨rfl, e1.symm⟩)⟩
      · rename_i hne; obtain ⟨m, hm⟩ := (h.mem y).1 (by rw [← e1]; exact List.getElem_mem hj')
        refine ⟨m, (hat m y).2 (.inr ⟨fun em => hne ?_, hm⟩)⟩
        subst em; rw [hi] at hm; have hyx : x = y := by have := Option.some.inj hm; exact congrArg Prod.fst this
        have h5 : es[j]? = some x := by rw [List.getElem?_eq_getElem hj', e1, hyx]
        rcases Nat.lt_trichotomy k j with h' | h' | h'
        · have := List.pairwise_iff_getElem.1 h.re k j hl hj' h'; rw [e, e1, hyx] at this; omega
        · exact h'
        · have := List.pairwise_iff_getElem.1 h.re j k hj' hl h'; rw [e, e1, hyx] at this; omega
    · rintro ⟨j, hj⟩
      rcases (hat j y).1 hj with ⟨-, rfl⟩ | ⟨hne, hj2⟩
      · exact List.mem_iff_getElem.2 ⟨k, by simpa using hl, by rw [List.getElem_set]; simp⟩
      · obtain ⟨m, hm, e1⟩ := List.mem_iff_getElem.1 ((h.mem y).2 ⟨j, hj2⟩); refine List.mem_iff_getElem.2 ⟨m, by simpa using hm, ?_⟩
        rw [List.getElem_set]; split
        · rename_i e2; subst e2; have : y = x := by rw [← e1, e]
          subst this; have := (h.edge j y hj2).1; have := hx.1; omega
        · exact e1
  · rcases (hat j y).1 hj with ⟨rfl, rfl⟩ | ⟨-, hj⟩
    · exact hx
    · exact h.edge j y hj
theorem RelG.lose (h : RelG g vs es) {v : Int} (hv : g.V v = true) : RelG (g.lose v) (vs.filter (fun k => !decide (k = v))) (es.filter (fun x => !hits v x)) := by
  have hbm : ∀ e, e ∈ boths g.ps v ↔ ∃ (i : Nat) (x : EdgeV), g.ps[i]? = some (x, true) ∧ hits v x = true ∧ e = (i : Int) + 1 := fun e => mem_numsOf
  have hat : ∀ (j : Nat) (y : EdgeV), (g.lose v).ps[j]? = some (y, true) ↔ ((j : Int) + 1 ∉ boths g.ps v) ∧ g.ps[j]? = some (y, true) := fun j y => at_clr _ _ j y (fun e he => boths_ge e he)
  have hat2 : ∀ (j : Nat) (y : EdgeV), (g.lose v).ps[j]? = some (y, true) ↔ hits v y = false ∧ g.ps[j]? = some (y, true) := fun j y => by
    rw [hat]; constructor
    · rintro ⟨h1, h2⟩
      refine ⟨?_, h2⟩
      cases e : hits v y with
      | false => rfl
      | true => exact absurd ((hbm _).2 ⟨j, y, h2, e, rfl⟩) h1
    · rintro ⟨h1, h2⟩
      refine ⟨fun hm => ?_, h2⟩
      obtain ⟨i, x, hi, hx, e⟩ := (hbm _).1 hm; rw [show i = j by omega, h2] at hi
      have : y = x := congrArg Prod.fst (Option.some.inj hi); rw [this, hx] at h1; cases h1
  have hm : v ∈ vs := (h.V v).1 hv; refine ⟨h.rv.filter _, fun k => ?_, ?_, h.re.filter _, fun x => ?_, fun j y hj => ?_⟩
  · rw [List.mem_filter, ← h.V]; show (!decide (k = v) && g.V k) = true ↔ _; simp only [Bool.and_eq_true]; exact ⟨fun h => ⟨h.2, h.1⟩, fun h => ⟨h.2, h.1⟩⟩
  · show _ = g.N - 1; rw [← h.N]; have hn : vs.Nodup := h.rv.nodup linN; have e1 : vs.filter (fun k => !decide (k = v)) = vs.erase v := by
      rw [hn.erase_eq_filter v]; refine List.filter_congr (fun k _ => ?_)
      by_cases e : k = v <;> simp [e]
    rw [e1, List.length_erase_of_mem hm]
  · rw [List.mem_filter, h.mem]; constructor
    · rintro ⟨⟨i, hi⟩, hx⟩
      exact ⟨i, (hat2 i x).2 ⟨by simpa using hx, hi⟩⟩
    · rintro ⟨i, hi⟩
      obtain ⟨h1, h2⟩ := (hat2 i x).1 hi; exact ⟨⟨i, h2⟩, by simp [h1]⟩
  · obtain ⟨h1, h2⟩ := (hat2 j y).1 hj; obtain ⟨e1, e2, e3⟩ := h.edge j y h2; unfold hits at h1; simp only [Bool.or_eq_false_iff, decide_eq_false_iff_not] at h1; refine ⟨e1, ?_, ?_⟩
    · show (!decide (y.2.1 = v) && g.V y.2.1) = true; simp [h1.1, e2]
    · show (!decide (y.2.2.1 = v) && g.V y.2.2.1) = true; simp [h1.2, e3]
theorem RelG.gone (h : RelG g vs es) (v : Int) : (boths g.ps v).map (recOf g.ps) = es.filter (hits v) := by
  have e1 : boths g.ps v = (es.filter (hits v)).map (·.1) := (h.nums (hits v)).symm; rw [e1, List.map_map]; refine (List.map_congr_left (g := id) (fun x hx => ?_)).trans (List.map_id _)
  obtain ⟨i, hi⟩ := (h.mem x).1 (List.mem_filter.1 hx).1; show recOf g.ps x.1 = x; rw [(h.edge i x hi).1]; exact recOf_at hi
theorem RelG.boths_len (h : RelG g vs es) (v : Int) : (boths g.ps v).length = (es.filter (hits v)).length := by rw [← h.gone v, List.length_map]
theorem filt_len (es : List EdgeV) (p : EdgeV → Bool) : (es.filter p).length + (es.filter (fun x => !p x)).length = es.length := by
  induction es with
  | nil => rfl
  | cons a es ih =>
    cases e : p a <;> simp [e] <;> omega
end
end

end Go.Proofs.YtagibmgbjhemkaaGreat
