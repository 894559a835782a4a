/- The table's Set, and the store's Reweigh. -/
import Derived.Test.YtagibmgbjhemkaaGreatStGet
namespace Go.Proofs.YtagibmgbjhemkaaGreat
open Go.RowKit Go.Maps

/-- The four cells of the thing at the place i, written. -/
def setT (w : World) (g i : Nat) (x : EdgeV) : World := (((w.setCell ⟨g, i * 5, none⟩ (.int .i64 x.1)).setCell ⟨g, i * 5 + 1, none⟩ (.int .i64 x.2.1)).setCell ⟨g, i * 5 + 2, none⟩ (.int .i64 x.2.2.1)).setCell ⟨g, i * 5 + 3, none⟩ (.int .u32 x.2.2.2)
theorem set_same {α : Type} {l : List α} {j : Nat} {v : α} (h : l[j]? = some v) : l.set j v = l := by
  refine List.ext_getElem? (fun k => ?_)
  rw [List.getElem?_set]
  by_cases e : j = k
  · subst e
    rw [if_pos rfl, if_pos (List.getElem?_eq_some_iff.1 h).1, h]
  · simp [e]
theorem encE_set4 {ps : List (EdgeV × Bool)} {i : Nat} {a : EdgeV} (x : EdgeV) (hi : ps[i]? = some (a, true)) : encE (ps.set i (x, true)) = ((((encE ps).set (i * 5) (.int .i64 x.1)).set (i * 5 + 1) (.int .i64 x.2.1)).set (i * 5 + 2) (.int .i64 x.2.2.1)).set (i * 5 + 3) (.int .u32 x.2.2.2) := by
  rw [encE_set]
  unfold putE
  refine set_same ?_
  rw [List.getElem?_set_ne (by omega), List.getElem?_set_ne (by omega), List.getElem?_set_ne (by omega), List.getElem?_set_ne (by omega)]
  exact (encE_at ps i a true hi).2.2.2.2

section
variable [Inhabited EntI] {w w' : World} {t hp : Nat} {v : Value} {most : Int} {ps : List (EdgeV × Bool)} {ms ms' : List EntI} {n n' : Nat} {G G' : Nat → Prop}

theorem TRawE.storeT {g L c : Nat} {a : EdgeV} (h : TRawE w t hp (.slice (some ⟨g, 0, none⟩) L c) most ps ms n G) (i : Nat) (x : EdgeV) (hi : ps[i]? = some (a, true)) :
    TRawE (setT w g i x) t hp (.slice (some ⟨g, 0, none⟩) L c) most (ps.set i (x, true)) ms n G ∧ Turned (Feet t (.slice (some ⟨g, 0, none⟩) L c) G) w (setT w g i x) := by
  have hgt : t ≠ g := fun e => h.nv (by simp [Value.ownBlock, e])
  have hgG := h.ng g rfl
  have hL : L = ps.length := by
    rcases h.row.2 with ⟨e, -⟩ | ⟨g', cap, cur, e, -⟩
    · cases e
    · cases e; rfl
  subst hL
  have oth : ∀ k, k ≠ g → (setT w g i x).heap[k]? = w.heap[k]? := fun k hk => by
    unfold setT
    rw [heap_setCell_other _ _ _ _ hk, heap_setCell_other _ _ _ _ hk, heap_setCell_other _ _ _ _ hk, heap_setCell_other _ _ _ _ hk]
  refine ⟨⟨(oth t hgt).trans h.box, ?_, h.on.kept (fun k hk => oth k (fun e => hgG (by rw [← e]; exact hk))), h.nt, h.nv, h.ng, by simpa using h.len, h.top⟩, ?_⟩
  · rw [encE_set4 x hi, List.length_set]
    exact ((((h.row.stored _ _).1.stored _ _).1.stored _ _).1.stored _ _).1
  · exact (((turned_setCell _ _ _ (.inr (.inl rfl))).trans (turned_setCell _ _ _ (.inr (.inl rfl)))).trans (turned_setCell _ _ _ (.inr (.inl rfl)))).trans (turned_setCell _ _ _ (.inr (.inl rfl)))

set_option maxHeartbeats 1000000 in
set_option maxRecDepth 100000 in
theorem setYesE {a : EdgeV} (i : Nat) (x : EdgeV) (h : TAtE w t hp v most ps ms n G) (hi : ps[i]? = some (a, true)) :
    Calls Tryz.prog 102 #[.pointer (some ⟨t, 0, none⟩), .int .i64 ((i : Int) + 1), .agg #[.int .i64 x.1, .int .i64 x.2.1, .int .i64 x.2.2.1, .int .u32 x.2.2.2]] w fun e w' => e = .returned (.bool true) ∧ Hid (ThenE w w' t hp v most (ps.set i (x, true)) n G) := by
  have hb0 : Below w.heap.size w (w.alloc (oE x)) := (Below.refl _ _).alloc (Nat.le_refl _) _
  have H0 : TAtE (w.alloc (oE x)) t hp v most ps ms n G := h.kept (fun j hj => hb0.block j (h.lt hj))
  have CT := hide (takenAtE i (w.alloc (oE x)) H0 hi)
  obtain ⟨-, c1, -, -⟩ := H0.cells
  have hil := lt_of_at hi
  obtain ⟨g, c, rfl, -, df, hc⟩ := H0.some_ (by omega)
  obtain ⟨⟨d0, d1, d2, d3⟩, -⟩ := hc i a true hi
  have hl := h.len
  have ht := h.top
  obtain ⟨x0, x1, x2, x3, -⟩ := box_cells (heap_alloc_new w (oE x))
  have hgw : g < w.heap.size := (h.row.lt g rfl).2
  have hn1 : ¬ g = w.heap.size := by omega
  have hn2 : ¬ w.heap.size = g := by omega
  have HF : Hid (∀ q, ThenE w (setT ((w.alloc (oE x)).drewN q) g i x) t hp (.slice (some ⟨g, 0, none⟩) ps.length c) most (ps.set i (x, true)) n G) := fun q => by
    have H1 : TAtE ((w.alloc (oE x)).drewN q) t hp (.slice (some ⟨g, 0, none⟩) ps.length c) most ps ms n G := h.kept (fun j hj => (below_drewN hb0 q).block j (h.lt hj))
    obtain ⟨r1, T1⟩ := H1.raw.storeT i x hi
    refine ThenE.boxed h (oE x) ?_
    have bq := below_drewN (Below.refl (w.alloc (oE x)).heap.size (w.alloc (oE x))) q
    exact ⟨_, _, _, _, by omega, r1.full (frees_set h.fr hi x), Turned.then_ (S := Feet t (.slice (some ⟨g, 0, none⟩) ps.length c) G) ⟨bq.os, bq.tape, bq.output, bq.size, fun _ _ _ => rfl⟩ T1 (fun _ _ h => h), fun j hj => .inl hj⟩
  generalize ps.length = L at *
  have h3 : (i : Int) < (L : Int) := by omega
  have hw1 : IntKind.i64.wrap ((i : Int) + 1 - 1) = (i : Int) := by rw [IntKind.wrap_i64]; omega
  have h4 : (L : Int) ≤ 65536 := by omega
  clear h hc hi hl ht hil H0 hb0 hgw
  go_enter Tryz.func102, Tryz.ntmps102
  go_upto_region 1 with fail
  change Code.wp _ _ _ _ (w.alloc (oE x))
  generalize w.alloc (oE x) = wb at *
  generalize w.heap.size = bb at *
  go_wp2_with fail
  refine (unhide CT).mono ?_
  rintro e w2 ⟨rfl, rfl⟩
  clear CT
  go_upto_region 3 with fail
  have h0 : (0 : Int) ≤ (i : Int) := by omega
  clear hw1
  go_region
  all_goals
    go_wp2_with fail
    go_ret
    exact ⟨rfl, unhide HF 1⟩
end

theorem nums_set {p : EdgeV → Bool} : ∀ {ps : List (EdgeV × Bool)} {i : Nat} {a x : EdgeV}, ps[i]? = some (a, true) → p x = p a → numsOf p (ps.set i (x, true)) = numsOf p ps := by
  intro ps i a x hi hp
  refine rising_ext linN (rising_numsOf _ _) (rising_numsOf _ _) (fun k => ?_)
  rw [mem_numsOf, mem_numsOf]
  have hl := (List.getElem?_eq_some_iff.1 hi).1
  constructor
  · rintro ⟨j, y, hj, hy, e⟩
    rw [List.getElem?_set] at hj
    by_cases hij : i = j
    · subst hij
      simp [hl] at hj
      exact ⟨i, a, hi, by rw [← hp, hj]; exact hy, e⟩
    · simp [hij] at hj; exact ⟨j, y, hj, hy, e⟩
  · rintro ⟨j, y, hj, hy, e⟩
    by_cases hij : i = j
    · subst hij
      rw [hi] at hj; cases hj
      exact ⟨i, x, by rw [List.getElem?_set]; simp [hl], by rw [hp]; exact hy, e⟩
    · exact ⟨j, y, by rw [List.getElem?_set]; simp [hij]; exact hj, hy, e⟩

section
variable [Inhabited EntI] {w w' : World} {X X' : Sto}

/-- Another weight. -/
def Rewd (w : World) (X : Sto) (i : Nat) (x : EdgeV) (w' : World) (X' : Sto) : Prop :=
  Step w X w' X' ∧ X'.ps = X.ps.set i (x, true) ∧ X'.f = X.f ∧ X'.N = X.N ∧ X'.rd = X.rd ∧ X'.wr = X.wr + 1 ∧ X'.n ≤ X.n + 65536
theorem rew_end {w2 : World} {a : EdgeV} {i : Nat} {b : Int} (h : StAt w X) (hi : X.ps[i]? = some (a, true)) (hb : Below w.heap.size w w2) {w3 : World} (ht : ThenE w2 w3 X.t X.hp X.v 1024 (X.ps.set i ((a.1, a.2.1, a.2.2.1, b), true)) X.n X.G) :
    (w3.cell? ⟨X.s, 3, none⟩ = some (.int .i64 X.wr) ∧ ∀ o, w3.frozen? ⟨X.s, o, none⟩ = false) ∧ ∃ X', Rewd w X i (a.1, a.2.1, a.2.2.1, b) (w3.setCell ⟨X.s, 3, none⟩ (.int .i64 (X.wr + 1))) X' := by
  obtain ⟨v', ms', n', G', L', hn, hM, hF⟩ := (h.mem.below hb).tabTurn ht
  obtain ⟨-, -, -, c3, cf⟩ := hM.cells
  refine ⟨⟨c3, cf⟩, ?_⟩
  obtain ⟨z1, z2⟩ := hM.wrTurn (X.wr + 1)
  refine ⟨{ X with v := v', ms := ms', n := n', G := G', ps := X.ps.set i ((a.1, a.2.1, a.2.2.1, b), true), L := L', wr := X.wr + 1 }, ⟨⟨?_, fun j x hj => ?_, h.size⟩, rfl, (Foots.below X.L hb).trans (hF.trans z2)⟩, rfl, rfl, rfl, rfl, rfl, hn⟩
  · have e1 : outs (X.ps.set i ((a.1, a.2.1, a.2.2.1, b), true)) = outs X.ps := funext fun k => nums_set hi rfl
    have e2 : inns (X.ps.set i ((a.1, a.2.1, a.2.2.1, b), true)) = inns X.ps := funext fun k => nums_set hi rfl
    show StMid _ _ (outs (X.ps.set i ((a.1, a.2.1, a.2.2.1, b), true))) (inns (X.ps.set i ((a.1, a.2.1, a.2.2.1, b), true)))
    rw [e1, e2]; exact z1
  · have hl := (List.getElem?_eq_some_iff.1 hi).1
    have hj' : (X.ps.set i ((a.1, a.2.1, a.2.2.1, b), true))[j]? = some (x, true) := hj
    rw [List.getElem?_set] at hj'
    by_cases hij : i = j
    · subst hij
      simp [hl] at hj'
      subst hj'
      exact h.edge i a hi
    · simp [hij] at hj'; exact h.edge j x hj'

set_option maxHeartbeats 1000000 in
set_option maxRecDepth 100000 in
theorem rewNo (e n : Int) (h : StAt w X) (hno : ∀ (i : Nat) a, e = (i : Int) + 1 → X.ps[i]? ≠ some (a, true)) :
    Calls Tryz.prog 71 #[.pointer (some ⟨X.s, 0, none⟩), .int .i64 e, .int .u32 n] w fun r w' => r = .returned (.tuple #[.int .u32 0, .int .i64 6]) ∧ Hid (Below w.heap.size w w') := by
  obtain ⟨c0, -, -, -, -⟩ := h.cells
  have CT := hide (atNoE e w h.tab hno)
  generalize X.s = s at *
  generalize X.t = t at *
  clear h hno
  go_enter Tryz.func71, Tryz.ntmps71
  go_wp2_with fail
  refine (unhide CT).mono ?_
  rintro r w2 ⟨rfl, hb2⟩
  have HB : Hid (Below w.heap.size w (w2.alloc o34)) := hb2.trans ((Below.refl _ _).alloc hb2.size _)
  clear CT hb2
  go_upto_region 2 with fail
  change Code.wp _ _ _ _ (w2.alloc o34)
  generalize w2.alloc o34 = w3 at *
  go_wp2_with fail
  go_ret2
  exact ⟨rfl, unhide HB⟩

set_option maxHeartbeats 1000000 in
set_option maxRecDepth 100000 in
theorem rewBad {a : EdgeV} (i : Nat) (n : Int) (h : StAt w X) (hi : X.ps[i]? = some (a, true)) (h0 : 0 ≤ n) (hk : kept n = none) :
    Calls Tryz.prog 71 #[.pointer (some ⟨X.s, 0, none⟩), .int .i64 ((i : Int) + 1), .int .u32 n] w fun r w' => r = .returned (.tuple #[.int .u32 0, .int .i64 7]) ∧ Hid (Below w.heap.size w w') := by
  obtain ⟨c0, -, -, -, -⟩ := h.cells
  have CT := hide (atYesE i w h.tab hi)
  have CA : Hid (∀ W, Calls Tryz.prog 101 #[.int .u32 n] W fun e w' => e = .returned (ansK (kept n)) ∧ w' = W) := fun W => keptS n h0 W
  rw [hk] at CA
  simp only [ansK] at CA
  generalize X.s = s at *
  generalize X.t = t at *
  clear h hi h0 hk
  go_enter Tryz.func71, Tryz.ntmps71
  go_wp2_with fail
  refine (unhide CT).mono ?_
  rintro r w2 ⟨rfl, hb2⟩
  have HB : Hid (Below w.heap.size w (w2.alloc (oE a))) := hb2.trans ((Below.refl _ _).alloc hb2.size _)
  clear CT hb2 c0
  go_upto_region 2 with fail
  change Code.wp _ _ _ _ (w2.alloc (oE a))
  generalize w2.alloc (oE a) = w3 at *
  go_wp2_with fail
  refine (unhide CA _).mono ?_
  rintro r w4 ⟨rfl, rfl⟩
  go_wp2_with fail
  go_ret2
  exact ⟨rfl, unhide HB⟩

set_option maxHeartbeats 2000000 in
set_option maxRecDepth 100000 in
theorem rewS {a : EdgeV} (i : Nat) (n : Int) {b : Int} (h : StAt w X) (hi : X.ps[i]? = some (a, true)) (h0 : 0 ≤ n) (hk : kept n = some b) (hw0 : 0 ≤ X.wr) (hw1 : X.wr ≤ 1000000000) :
    Calls Tryz.prog 71 #[.pointer (some ⟨X.s, 0, none⟩), .int .i64 ((i : Int) + 1), .int .u32 n] w fun r w' => r = .returned (.tuple #[.int .u32 a.2.2.2, .int .i64 0]) ∧ Hid (∃ X', Rewd w X i (a.1, a.2.1, a.2.2.1, b) w' X') := by
  obtain ⟨c0, -, -, -, -⟩ := h.cells
  have CT := hide (atYesE i w h.tab hi)
  have CA : Hid (∀ W, Calls Tryz.prog 101 #[.int .u32 n] W fun e w' => e = .returned (ansK (kept n)) ∧ w' = W) := fun W => keptS n h0 W
  rw [hk] at CA
  simp only [ansK] at CA
  have hsl := h.mem.lt X.s (by rw [h.mem.lbox]; simp)
  have HS : Hid (∀ w2, Below w.heap.size w w2 → ((w2.alloc (oE a)).setCell ⟨w2.heap.size, 3, none⟩ (.int .u32 b)).cell? ⟨X.s, 0, none⟩ = some (.pointer (some ⟨X.t, 0, none⟩)) ∧ ((w2.alloc (oE a)).setCell ⟨w2.heap.size, 3, none⟩ (.int .u32 b)).heap[w2.heap.size]? = some (oE (a.1, a.2.1, a.2.2.1, b)) ∧ ∀ q, Calls Tryz.prog 102 #[.pointer (some ⟨X.t, 0, none⟩), .int .i64 ((i : Int) + 1), .agg #[.int .i64 a.1, .int .i64 a.2.1, .int .i64 a.2.2.1, .int .u32 b]] (((w2.alloc (oE a)).setCell ⟨w2.heap.size, 3, none⟩ (.int .u32 b)).drewN q) fun e w3 => e = .returned (.bool true) ∧ Hid ((w3.cell? ⟨X.s, 3, none⟩ = some (.int .i64 X.wr) ∧ ∀ o, w3.frozen? ⟨X.s, o, none⟩ = false) ∧ ∃ X', Rewd w X i (a.1, a.2.1, a.2.2.1, b) (w3.setCell ⟨X.s, 3, none⟩ (.int .i64 (X.wr + 1))) X')) := fun w2 hb2 => by
    have hs2 := hb2.size
    have hB : Below w.heap.size w ((w2.alloc (oE a)).setCell ⟨w2.heap.size, 3, none⟩ (.int .u32 b)) := (hb2.trans ((Below.refl _ _).alloc (by omega) _)).setCell (p := ⟨w2.heap.size, 3, none⟩) hs2 _
    refine ⟨(h.below hB).cells.1, ?_, fun q => ?_⟩
    · rw [heap_setCell_same _ _ _ _ _ _ (heap_alloc_new w2 (oE a))]; rfl
    · have hB' := below_drewN hB q
      refine (setYesE i ((a.1, a.2.1, a.2.2.1, b) : EdgeV) (h.mem.below hB').tab hi).mono ?_
      rintro e w3 ⟨rfl, hh⟩
      exact ⟨rfl, rew_end h hi hB' (unhide hh)⟩
  have hwr : IntKind.i64.wrap (X.wr + 1) = X.wr + 1 := by rw [IntKind.wrap_i64]; omega
  generalize X.s = s at *
  generalize X.t = t at *
  generalize X.wr = wr_0 at *
  clear h hi h0 hk hw0 hw1 hsl
  go_enter Tryz.func71, Tryz.ntmps71
  go_wp2_with fail
  refine (unhide CT).mono ?_
  rintro r w2 ⟨rfl, hb2⟩
  obtain ⟨j1, j2, j3⟩ := unhide HS w2 hb2
  have HJ := hide (And.intro j1 (And.intro j2 j3))
  obtain ⟨x0, x1, x2, x3, xf⟩ := box_cells (heap_alloc_new w2 (oE a))
  clear CT hb2 c0 HS j1 j2 j3
  go_upto_region 2 with fail
  change Code.wp _ _ _ _ (w2.alloc (oE a))
  generalize w2.alloc (oE a) = w3 at *
  generalize w2.heap.size = b2 at *
  go_wp2_with fail
  refine (unhide CA _).mono ?_
  rintro r w4 ⟨rfl, rfl⟩
  clear CA
  go_upto_region 9 with fail
  obtain ⟨j1, j2, j3⟩ := unhide HJ
  have HJ3 := hide j3
  clear HJ x0 x1 x2 x3 xf j3
  generalize w4.setCell ⟨b2, 3, none⟩ (.int .u32 b) = w5 at *
  obtain ⟨x0, x1, x2, x3, -⟩ := box_cells j2
  clear j2
  simp only at x0 x1 x2 x3
  go_region_with (refine (unhide HJ3 _).mono ?_; rintro r w6 ⟨rfl, h6⟩)
  all_goals
    obtain ⟨⟨k1, k2⟩, hX⟩ := unhide h6
    have HX := hide hX
    clear h6 hX x0 x1 x2 x3 j1 HJ3
    go_wp2_with fail
    go_ret2
    exact ⟨rfl, unhide HX⟩
end
end Go.Proofs.YtagibmgbjhemkaaGreat
