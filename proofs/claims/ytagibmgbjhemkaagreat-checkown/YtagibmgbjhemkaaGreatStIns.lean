/- insert: an edge is made. -/
import Derived.Test.YtagibmgbjhemkaaGreatTail
namespace Go.Proofs.YtagibmgbjhemkaaGreat
open Go.RowKit Go.Maps

section
variable [Inhabited EntI] {w w' : World} {X : Sto} {lo li : Int → List Int}

set_option maxHeartbeats 1000000 in
set_option maxRecDepth 100000 in
theorem insertNoS (x : EdgeV) (h : StAt w X) (hno : x.1 < 1 ∨ 1024 < x.1 ∨ ∃ (i : Nat) (a : EdgeV), x.1 = (i : Int) + 1 ∧ X.ps[i]? = some (a, true)) :
    Calls Tryz.prog 76 #[.pointer (some ⟨X.s, 0, none⟩), .agg #[.int .i64 x.1, .int .i64 x.2.1, .int .i64 x.2.2.1, .int .u32 x.2.2.2]] w fun e w' => e = .returned (.bool false) ∧ Below w.heap.size w w' := by
  have hb0 : Below w.heap.size w (w.alloc (oE x)) := (Below.refl _ _).alloc (Nat.le_refl _) _
  have H0 := h.mem.below hb0
  obtain ⟨c0, -, -, -, -⟩ := H0.cells
  obtain ⟨x0, x1, x2, x3, -⟩ := box_cells (heap_alloc_new w (oE x))
  have CP : Hid (∀ W, Like (w.alloc (oE x)) W → Calls Tryz.prog 103 #[.pointer (some ⟨X.t, 0, none⟩), .int .i64 x.1, .agg #[.int .i64 x.1, .int .i64 x.2.1, .int .i64 x.2.2.1, .int .u32 x.2.2.2]] W fun e w' => e = .returned (.bool false) ∧ (w'.cell? ⟨X.s, 0, none⟩ = some (.pointer (some ⟨X.t, 0, none⟩)) ∧ w'.cell? ⟨w.heap.size, 0, none⟩ = some (.int .i64 x.1) ∧ w'.cell? ⟨w.heap.size, 1, none⟩ = some (.int .i64 x.2.1) ∧ w'.cell? ⟨w.heap.size, 2, none⟩ = some (.int .i64 x.2.2.1) ∧ w'.cell? ⟨w.heap.size, 3, none⟩ = some (.int .u32 x.2.2.2)) ∧ Below w.heap.size w w') := fun W hl => by
    refine (putAtNoE x.1 x W (H0.like hl).tab hno).mono ?_
    rintro e w' ⟨rfl, g⟩
    have gb := (hl.below (w.alloc (oE x)).heap.size).trans (g.mono (by rw [hl.1]; exact Nat.le_refl _))
    obtain ⟨y0, y1, y2, y3, -⟩ := box_cells ((gb.block w.heap.size (by simp)).trans (heap_alloc_new w (oE x)))
    exact ⟨rfl, ⟨(H0.below gb).cells.1, y0, y1, y2, y3⟩, (hb0.trans (hl.below _)).trans (g.mono (by rw [hl.1]; exact hb0.size))⟩
  generalize X.s = s at *
  generalize X.t = t at *
  clear h hno H0 hb0
  go_enter Tryz.func76, Tryz.ntmps76
  go_upto_region 1 with fail
  change Code.wp _ _ _ _ (w.alloc (oE x))
  generalize w.alloc (oE x) = wb at *
  generalize hbb : w.heap.size = bb at *
  go_region_held3 (fun y => y.cell? ⟨s, 0, none⟩ = some (.pointer (some ⟨t, 0, none⟩)) ∧ y.cell? ⟨bb, 0, none⟩ = some (.int .i64 x.1) ∧ y.cell? ⟨bb, 1, none⟩ = some (.int .i64 x.2.1) ∧ y.cell? ⟨bb, 2, none⟩ = some (.int .i64 x.2.2.1) ∧ y.cell? ⟨bb, 3, none⟩ = some (.int .u32 x.2.2.2)) (first | exact ⟨dd0, dd1, dd2, dd3, dd4⟩ | exact ⟨c0, x0, x1, x2, x3⟩ | (go_keep; done)) ((go_at_call 103; refine (unhide CP _ (by exact ⟨rfl, rfl, rfl, rfl⟩)).mono ?_; rintro e w2 ⟨rfl, ⟨dd0, dd1, dd2, dd3, dd4⟩, h2⟩))
  all_goals
    go_wp2_with fail
    go_ret
    exact ⟨rfl, by rw [hbb]; exact h2⟩

/-- What insert leaves: the edge x at the place i. -/
def Insd (w : World) (X : Sto) (i : Nat) (x : EdgeV) (w' : World) (X' : Sto) : Prop :=
  Step w X w' X' ∧ X'.ps = (groE X.ps (i + 1)).set i (x, true) ∧ X'.f = X.f ∧ X'.N = X.N ∧ X'.rd = X.rd ∧ X'.wr = X.wr + 1 ∧ X'.n ≤ X.n + 65536

theorem insd_end {X6 : Sto} {i : Nat} {u v b : Int} (h : StAt w X) (hfree : ∀ a, X.ps[i]? ≠ some (a, true)) (hu : X.f u ≠ none) (hv : X.f v ≠ none)
    (hm : StMid w' X6 (upd (outs X.ps) u (plus (outs X.ps u) ((i : Int) + 1))) (upd (inns X.ps) v (plus (inns X.ps v) ((i : Int) + 1))))
    (hps : X6.ps = (groE X.ps (i + 1)).set i (((i : Int) + 1, u, v, b), true)) (hf : X6.f = X.f) (hN : X6.N = X.N) : StAt w' X6 := by
  have hat : ∀ j y, X6.ps[j]? = some (y, true) ↔ (j = i ∧ y = ((i : Int) + 1, u, v, b)) ∨ X.ps[j]? = some (y, true) := fun j y => by
    rw [hps]; exact at_put hfree
  have e1 : outs X6.ps = upd (outs X.ps) u (plus (outs X.ps u) ((i : Int) + 1)) := funext fun k => by
    have := nums_put (p := fun x => decide (x.2.1 = k)) hfree hat
    by_cases hk : k = u
    · subst hk
      rw [upd_self]
      exact (this.1 (by simp)).1
    · rw [upd_ne _ _ hk]
      exact this.2 (by simpa using fun e => hk e.symm)
  have e2 : inns X6.ps = upd (inns X.ps) v (plus (inns X.ps v) ((i : Int) + 1)) := funext fun k => by
    have := nums_put (p := fun x => decide (x.2.2.1 = k)) hfree hat
    by_cases hk : k = v
    · subst hk
      rw [upd_self]
      exact (this.1 (by simp)).1
    · rw [upd_ne _ _ hk]
      exact this.2 (by simpa using fun e => hk e.symm)
  rw [← e1, ← e2] at hm
  refine ⟨hm, fun j y hy => ?_, by rw [hN]; exact h.size⟩
  rw [hf]
  rcases (hat j y).1 hy with ⟨rfl, rfl⟩ | hy
  · exact ⟨rfl, hu, hv⟩
  · exact h.edge j y hy

set_option maxHeartbeats 4000000 in
set_option maxRecDepth 100000 in
theorem insertS (i : Nat) (u v b : Int) (h : StAt w X) (hi : i < 1024) (hfree : ∀ a, X.ps[i]? ≠ some (a, true)) (hu : X.f u ≠ none) (hv : X.f v ≠ none) (hn : X.n ≤ 900000000) (hw0 : 0 ≤ X.wr) (hw1 : X.wr ≤ 1000000000) :
    Calls Tryz.prog 76 #[.pointer (some ⟨X.s, 0, none⟩), .agg #[.int .i64 ((i : Int) + 1), .int .i64 u, .int .i64 v, .int .u32 b]] w fun e w' => e = .returned (.bool true) ∧ Hid (∃ X', Insd w X i ((i : Int) + 1, u, v, b) w' X') := by
  obtain ⟨q1, e1⟩ : ∃ q, X.f u = some q := by cases hh : X.f u with | none => exact absurd hh hu | some q => exact ⟨q, rfl⟩
  obtain ⟨q2, e2⟩ : ∃ q, X.f v = some q := by cases hh : X.f v with | none => exact absurd hh hv | some q => exact ⟨q, rfl⟩
  have hb0 : Below w.heap.size w (w.alloc (oE ((i : Int) + 1, u, v, b))) := (Below.refl _ _).alloc (Nat.le_refl _) _
  have H0 := h.mem.below hb0
  have ku := h.ok e1
  have kv := h.ok e2
  obtain ⟨c0, -, -, -, -⟩ := H0.cells
  obtain ⟨x0, x1, x2, x3, -⟩ := box_cells (heap_alloc_new w (oE ((i : Int) + 1, u, v, b)))
  dsimp only at x0 x1 x2 x3
  have lo1 : (outs X.ps u).length ≤ 1000000 := Nat.le_trans (length_numsOf _ _) (by have := h.tab.len; omega)
  have li1 : (inns X.ps v).length ≤ 1000000 := Nat.le_trans (length_numsOf _ _) (by have := h.tab.len; omega)
  have hbb : w.heap.size < (w.alloc (oE ((i : Int) + 1, u, v, b))).heap.size := by simp
  have hLb : X.L w.heap.size = none := by
    cases e : X.L w.heap.size with
    | none => rfl
    | some l => have := h.mem.lt w.heap.size (by rw [e]; simp); omega
  have hbx : (w.alloc (oE ((i : Int) + 1, u, v, b))).heap[w.heap.size]? = some (oE ((i : Int) + 1, u, v, b)) := heap_alloc_new _ _
  /- the table -/
  have CP : Hid (∀ W, Like (w.alloc (oE ((i : Int) + 1, u, v, b))) W → Calls Tryz.prog 103 #[.pointer (some ⟨X.t, 0, none⟩), .int .i64 ((i : Int) + 1), .agg #[.int .i64 ((i : Int) + 1), .int .i64 u, .int .i64 v, .int .u32 b]] W fun e w2 => e = .returned (.bool true) ∧ (w2.cell? ⟨X.s, 0, none⟩ = some (.pointer (some ⟨X.t, 0, none⟩)) ∧ w2.cell? ⟨w.heap.size, 0, none⟩ = some (.int .i64 ((i : Int) + 1)) ∧ w2.cell? ⟨w.heap.size, 1, none⟩ = some (.int .i64 u) ∧ w2.cell? ⟨w.heap.size, 2, none⟩ = some (.int .i64 v) ∧ w2.cell? ⟨w.heap.size, 3, none⟩ = some (.int .u32 b)) ∧ Hid (∃ v' ms' n' G' L', n' ≤ X.n + 65536 ∧ StMid w2 { X with v := v', ms := ms', n := n', G := G', ps := (groE X.ps (i + 1)).set i (((i : Int) + 1, u, v, b), true), L := L' } (outs X.ps) (inns X.ps) ∧ Foots w X.L w2 L' ∧ w2.heap[w.heap.size]? = some (oE ((i : Int) + 1, u, v, b)) ∧ L' w.heap.size = none)) := fun W hl => by
    refine (putAtYesE i ((i : Int) + 1, u, v, b) W (H0.like hl).tab (by omega) hfree (by omega)).mono ?_
    rintro e w2 ⟨rfl, h2⟩
    obtain ⟨v', ms', n', G', L', g1, g2, g3⟩ := (H0.like hl).tabTurn (unhide h2)
    have g4 := (Foots.below X.L hb0).trans (foots_like hl g3)
    obtain ⟨g5, g6⟩ := (foots_like hl g3).old hbb hLb
    obtain ⟨y0, y1, y2, y3, -⟩ := box_cells (g5.trans hbx)
    exact ⟨rfl, ⟨g2.cells.1, y0, y1, y2, y3⟩, v', ms', n', G', L', g1, g2, g4, g5.trans hbx, g6⟩
  have HX := hide (And.intro h (And.intro hfree (And.intro hu (And.intro hv (And.intro hw0 hw1)))))
  have HQ : Hid (X.f u = some q1 ∧ X.f v = some q2 ∧ okN u ∧ okN v ∧ (outs X.ps u).length ≤ 1000000 ∧ (inns X.ps v).length ≤ 1000000) := ⟨e1, e2, ku, kv, lo1, li1⟩
  clear hfree hu hv hn hw0 hw1 h H0 e1 e2 ku kv lo1 li1 hbb hLb hbx hb0 hi
  go_enter Tryz.func76, Tryz.ntmps76
  go_upto_region 1 with fail
  change Code.wp _ _ _ _ (w.alloc (oE ((i : Int) + 1, u, v, b)))
  generalize w.alloc (oE ((i : Int) + 1, u, v, b)) = wb at *
  generalize hbb : w.heap.size = bb at *
  go_region_held3 (fun y => y.cell? ⟨X.s, 0, none⟩ = some (.pointer (some ⟨X.t, 0, none⟩)) ∧ y.cell? ⟨bb, 0, none⟩ = some (.int .i64 ((i : Int) + 1)) ∧ y.cell? ⟨bb, 1, none⟩ = some (.int .i64 u) ∧ y.cell? ⟨bb, 2, none⟩ = some (.int .i64 v) ∧ y.cell? ⟨bb, 3, none⟩ = some (.int .u32 b)) (first | exact ⟨dd0, dd1, dd2, dd3, dd4⟩ | exact ⟨c0, x0, x1, x2, x3⟩ | (go_keep; done)) ((go_at_call 103; refine (unhide CP _ (by exact ⟨rfl, rfl, rfl, rfl⟩)).mono ?_; rintro e w2 ⟨rfl, ⟨dd0, dd1, dd2, dd3, dd4⟩, h2⟩))
  clear CP c0 x0 x1 x2 x3
  obtain ⟨v', ms', n', G', L', g1, g2, g4, g5, g6⟩ := unhide h2
  obtain ⟨e1, e2, ku, kv, lo1, li1⟩ := unhide HQ
  obtain ⟨X1, hX1⟩ : ∃ X1 : Sto, X1 = { X with v := v', ms := ms', n := n', G := G', ps := (groE X.ps (i + 1)).set i (((i : Int) + 1, u, v, b), true), L := L' } := ⟨_, rfl⟩
  rw [← hX1] at g2
  have f1 : X1.f = X.f ∧ X1.s = X.s ∧ X1.m = X.m ∧ X1.ro = X.ro ∧ X1.ri = X.ri ∧ X1.wr = X.wr ∧ X1.L = L' := by rw [hX1]; exact ⟨rfl, rfl, rfl, rfl, rfl, rfl, rfl⟩
  obtain ⟨m1, hm1⟩ : ∃ m1, m1 = X.m := ⟨_, rfl⟩
  have k1 : w2.cell? ⟨X.s, 1, none⟩ = some (.map (some m1)) := by have := g2.cells.2.1; rwa [f1.2.1, f1.2.2.1, ← hm1] at this
  have hlu : (Instr.lookup 79 (.map (some m1)) (.int .i64 u) false).run Tryz.prog w2.drew = .ok (.pointer (some ⟨q1, 0, none⟩)) w2.drew := by
    have := (g2.draw 1).look u ku; rw [f1.1, f1.2.2.1, e1, ← hm1] at this; exact this
  have hlv : (Instr.lookup 79 (.map (some m1)) (.int .i64 v) false).run Tryz.prog w2.drew = .ok (.pointer (some ⟨q2, 0, none⟩)) w2.drew := by
    have := (g2.draw 1).look v kv; rw [f1.1, f1.2.2.1, e2, ← hm1] at this; exact this
  /- the row of what leaves u -/
  have hb2 := (Array.getElem?_eq_some_iff.1 g5).1
  have CW : Hid (∀ W, Like w2 W → Calls Tryz.prog 104 #[X.ro u, .int .i64 ((i : Int) + 1)] W fun r w3 => ∃ a3 n3 c3, r = .returned (.slice a3 n3 c3) ∧ (w3.cell? ⟨q1, 0, none⟩ = some (X.ro u) ∧ w3.cell? ⟨bb, 0, none⟩ = some (.int .i64 ((i : Int) + 1))) ∧ (∀ o, w3.frozen? ⟨q1, o, none⟩ = false) ∧ Hid (StMid (w3.setCell ⟨q1, 0, none⟩ (.slice a3 n3 c3)) (X1.outs u (.slice a3 n3 c3)) (upd (outs X.ps) u (plus (outs X.ps u) ((i : Int) + 1))) (inns X.ps) ∧ Foots w X.L (w3.setCell ⟨q1, 0, none⟩ (.slice a3 n3 c3)) (X1.outs u (.slice a3 n3 c3)).L ∧ (w3.setCell ⟨q1, 0, none⟩ (.slice a3 n3 c3)).heap[bb]? = some (oE ((i : Int) + 1, u, v, b)) ∧ (X1.outs u (.slice a3 n3 c3)).L bb = none)) := fun W hl => by
    have := (g2.like hl).withOut (k := u) (e := (i : Int) + 1) (q := q1) (by rw [f1.1]; exact e1) lo1 (rising_numsOf _ _)
    rw [f1.2.2.2.1] at this
    refine this.mono ?_
    rintro r w3 ⟨a3, n3, c3, rfl, z1, z2, z3, hZ⟩
    obtain ⟨z4, z5⟩ := unhide hZ
    have z6 := foots_like hl z5
    rw [f1.2.2.2.2.2.2] at z6
    obtain ⟨z7, z8⟩ := z6.old hb2 g6
    have z9 := z3 bb (by rw [hl.1]; exact hb2) (by rw [f1.2.2.2.2.2.2]; exact g6)
    exact ⟨a3, n3, c3, rfl, ⟨z1, (box_cells (z9.trans (by rw [hl.1]; exact g5))).1⟩, z2, z4, g4.trans z6, z7.trans g5, z8⟩
  have d0 : w2.cell? ⟨q1, 0, none⟩ = some (X.ro u) := by have := (g2.ends (k := u) (q := q1) (by rw [f1.1]; exact e1)).1; rwa [f1.2.2.2.1] at this
  obtain ⟨_, _, hro, -⟩ := brow_shape (g2.out u q1 (by rw [f1.1]; exact e1))
  rw [f1.2.2.2.1] at hro
  have HG1 : Hid (n' ≤ X.n + 65536 ∧ X1 = { X with v := v', ms := ms', n := n', G := G', ps := (groE X.ps (i + 1)).set i (((i : Int) + 1, u, v, b), true), L := L' }) := ⟨g1, hX1⟩
  clear h2 g1 g2 g4 g5 g6 e1 e2 ku kv lo1 li1 hm1 hX1 f1 hb2
  obtain ⟨ra, rn, rc, hrv⟩ : ∃ ra rn rc, X.ro u = .slice ra rn rc := ⟨_, _, _, hro⟩
  rw [hrv] at CW d0
  go_upto_region 3 with fail
  refine wp_region_noPanic ?_
  refine regionL [] (fun y => y.cell? ⟨X.s, 1, none⟩ = some (.map (some m1)) ∧ y.cell? ⟨bb, 1, none⟩ = some (.int .i64 u) ∧ y.cell? ⟨bb, 2, none⟩ = some (.int .i64 v) ∧ (Instr.lookup 79 (.map (some m1)) (.int .i64 u) false).run Tryz.prog y = .ok (.pointer (some ⟨q1, 0, none⟩)) y ∧ (Instr.lookup 79 (.map (some m1)) (.int .i64 v) false).run Tryz.prog y = .ok (.pointer (some ⟨q2, 0, none⟩)) y) (by kernel_rfl) ⟨k1, dd2, dd3, hlu, hlv⟩ (fun hHeld => ?_)
  refine takeN 0 16 rfl ?_
  (try simp only [sl])
  refine takeN 1 17 rfl ?_
  (try simp only [sl])
  refine takeN 2 18 rfl ?_
  (try simp only [sl])
  refine takeN 3 19 rfl ?_
  (try simp only [sl])
  refine takeN 4 20 rfl ?_
  (try simp only [sl])
  refine takeN 5 21 rfl ?_
  (try simp only [sl])
  refine takeN 6 22 rfl ?_
  (try simp only [sl])
  refine takeN 7 23 rfl ?_
  (try simp only [sl])
  refine takeN 8 24 rfl ?_
  (try simp only [sl])
  refine takeN 9 25 rfl ?_
  (try simp only [sl])
  refine takeN 10 26 rfl ?_
  (try simp only [sl])
  refine takeN 11 27 rfl ?_
  (try simp only [sl])
  refine takeN 12 28 rfl ?_
  (try simp only [sl])
  refine takeN 13 29 rfl ?_
  (try simp only [sl])
  refine takeN 14 5 rfl ?_
  (try simp only [sl])
  refine takeN 15 6 rfl ?_
  (try simp only [sl])
  refine doneL (by kernel_rfl) ?_ _
  refine NoPanic.normal ?_
  clear hlu hlv k1 hHeld dd0 dd2 dd3 dd4
  all_goals
    go_upto_region 4 with fail
    refine wp_region_noPanic ?_
    refine regionL [10] (fun y => y.cell? ⟨q1, 0, none⟩ = some (.slice ra rn rc) ∧ y.cell? ⟨bb, 0, none⟩ = some (.int .i64 ((i : Int) + 1))) (by kernel_rfl) ⟨d0, dd1⟩ (fun hHeld => ?_)
    refine takeN 0 30 rfl ?_
    (try simp only [sl])
    refine takeN 1 31 rfl ?_
    (try simp only [sl])
    refine takeN 2 32 rfl ?_
    (try simp only [sl])
    refine takeN 3 33 rfl ?_
    (try simp only [sl])
    refine takeN 4 34 rfl ?_
    (try simp only [sl])
    refine takeN 5 35 rfl ?_
    (try simp only [sl])
    refine takeN 6 36 rfl ?_
    (try simp only [sl])
    refine readyL (i := 7) (by kernel_rfl) rfl (fun K hK => ?_)
    go_simp
    refine (unhide CW _ (by exact ⟨rfl, rfl, rfl, rfl⟩)).mono ?_
    rintro e w3 ⟨a3, n3, c3, rfl, ⟨ee0, ee1⟩, ef, hZ⟩
    (try dsimp only)
    refine hK.out _ _ (fun _ => (And.intro ee0 ee1)) ?_
    clear hK K
    (try simp only [sl])
    have hH7 := (And.intro ee0 ee1)
    refine takeN 8 38 rfl ?_
    (try simp only [sl])
    refine takeN 9 39 rfl ?_
    (try simp only [sl])
    refine readyL (i := 10) (by kernel_rfl) rfl (fun K hK => ?_)
    go_simp
    refine hK.out _ _ (fun h => by cases h) ?_
    clear hK K
    (try simp only [sl])
    refine doneL (by kernel_rfl) ?_ _
    refine NoPanic.normal ?_
    clear CW d0 dd1
    obtain ⟨y1, y2, y3, y4⟩ := unhide hZ
    obtain ⟨X2, hX2⟩ : ∃ X2, X2 = X1.outs u (.slice a3 n3 c3) := ⟨_, rfl⟩
    rw [← hX2] at y1 y2 y4
    clear hZ ee0 ee1 ef hHeld
    generalize w3.setCell ⟨q1, 0, none⟩ (.slice a3 n3 c3) = w4 at *
    have f2 : X2.f = X.f ∧ X2.s = X.s ∧ X2.ri = X.ri ∧ X2.wr = X.wr := by rw [hX2]; have := (unhide HG1).2; rw [this]; exact ⟨rfl, rfl, rfl, rfl⟩
    obtain ⟨e1, e2, ku, kv, lo1, li1⟩ := unhide HQ
    have hb4 := (Array.getElem?_eq_some_iff.1 y3).1
    have CW : Hid (∀ W, Like w4 W → Calls Tryz.prog 104 #[X.ri v, .int .i64 ((i : Int) + 1)] W fun r w5 => ∃ a5 n5 c5, r = .returned (.slice a5 n5 c5) ∧ (w5.cell? ⟨q2, 1, none⟩ = some (X.ri v) ∧ w5.cell? ⟨bb, 0, none⟩ = some (.int .i64 ((i : Int) + 1))) ∧ (∀ o, w5.frozen? ⟨q2, o, none⟩ = false) ∧ Hid (StMid (w5.setCell ⟨q2, 1, none⟩ (.slice a5 n5 c5)) (X2.inns v (.slice a5 n5 c5)) (upd (outs X.ps) u (plus (outs X.ps u) ((i : Int) + 1))) (upd (inns X.ps) v (plus (inns X.ps v) ((i : Int) + 1))) ∧ Foots w X.L (w5.setCell ⟨q2, 1, none⟩ (.slice a5 n5 c5)) (X2.inns v (.slice a5 n5 c5)).L)) := fun W hl => by
      have := (y1.like hl).withInn (k := v) (e := (i : Int) + 1) (q := q2) (by rw [f2.1]; exact e2) li1 (rising_numsOf _ _)
      rw [f2.2.2.1] at this
      refine this.mono ?_
      rintro r w5 ⟨a5, n5, c5, rfl, z1, z2, z3, hZ⟩
      obtain ⟨z4, z5⟩ := unhide hZ
      have z6 := foots_like hl z5
      have z9 := z3 bb (by rw [hl.1]; exact hb4) y4
      exact ⟨a5, n5, c5, rfl, ⟨z1, (box_cells (z9.trans (by rw [hl.1]; exact y3))).1⟩, z2, z4, y2.trans z6⟩
    have d1 : w4.cell? ⟨q2, 1, none⟩ = some (X.ri v) := by have := (y1.ends (k := v) (q := q2) (by rw [f2.1]; exact e2)).2.1; rwa [f2.2.2.1] at this
    have dd1 : w4.cell? ⟨bb, 0, none⟩ = some (.int .i64 ((i : Int) + 1)) := (box_cells y3).1
    obtain ⟨_, _, hri, -⟩ := brow_shape (y1.inn v q2 (by rw [f2.1]; exact e2))
    rw [f2.2.2.1] at hri
    have HG2 : Hid (X2.f = X.f ∧ X2.s = X.s ∧ X2.ri = X.ri ∧ X2.wr = X.wr) := f2
    have HX2 := hide hX2
    clear y1 y2 y3 y4 e1 e2 ku kv lo1 li1 f2 hb4 hX2
    obtain ⟨sa, sn, sc, hrw⟩ : ∃ sa sn sc, X.ri v = .slice sa sn sc := ⟨_, _, _, hri⟩
    rw [hrw] at CW d1
    go_upto_region 5 with fail
    refine wp_region_noPanic ?_
    refine regionL [10] (fun y => y.cell? ⟨q2, 1, none⟩ = some (.slice sa sn sc) ∧ y.cell? ⟨bb, 0, none⟩ = some (.int .i64 ((i : Int) + 1))) (by kernel_rfl) ⟨d1, dd1⟩ (fun hHeld => ?_)
    refine takeN 0 40 rfl ?_
    (try simp only [sl])
    refine takeN 1 41 rfl ?_
    (try simp only [sl])
    refine takeN 2 42 rfl ?_
    (try simp only [sl])
    refine takeN 3 43 rfl ?_
    (try simp only [sl])
    refine takeN 4 44 rfl ?_
    (try simp only [sl])
    refine takeN 5 45 rfl ?_
    (try simp only [sl])
    refine takeN 6 46 rfl ?_
    (try simp only [sl])
    refine readyL (i := 7) (by kernel_rfl) rfl (fun K hK => ?_)
    go_simp
    refine (unhide CW _ (by exact ⟨rfl, rfl, rfl, rfl⟩)).mono ?_
    rintro e w5 ⟨a5, n5, c5, rfl, ⟨ee0, ee1⟩, ef, hZ⟩
    (try dsimp only)
    refine hK.out _ _ (fun _ => (And.intro ee0 ee1)) ?_
    clear hK K
    (try simp only [sl])
    have hH15 := (And.intro ee0 ee1)
    refine takeN 8 48 rfl ?_
    (try simp only [sl])
    refine takeN 9 49 rfl ?_
    (try simp only [sl])
    refine readyL (i := 10) (by kernel_rfl) rfl (fun K hK => ?_)
    go_simp
    refine hK.out _ _ (fun h => by cases h) ?_
    clear hK K
    (try simp only [sl])
    refine doneL (by kernel_rfl) ?_ _
    refine NoPanic.normal ?_
    clear CW d1 dd1
    obtain ⟨y1, y2⟩ := unhide hZ
    obtain ⟨X3, hX3⟩ : ∃ X3, X3 = X2.inns v (.slice a5 n5 c5) := ⟨_, rfl⟩
    rw [← hX3] at y1 y2
    clear hZ ee0 ee1 ef hHeld
    generalize w5.setCell ⟨q2, 1, none⟩ (.slice a5 n5 c5) = w6 at *
    have f3 : X3.f = X.f ∧ X3.s = X.s ∧ X3.N = X.N ∧ X3.rd = X.rd ∧ X3.wr = X.wr ∧ X3.n = n' ∧ X3.ps = (groE X.ps (i + 1)).set i (((i : Int) + 1, u, v, b), true) := by
      rw [hX3, unhide HX2, (unhide HG1).2]; exact ⟨rfl, rfl, rfl, rfl, rfl, rfl, rfl⟩
    obtain ⟨-, -, -, k3, kf⟩ := y1.cells
    rw [f3.2.1] at k3 kf
    rw [f3.2.2.2.2.1] at k3
    obtain ⟨h, hfree, hu, hv, hw0, hw1⟩ := unhide HX
    have hwr : IntKind.i64.wrap (X.wr + 1) = X.wr + 1 := by rw [IntKind.wrap_i64]; omega
    have HF : Hid (∃ X', Insd w X i ((i : Int) + 1, u, v, b) (w6.setCell ⟨X.s, 3, none⟩ (.int .i64 (X.wr + 1))) X') := by
      obtain ⟨z1, z2⟩ := y1.wrTurn (X.wr + 1)
      rw [← f3.2.1]
      refine ⟨{ X3 with wr := X.wr + 1 }, ⟨insd_end h hfree hu hv z1 f3.2.2.2.2.2.2 f3.1 f3.2.2.1, f3.2.1, y2.trans z2⟩, f3.2.2.2.2.2.2, f3.1, f3.2.2.1, f3.2.2.2.1, rfl, ?_⟩
      show X3.n ≤ _
      rw [f3.2.2.2.2.2.1]; exact (unhide HG1).1
    generalize X.wr = wr at *
    generalize X.s = s at *
    clear y1 y2 f3 h hfree hu hv hw0 hw1 hX3 HG1 HG2 HX2 HQ hrv hrw
    go_wp2_with fail
    go_ret
    exact ⟨rfl, unhide HF⟩
end
end Go.Proofs.YtagibmgbjhemkaaGreat
