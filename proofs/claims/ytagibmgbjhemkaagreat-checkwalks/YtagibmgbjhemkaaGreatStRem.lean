/- remove and DropEdge: an edge goes. -/
import Derived.Test.YtagibmgbjhemkaaGreatTail
namespace Go.Proofs.YtagibmgbjhemkaaGreat

section
open Go.RowKit Go.Maps
section
variable [Inhabited EntI] {w w' : World} {X : Sto} {lo li : Int → List Int}
set_option maxHeartbeats 1000000 in
set_option maxRecDepth 100000 in
theorem insertNoS (x : EdgeV) (h : StAt w X) (hno : x.1 < 1 ∨ 1024 < x.1 ∨ ∃ (i : Nat) (a : EdgeV), x.1 = (i : Int) + 1 ∧ X.ps[i]? = some (a, true)) :
    Calls Tryz.prog 76 #[.pointer (some ⟨X.s, 0, none⟩), .agg #[.int .i64 x.1, .int .i64 x.2.1, .int .i64 x.2.2.1, .int .u32 x.2.2.2]] w fun e w' => e = .returned (.bool false) ∧ Below w.heap.size w w' := by
  have hb0 : Below w.heap.size w (w.alloc (oE x)) := (Below.refl _ _).alloc (Nat.le_refl _) _; have H0 := h.mem.below hb0; obtain ⟨c0, -, -, -, -⟩ := H0.cells; obtain ⟨x0, x1, x2, x3, -⟩ := box_cells (heap_alloc_new w (oE x)); have CP : Hid (∀ W, Like (w.alloc (oE x)) W → Calls Tryz.prog 103 #[.pointer (some ⟨X.t, 0, none⟩), .int .i64 x.1, .agg #[.int .i64 x.1, .int .i64 x.2.1, .int .i64 x.2.2.1, .int .u32 x.2.2.2]] W fun e w' => e = .returned (.bool false) ∧ (w'.cell? ⟨X.s, 0, none⟩ = some (.pointer (some ⟨X.t, 0, none⟩)) ∧ w'.cell? ⟨w.heap.size, 0, none⟩ = some (.int .i64 x.1) ∧ w'.cell? ⟨w.heap.size, 1, none⟩ = some (.int .i64 x.2.1) ∧ w'.cell? ⟨w.heap.size, 2, none⟩ = some (.int .i64 x.2.2.1) ∧ w'.cell? ⟨w.heap.size, 3, none⟩ = some (.int .u32 x.2.2.2)) ∧ Below w.heap.size w w') := fun W hl => by
    refine (putAtNoE x.1 x W (H0.like hl).tab hno).mono ?_
    rintro e w' ⟨rfl, g⟩
    have gb := (hl.below (w.alloc (oE x)).heap.size).trans (g.mono (by rw [hl.1]; exact Nat.le_refl _))
    obtain ⟨y0, y1, y2, y3, -⟩ := box_cells ((gb.block w.heap.size (by simp)).trans (heap_alloc_new w (oE x)))
    exact ⟨rfl, ⟨(H0.below gb).cells.1, y0, y1, y2, y3⟩, (hb0.trans (hl.below _)).trans (g.mono (by rw [hl.1]; exact hb0.size))⟩
  generalize X.s = s at *; generalize X.t = t at *; clear h hno H0 hb0
  go_enter Tryz.func76, Tryz.ntmps76
  go_upto_region 1 with fail
  change Code.wp _ _ _ _ (w.alloc (oE x)); generalize w.alloc (oE x) = wb at *; generalize hbb : w.heap.size = bb at *
  go_region_held3 (fun y => y.cell? ⟨s, 0, none⟩ = some (.pointer (some ⟨t, 0, none⟩)) ∧ y.cell? ⟨bb, 0, none⟩ = some (.int .i64 x.1) ∧ y.cell? ⟨bb, 1, none⟩ = some (.int .i64 x.2.1) ∧ y.cell? ⟨bb, 2, none⟩ = some (.int .i64 x.2.2.1) ∧ y.cell? ⟨bb, 3, none⟩ = some (.int .u32 x.2.2.2)) (first | exact ⟨dd0, dd1, dd2, dd3, dd4⟩ | exact ⟨c0, x0, x1, x2, x3⟩ | (go_keep; done)) ((go_at_call 103; refine (unhide CP _ (by exact ⟨rfl, rfl, rfl, rfl⟩)).mono ?_; rintro e w2 ⟨rfl, ⟨dd0, dd1, dd2, dd3, dd4⟩, h2⟩))
  all_goals
    go_wp2_with fail
    go_ret
    exact ⟨rfl, by rw [hbb]; exact h2⟩
def Insd (w : World) (X : Sto) (i : Nat) (x : EdgeV) (w' : World) (X' : Sto) : Prop :=
  Step w X w' X' ∧ X'.ps = (groE X.ps (i + 1)).set i (x, true) ∧ X'.f = X.f ∧ X'.N = X.N ∧ X'.rd = X.rd ∧ X'.wr = X.wr + 1 ∧ X'.n ≤ X.n + 65536
theorem insd_end {X6 : Sto} {i : Nat} {u v b : Int} (h : StAt w X) (hfree : ∀ a, X.ps[i]? ≠ some (a, true)) (hu : X.f u ≠ none) (hv : X.f v ≠ none)
    (hm : StMid w' X6 (upd (outs X.ps) u (plus (outs X.ps u) ((i : Int) + 1))) (upd (inns X.ps) v (plus (inns X.ps v) ((i : Int) + 1))))
    (hps : X6.ps = (groE X.ps (i + 1)).set i (((i : Int) + 1, u, v, b), true)) (hf : X6.f = X.f) (hN : X6.N = X.N) : StAt w' X6 := by
  have hat : ∀ j y, X6.ps[j]? = some (y, true) ↔ (j = i ∧ y = ((i : Int) + 1, u, v, b)) ∨ X.ps[j]? = some (y, true) := fun j y => by
    rw [hps]; exact at_put hfree
  have e1 : outs X6.ps = upd (outs X.ps) u (plus (outs X.ps u) ((i : Int) + 1)) := funext fun k => by
    have := nums_put (p := fun x => decide (x.2.1 = k)) hfree hat
    by_cases hk : k = u
    · subst hk; rw [upd_self]; exact (this.1 (by simp)).1
    · rw [upd_ne _ _ hk]; exact this.2 (by simpa using fun e => hk e.symm)
  have e2 : inns X6.ps = upd (inns X.ps) v (plus (inns X.ps v) ((i : Int) + 1)) := funext fun k => by
    have := nums_put (p := fun x => decide (x.2.2.1 = k)) hfree hat
    by_cases hk : k = v
    · subst hk; rw [upd_self]; exact (this.1 (by simp)).1
    · rw [upd_ne _ _ hk]; exact this.2 (by simpa using fun e => hk e.symm)
  rw [← e1, ← e2] at hm; refine ⟨hm, fun j y hy => ?_, by rw [hN]; exact h.size⟩
  rw [hf]; rcases (hat j y).1 hy with ⟨rfl, rfl⟩ | hy
  · exact ⟨rfl, hu, hv⟩
  · exact h.edge j y hy
set_option maxHeartbeats 4000000 in
set_option maxRecDepth 100000 in
theorem insertS (i : Nat) (u v b : Int) (h : StAt w X) (hi : i < 1024) (hfree : ∀ a, X.ps[i]? ≠ some (a, true)) (hu : X.f u ≠ none) (hv : X.f v ≠ none) (hn : X.n ≤ 900000000) (hw0 : 0 ≤ X.wr) (hw1 : X.wr ≤ 1000000000) :
    Calls Tryz.prog 76 #[.pointer (some ⟨X.s, 0, none⟩), .agg #[.int .i64 ((i : Int) + 1), .int .i64 u, .int .i64 v, .int .u32 b]] w fun e w' => e = .returned (.bool true) ∧ Hid (∃ X', Insd w X i ((i : Int) + 1, u, v, b) w' X') := by
  obtain ⟨q1, e1⟩ : ∃ q, X.f u = some q := by cases hh : X.f u with | none => exact absurd hh hu | some q => exact ⟨q, rfl⟩
  obtain ⟨q2, e2⟩ : ∃ q, X.f v = some q := by cases hh : X.f v with | none => exact absurd hh hv | some q => exact ⟨q, rfl⟩
  have hb0 : Below w.heap.size w (w.alloc (oE ((i : Int) + 1, u, v, b))) := (Below.refl _ _).alloc (Nat.le_refl _) _; have H0 := h.mem.below hb0; have ku := h.ok e1; have kv := h.ok e2; obtain ⟨c0, -, -, -, -⟩ := H0.cells; obtain ⟨x0, x1, x2, x3, -⟩ := box_cells (heap_alloc_new w (oE ((i : Int) + 1, u, v, b))); dsimp only at x0 x1 x2 x3; have lo1 : (outs X.ps u).length ≤ 1000000 := Nat.le_trans (length_numsOf _ _) (by have := h.tab.len; omega)
  have li1 : (inns X.ps v).length ≤ 1000000 := Nat.le_trans (length_numsOf _ _) (by have := h.tab.len; omega)
  have hbb : w.heap.size < (w.alloc (oE ((i : Int) + 1, u, v, b))).heap.size := by simp
  have hLb : X.L w.heap.size = none := by
    cases e : X.L w.heap.size with
    | none => rfl
    | some l => have := h.mem.lt w.heap.size (by rw [e]; simp); omega
  have hbx : (w.alloc (oE ((i : Int) + 1, u, v, b))).heap[w.heap.size]? = some (oE ((i : Int) + 1, u, v, b)) := heap_alloc_new _ _
  /- the table -/
  have CP : Hid (∀ W, Like (w.alloc (oE ((i : Int) + 1, u, v, b))) W → Calls Tryz.prog 103 #[.pointer (some ⟨X.t, 0, none⟩), .int .i64 ((i : Int) + 1), .agg #[.int .i64 ((i : Int) + 1), .int .i64 u, .int .i64 v, .int .u32 b]] W fun e w2 => e = .returned (.bool true) ∧ (w2.cell? ⟨X.s, 0, none⟩ = some (.pointer (some ⟨X.t, 0, none⟩)) ∧ w2.cell? ⟨w.heap.size, 0, none⟩ = some (.int .i64 ((i : Int) + 1)) ∧ w2.cell? ⟨w.heap.size, 1, none⟩ = some (.int .i64 u) ∧ w2.cell? ⟨w.heap.size, 2, none⟩ = some (.int .i64 v) ∧ w2.cell? ⟨w.heap.size, 3, none⟩ = some (.int .u32 b)) ∧ Hid (∃ v' ms' n' G' L', n' ≤ X.n + 65536 ∧ StMid w2 { X with v := v', ms := ms', n := n', G := G', ps := (groE X.ps (i + 1)).set i (((i : Int) + 1, u, v, b), true), L := L' } (outs X.ps) (inns X.ps) ∧ Foots w X.L w2 L' ∧ w2.heap[w.heap.size]? = some (oE ((i : Int) + 1, u, v, b)) ∧ L' w.heap.size = none)) := fun W hl => by
    refine (putAtYesE i ((i : Int) + 1, u, v, b) W (H0.like hl).tab (by omega) hfree (by omega)).mono ?_
    rintro e w2 ⟨rfl, h2⟩
    obtain ⟨v', ms', n', G', L', g1, g2, g3⟩ := (H0.like hl).tabTurn (unhide h2); have g4 := (Foots.below X.L hb0).trans (foots_like hl g3); obtain ⟨g5, g6⟩ := (foots_like hl g3).old hbb hLb; obtain ⟨y0, y1, y2, y3, -⟩ := box_cells (g5.trans hbx); exact ⟨rfl, ⟨g2.cells.1, y0, y1, y2, y3⟩, v', ms', n', G', L', g1, g2, g4, g5.trans hbx, g6⟩
  have HX := hide (And.intro h (And.intro hfree (And.intro hu (And.intro hv (And.intro hw0 hw1))))); have HQ : Hid (X.f u = some q1 ∧ X.f v = some q2 ∧ okN u ∧ okN v ∧ (outs X.ps u).length ≤ 1000000 ∧ (inns X.ps v).length ≤ 1000000) := ⟨e1, e2, ku, kv, lo1, li1⟩; clear hfree hu hv hn hw0 hw1 h H0 e1 e2 ku kv lo1 li1 hbb hLb hbx hb0 hi
  go_enter Tryz.func76, Tryz.ntmps76
  go_upto_region 1 with fail
  change Code.wp _ _ _ _ (w.alloc (oE ((i : Int) + 1, u, v, b))); generalize w.alloc (oE ((i : Int) + 1, u, v, b)) = wb at *; generalize hbb : w.heap.size = bb at *
  go_region_held3 (fun y => y.cell? ⟨X.s, 0, none⟩ = some (.pointer (some ⟨X.t, 0, none⟩)) ∧ y.cell? ⟨bb, 0, none⟩ = some (.int .i64 ((i : Int) + 1)) ∧ y.cell? ⟨bb, 1, none⟩ = some (.int .i64 u) ∧ y.cell? ⟨bb, 2, none⟩ = some (.int .i64 v) ∧ y.cell? ⟨bb, 3, none⟩ = some (.int .u32 b)) (first | exact ⟨dd0, dd1, dd2, dd3, dd4⟩ | exact ⟨c0, x0, x1, x2, x3⟩ | (go_keep; done)) ((go_at_call 103; refine (unhide CP _ (by exact ⟨rfl, rfl, rfl, rfl⟩)).mono ?_; rintro e w2 ⟨rfl, ⟨dd0, dd1, dd2, dd3, dd4⟩, h2⟩))
  clear CP c0 x0 x1 x2 x3; obtain ⟨v', ms', n', G', L', g1, g2, g4, g5, g6⟩ := unhide h2; obtain ⟨e1, e2, ku, kv, lo1, li1⟩ := unhide HQ; obtain ⟨X1, hX1⟩ : ∃ X1 : Sto, X1 = { X with v := v', ms := ms', n := n', G := G', ps := (groE X.ps (i + 1)).set i (((i : Int) + 1, u, v, b), true), L := L' } := ⟨_, rfl⟩
  rw [← hX1] at g2; have f1 : X1.f = X.f ∧ X1.s = X.s ∧ X1.m = X.m ∧ X1.ro = X.ro ∧ X1.ri = X.ri ∧ X1.wr = X.wr ∧ X1.L = L' := by rw [hX1]; exact ⟨rfl, rfl, rfl, rfl, rfl, rfl, rfl⟩
  obtain ⟨m1, hm1⟩ : ∃ m1, m1 = X.m := ⟨_, rfl⟩; have k1 : w2.cell? ⟨X.s, 1, none⟩ = some (.map (some m1)) := by have := g2.cells.2.1; rwa [f1.2.1, f1.2.2.1, ← hm1] at this
  have hlu : (Instr.lookup 79 (.map (some m1)) (.int .i64 u) false).run Tryz.prog w2.drew = .ok (.pointer (some ⟨q1, 0, none⟩)) w2.drew := by
    have := (g2.draw 1).look u ku; rw [f1.1, f1.2.2.1, e1, ← hm1] at this; exact this
  have hlv : (Instr.lookup 79 (.map (some m1)) (.int .i64 v) false).run Tryz.prog w2.drew = .ok (.pointer (some ⟨q2, 0, none⟩)) w2.drew := by
    have := (g2.draw 1).look v kv; rw [f1.1, f1.2.2.1, e2, ← hm1] at this; exact this
  /- the row of what leaves u -/
  have hb2 := (Array.getElem?_eq_some_iff.1 g5).1; have CW : Hid (∀ W, Like w2 W → Calls Tryz.prog 104 #[X.ro u, .int .i64 ((i : Int) + 1)] W fun r w3 => ∃ a3 n3 c3, r = .returned (.slice a3 n3 c3) ∧ (w3.cell? ⟨q1, 0, none⟩ = some (X.ro u) ∧ w3.cell? ⟨bb, 0, none⟩ = some (.int .i64 ((i : Int) + 1))) ∧ (∀ o, w3.frozen? ⟨q1, o, none⟩ = false) ∧ Hid (StMid (w3.setCell ⟨q1, 0, none⟩ (.slice a3 n3 c3)) (X1.outs u (.slice a3 n3 c3)) (upd (outs X.ps) u (plus (outs X.ps u) ((i : Int) + 1))) (inns X.ps) ∧ Foots w X.L (w3.setCell ⟨q1, 0, none⟩ (.slice a3 n3 c3)) (X1.outs u (.slice a3 n3 c3)).L ∧ (w3.setCell ⟨q1, 0, none⟩ (.slice a3 n3 c3)).heap[bb]? = some (oE ((i : Int) + 1, u, v, b)) ∧ (X1.outs u (.slice a3 n3 c3)).L bb = none)) := fun W hl => by
    have := (g2.like hl).withOut (k := u) (e := (i : Int) + 1) (q := q1) (by rw [f1.1]; exact e1) lo1 (rising_numsOf _ _)
    rw [f1.2.2.2.1] at this; refine this.mono ?_
    rintro r w3 ⟨a3, n3, c3, rfl, z1, z2, z3, hZ⟩
    obtain ⟨z4, z5⟩ := unhide hZ; have z6 := foots_like hl z5; rw [f1.2.2.2.2.2.2] at z6; obtain ⟨z7, z8⟩ := z6.old hb2 g6; have z9 := z3 bb (by rw [hl.1]; exact hb2) (by rw [f1.2.2.2.2.2.2]; exact g6)
    exact ⟨a3, n3, c3, rfl, ⟨z1, (box_cells (z9.trans (by rw [hl.1]; exact g5))).1⟩, z2, z4, g4.trans z6, z7.trans g5, z8⟩
  have d0 : w2.cell? ⟨q1, 0, none⟩ = some (X.ro u) := by have := (g2.ends (k := u) (q := q1) (by rw [f1.1]; exact e1)).1; rwa [f1.2.2.2.1] at this
  obtain ⟨_, _, hro, -⟩ := brow_shape (g2.out u q1 (by rw [f1.1]; exact e1))
  rw [f1.2.2.2.1] at hro; have HG1 : Hid (n' ≤ X.n + 65536 ∧ X1 = { X with v := v', ms := ms', n := n', G := G', ps := (groE X.ps (i + 1)).set i (((i : Int) + 1, u, v, b), true), L := L' }) := ⟨g1, hX1⟩
  clear h2 g1 g2 g4 g5 g6 e1 e2 ku kv lo1 li1 hm1 hX1 f1 hb2; obtain ⟨ra, rn, rc, hrv⟩ : ∃ ra rn rc, X.ro u = .slice ra rn rc := ⟨_, _, _, hro⟩; rw [hrv] at CW d0
  go_upto_region 3 with fail
  refine wp_region_noPanic ?_; refine regionL [] (fun y => y.cell? ⟨X.s, 1, none⟩ = some (.map (some m1)) ∧ y.cell? ⟨bb, 1, none⟩ = some (.int .i64 u) ∧ y.cell? ⟨bb, 2, none⟩ = some (.int .i64 v) ∧ (Instr.lookup 79 (.map (some m1)) (.int .i64 u) false).run Tryz.prog y = .ok (.pointer (some ⟨q1, 0, none⟩)) y ∧ (Instr.lookup 79 (.map (some m1)) (.int .i64 v) false).run Tryz.prog y = .ok (.pointer (some ⟨q2, 0, none⟩)) y) (by kernel_rfl) ⟨k1, dd2, dd3, hlu, hlv⟩ (fun hHeld => ?_)
  refine takeN 0 16 rfl ?_
  (try simp only [sl])
  refine takeN 1 17 rfl ?_
  (try simp only [sl])
  refine takeN 2 18 rfl ?_
  (try simp only [sl])
  refine takeN 3 19 rfl ?_
  (try simp only [sl])
  refine takeN 4 20 rfl ?_
  (try simp only [sl])
  refine takeN 5 21 rfl ?_
  (try simp only [sl])
  refine takeN 6 22 rfl ?_
  (try simp only [sl])
  refine takeN 7 23 rfl ?_
  (try simp only [sl])
  refine takeN 8 24 rfl ?_
  (try simp only [sl])
  refine takeN 9 25 rfl ?_
  (try simp only [sl])
  refine takeN 10 26 rfl ?_
  (try simp only [sl])
  refine takeN 11 27 rfl ?_
  (try simp only [sl])
  refine takeN 12 28 rfl ?_
  (try simp only [sl])
  refine takeN 13 29 rfl ?_
  (try simp only [sl])
  refine takeN 14 5 rfl ?_
  (try simp only [sl])
  refine takeN 15 6 rfl ?_
  (try simp only [sl])
  refine doneL (by kernel_rfl) ?_ _
  refine NoPanic.normal ?_; clear hlu hlv k1 hHeld dd0 dd2 dd3 dd4
  all_goals
    go_upto_region 4 with fail
    refine wp_region_noPanic ?_; refine regionL [10] (fun y => y.cell? ⟨q1, 0, none⟩ = some (.slice ra rn rc) ∧ y.cell? ⟨bb, 0, none⟩ = some (.int .i64 ((i : Int) + 1))) (by kernel_rfl) ⟨d0, dd1⟩ (fun hHeld => ?_)
    refine takeN 0 30 rfl ?_
    (try simp only [sl])
    refine takeN 1 31 rfl ?_
    (try simp only [sl])
    refine takeN 2 32 rfl ?_
    (try simp only [sl])
    refine takeN 3 33 rfl ?_
    (try simp only [sl])
    refine takeN 4 34 rfl ?_
    (try simp only [sl])
    refine takeN 5 35 rfl ?_
    (try simp only [sl])
    refine takeN 6 36 rfl ?_
    (try simp only [sl])
    refine readyL (i := 7) (by kernel_rfl) rfl (fun K hK => ?_)
    go_simp
    refine (unhide CW _ (by exact ⟨rfl, rfl, rfl, rfl⟩)).mono ?_
    rintro e w3 ⟨a3, n3, c3, rfl, ⟨ee0, ee1⟩, ef, hZ⟩
    (try dsimp only)
    refine hK.out _ _ (fun _ => (And.intro ee0 ee1)) ?_
    clear hK K
    (try simp only [sl])
    have hH7 := (And.intro ee0 ee1); refine takeN 8 38 rfl ?_
    (try simp only [sl])
    refine takeN 9 39 rfl ?_
    (try simp only [sl])
    refine readyL (i := 10) (by kernel_rfl) rfl (fun K hK => ?_)
    go_simp
    refine hK.out _ _ (fun h => by cases h) ?_
    clear hK K
    (try simp only [sl])
    refine doneL (by kernel_rfl) ?_ _
    refine NoPanic.normal ?_; clear CW d0 dd1; obtain ⟨y1, y2, y3, y4⟩ := unhide hZ; obtain ⟨X2, hX2⟩ : ∃ X2, X2 = X1.outs u (.slice a3 n3 c3) := ⟨_, rfl⟩; rw [← hX2] at y1 y2 y4; clear hZ ee0 ee1 ef hHeld; generalize w3.setCell ⟨q1, 0, none⟩ (.slice a3 n3 c3) = w4 at *; have f2 : X2.f = X.f ∧ X2.s = X.s ∧ X2.ri = X.ri ∧ X2.wr = X.wr := by rw [hX2]; have := (unhide HG1).2; rw [this]; exact ⟨rfl, rfl, rfl, rfl⟩
    obtain ⟨e1, e2, ku, kv, lo1, li1⟩ := unhide HQ; have hb4 := (Array.getElem?_eq_some_iff.1 y3).1; have CW : Hid (∀ W, Like w4 W → Calls Tryz.prog 104 #[X.ri v, .int .i64 ((i : Int) + 1)] W fun r w5 => ∃ a5 n5 c5, r = .returned (.slice a5 n5 c5) ∧ (w5.cell? ⟨q2, 1, none⟩ = some (X.ri v) ∧ w5.cell? ⟨bb, 0, none⟩ = some (.int .i64 ((i : Int) + 1))) ∧ (∀ o, w5.frozen? ⟨q2, o, none⟩ = false) ∧ Hid (StMid (w5.setCell ⟨q2, 1, none⟩ (.slice a5 n5 c5)) (X2.inns v (.slice a5 n5 c5)) (upd (outs X.ps) u (plus (outs X.ps u) ((i : Int) + 1))) (upd (inns X.ps) v (plus (inns X.ps v) ((i : Int) + 1))) ∧ Foots w X.L (w5.setCell ⟨q2, 1, none⟩ (.slice a5 n5 c5)) (X2.inns v (.slice a5 n5 c5)).L)) := fun W hl => by
      have := (y1.like hl).withInn (k := v) (e := (i : Int) + 1) (q := q2) (by rw [f2.1]; exact e2) li1 (rising_numsOf _ _)
      rw [f2.2.2.1] at this; refine this.mono ?_
      rintro r w5 ⟨a5, n5, c5, rfl, z1, z2, z3, hZ⟩
      obtain ⟨z4, z5⟩ := unhide hZ; have z6 := foots_like hl z5; have z9 := z3 bb (by rw [hl.1]; exact hb4) y4
      exact ⟨a5, n5, c5, rfl, ⟨z1, (box_cells (z9.trans (by rw [hl.1]; exact y3))).1⟩, z2, z4, y2.trans z6⟩
    have d1 : w4.cell? ⟨q2, 1, none⟩ = some (X.ri v) := by have := (y1.ends (k := v) (q := q2) (by rw [f2.1]; exact e2)).2.1; rwa [f2.2.2.1] at this
    have dd1 : w4.cell? ⟨bb, 0, none⟩ = some (.int .i64 ((i : Int) + 1)) := (box_cells y3).1; obtain ⟨_, _, hri, -⟩ := brow_shape (y1.inn v q2 (by rw [f2.1]; exact e2))
    rw [f2.2.2.1] at hri; have HG2 : Hid (X2.f = X.f ∧ X2.s = X.s ∧ X2.ri = X.ri ∧ X2.wr = X.wr) := f2; have HX2 := hide hX2; clear y1 y2 y3 y4 e1 e2 ku kv lo1 li1 f2 hb4 hX2; obtain ⟨sa, sn, sc, hrw⟩ : ∃ sa sn sc, X.ri v = .slice sa sn sc := ⟨_, _, _, hri⟩; rw [hrw] at CW d1
    go_upto_region 5 with fail
    refine wp_region_noPanic ?_; refine regionL [10] (fun y => y.cell? ⟨q2, 1, none⟩ = some (.slice sa sn sc) ∧ y.cell? ⟨bb, 0, none⟩ = some (.int .i64 ((i : Int) + 1))) (by kernel_rfl) ⟨d1, dd1⟩ (fun hHeld => ?_)
    refine takeN 0 40 rfl ?_
    (try simp only [sl])
    refine takeN 1 41 rfl ?_
    (try simp only [sl])
    refine takeN 2 42 rfl ?_
    (try simp only [sl])
    refine takeN 3 43 rfl ?_
    (try simp only [sl])
    refine takeN 4 44 rfl ?_
    (try simp only [sl])
    refine takeN 5 45 rfl ?_
    (try simp only [sl])
    refine takeN 6 46 rfl ?_
    (try simp only [sl])
    refine readyL (i := 7) (by kernel_rfl) rfl (fun K hK => ?_)
    go_simp
    refine (unhide CW _ (by exact ⟨rfl, rfl, rfl, rfl⟩)).mono ?_
    rintro e w5 ⟨a5, n5, c5, rfl, ⟨ee0, ee1⟩, ef, hZ⟩
    (try dsimp only)
    refine hK.out _ _ (fun _ => (And.intro ee0 ee1)) ?_
    clear hK K
    (try simp only [sl])
    have hH15 := (And.intro ee0 ee1); refine takeN 8 48 rfl ?_
    (try simp only [sl])
    refine takeN 9 49 rfl ?_
    (try simp only [sl])
    refine readyL (i := 10) (by kernel_rfl) rfl (fun K hK => ?_)
    go_simp
    refine hK.out _ _ (fun h => by cases h) ?_
    clear hK K
    (try simp only [sl])
    refine doneL (by kernel_rfl) ?_ _
    refine NoPanic.normal ?_; clear CW d1 dd1; obtain ⟨y1, y2⟩ := unhide hZ; obtain ⟨X3, hX3⟩ : ∃ X3, X3 = X2.inns v (.slice a5 n5 c5) := ⟨_, rfl⟩; rw [← hX3] at y1 y2; clear hZ ee0 ee1 ef hHeld; generalize w5.setCell ⟨q2, 1, none⟩ (.slice a5 n5 c5) = w6 at *; have f3 : X3.f = X.f ∧ X3.s = X.s ∧ X3.N = X.N ∧ X3.rd = X.rd ∧ X3.wr = X.wr ∧ X3.n = n' ∧ X3.ps = (groE X.ps (i + 1)).set i (((i : Int) + 1, u, v, b), true) := by
      rw [hX3, unhide HX2, (unhide HG1).2]; exact ⟨rfl, rfl, rfl, rfl, rfl, rfl, rfl⟩
    obtain ⟨-, -, -, k3, kf⟩ := y1.cells; rw [f3.2.1] at k3 kf; rw [f3.2.2.2.2.1] at k3; obtain ⟨h, hfree, hu, hv, hw0, hw1⟩ := unhide HX; have hwr : IntKind.i64.wrap (X.wr + 1) = X.wr + 1 := by rw [IntKind.wrap_i64]; omega
    have HF : Hid (∃ X', Insd w X i ((i : Int) + 1, u, v, b) (w6.setCell ⟨X.s, 3, none⟩ (.int .i64 (X.wr + 1))) X') := by
      obtain ⟨z1, z2⟩ := y1.wrTurn (X.wr + 1); rw [← f3.2.1]; refine ⟨{ X3 with wr := X.wr + 1 }, ⟨insd_end h hfree hu hv z1 f3.2.2.2.2.2.2 f3.1 f3.2.2.1, f3.2.1, y2.trans z2⟩, f3.2.2.2.2.2.2, f3.1, f3.2.2.1, f3.2.2.2.1, rfl, ?_⟩
      show X3.n ≤ _; rw [f3.2.2.2.2.2.1]; exact (unhide HG1).1
    generalize X.wr = wr at *; generalize X.s = s at *; clear y1 y2 f3 h hfree hu hv hw0 hw1 hX3 HG1 HG2 HX2 HQ hrv hrw
    go_wp2_with fail
    go_ret
    exact ⟨rfl, unhide HF⟩
end
end

section
open Go.RowKit Go.Maps
def Least (ps : List (EdgeV × Bool)) (i : Nat) : Prop := (∀ j, j < i → ∃ a, ps[j]? = some (a, true)) ∧ ∀ a, ps[i]? ≠ some (a, true)
theorem Least.one {ps : List (EdgeV × Bool)} {i j : Nat} (h : Least ps i) (k : Least ps j) : i = j := by
  rcases Nat.lt_trichotomy i j with e | e | e
  · obtain ⟨a, ha⟩ := k.1 i e; exact absurd ha (h.2 a)
  · exact e
  · obtain ⟨a, ha⟩ := h.1 j e; exact absurd ha (k.2 a)
theorem free_spec {ps : List (EdgeV × Bool)} {r : Int} (h : FreeIs ps 1024 r) (hl : (ps.length : Int) ≤ 1024) : (∃ i : Nat, i < 1024 ∧ r = (i : Int) + 1 ∧ Least ps i) ∨ (r = 0 ∧ ∀ j, j < 1024 → ∃ a, ps[j]? = some (a, true)) := by
  rcases h with ⟨i, a, rfl, h2, h3⟩ | ⟨hf, ⟨h, rfl⟩ | ⟨h, rfl⟩⟩
  · have := lt_of_at h2; exact .inl ⟨i, by omega, rfl, h3, fun b e => by rw [h2] at e; cases e⟩
  · exact .inr ⟨rfl, fun j hj => hf j (by omega)⟩
  · exact .inl ⟨ps.length, by omega, rfl, hf, fun b e => by have := lt_of_at e; omega⟩
theorem free_of {ps : List (EdgeV × Bool)} {i : Nat} (hL : Least ps i) (hi : i < 1024) (hl : (ps.length : Int) ≤ 1024) {r : Int} (h : FreeIs ps 1024 r) : r = (i : Int) + 1 := by
  rcases free_spec h hl with ⟨j, -, rfl, hj⟩ | ⟨-, hj⟩
  · rw [hL.one hj]
  · obtain ⟨a, ha⟩ := hj i hi; exact absurd ha (hL.2 a)
theorem free_none {ps : List (EdgeV × Bool)} (hf : ∀ j, j < 1024 → ∃ a, ps[j]? = some (a, true)) (hl : (ps.length : Int) ≤ 1024) {r : Int} (h : FreeIs ps 1024 r) : r = 0 := by
  rcases free_spec h hl with ⟨j, hj, -, hL⟩ | ⟨e, -⟩
  · obtain ⟨a, ha⟩ := hf j hj; exact absurd ha (hL.2 a)
  · exact e
section
variable [Inhabited EntI] {w w' : World} {X : Sto}
theorem StAt.like {W : World} (h : StAt w X) (hl : Like w W) : StAt W X := h.below (hl.below _)
theorem Step.first {W : World} {X' : Sto} (hb : Below w.heap.size w W) (h : Step W X w' X') : Step w X w' X' := ⟨h.1, h.2.1, (Foots.below _ hb).trans h.2.2⟩
theorem Insd.first {W : World} {X' : Sto} {i : Nat} {x : EdgeV} (hb : Below w.heap.size w W) (h : Insd W X i x w' X') : Insd w X i x w' X' := ⟨Step.first hb h.1, h.2⟩
set_option maxHeartbeats 1000000 in
set_option maxRecDepth 100000 in
theorem addENo (u v n : Int) (h : StAt w X) (hu : okN u) (hv : okN v) (hno : X.f u = none ∨ X.f v = none) : Calls Tryz.prog 67 #[.pointer (some ⟨X.s, 0, none⟩), .int .i64 u, .int .i64 v, .int .u32 n] w fun e w' => e = .returned (.tuple #[.int .i64 0, .int .i64 5]) ∧ w' = w := by
  have CA := hide (admitNoS u v n h hu hv hno); clear h hu hv hno
  go_enter Tryz.func67, Tryz.ntmps67
  go_wp2_with fail
  refine (unhide CA).mono ?_
  rintro e w1 ⟨rfl, rfl⟩
  clear CA
  go_wp2_with fail
  go_ret2
  exact ⟨rfl, rfl⟩
set_option maxHeartbeats 1000000 in
set_option maxRecDepth 100000 in
theorem addEBad (u v n : Int) (h : StAt w X) (hu : X.f u ≠ none) (hv : X.f v ≠ none) (h0 : 0 ≤ n) (hk : kept n = none) : Calls Tryz.prog 67 #[.pointer (some ⟨X.s, 0, none⟩), .int .i64 u, .int .i64 v, .int .u32 n] w fun e w' => e = .returned (.tuple #[.int .i64 0, .int .i64 7]) ∧ w' = w := by
  have CA := hide (admitS u v n h hu hv h0); rw [hk] at CA; simp only [ansK] at CA; clear h hu hv h0 hk
  go_enter Tryz.func67, Tryz.ntmps67
  go_wp2_with fail
  refine (unhide CA).mono ?_
  rintro e w1 ⟨rfl, rfl⟩
  clear CA
  go_wp2_with fail
  go_ret2
  exact ⟨rfl, rfl⟩
set_option maxHeartbeats 1000000 in
set_option maxRecDepth 100000 in
theorem addEMany {kb : Int} (u v n : Int) (h : StAt w X) (hu : X.f u ≠ none) (hv : X.f v ≠ none) (h0 : 0 ≤ n) (hk : kept n = some kb) (hf : ∀ j, j < 1024 → ∃ a, X.ps[j]? = some (a, true)) : Calls Tryz.prog 67 #[.pointer (some ⟨X.s, 0, none⟩), .int .i64 u, .int .i64 v, .int .u32 n] w fun e w' => e = .returned (.tuple #[.int .i64 0, .int .i64 8]) ∧ Below w.heap.size w w' := by
  have CA := hide (admitS u v n h hu hv h0); rw [hk] at CA; simp only [ansK] at CA; have CF := hide (freeS h); have HF : Hid (∀ r, FreeIs X.ps 1024 r → r = 0) := fun r hr => free_none hf h.tab.len hr
  have CI : Hid (∀ W, Like w W → Calls Tryz.prog 76 #[.pointer (some ⟨X.s, 0, none⟩), .agg #[.int .i64 0, .int .i64 u, .int .i64 v, .int .u32 kb]] W fun e w' => e = .returned (.bool false) ∧ Below w.heap.size w w') := fun W hl => by
    refine (insertNoS (w := W) (X := X) (0, u, v, kb) (h.like hl) (.inl (by show (0 : Int) < 1; omega))).mono ?_
    rintro e w' ⟨rfl, g⟩
    exact ⟨rfl, (hl.below _).trans (g.mono (by rw [hl.1]; exact Nat.le_refl _))⟩
  generalize X.s = s at *; clear h hu hv h0 hk hf
  go_enter Tryz.func67, Tryz.ntmps67
  go_wp2_with fail
  refine (unhide CA).mono ?_
  rintro e w1 ⟨rfl, rfl⟩
  clear CA
  go_wp2_with fail
  refine (unhide CF).mono ?_
  rintro e w2 ⟨r, rfl, h2⟩
  obtain ⟨hr, q, rfl⟩ := unhide h2; obtain rfl := unhide HF r hr; clear CF HF h2 hr
  go_wp2_with fail
  refine (unhide CI _ (by exact ⟨rfl, rfl, rfl, rfl⟩)).mono ?_
  rintro e w3 ⟨rfl, h3⟩
  have H3 := hide h3; clear CI h3
  go_wp2_with fail
  go_ret2
  exact ⟨rfl, unhide H3⟩
set_option maxHeartbeats 1000000 in
set_option maxRecDepth 100000 in
theorem addES {kb : Int} (i : Nat) (u v n : Int) (h : StAt w X) (hu : X.f u ≠ none) (hv : X.f v ≠ none) (h0 : 0 ≤ n) (hk : kept n = some kb) (hL : Least X.ps i) (hi : i < 1024) (hn : X.n ≤ 900000000) (hw0 : 0 ≤ X.wr) (hw1 : X.wr ≤ 1000000000) : Calls Tryz.prog 67 #[.pointer (some ⟨X.s, 0, none⟩), .int .i64 u, .int .i64 v, .int .u32 n] w fun e w' => e = .returned (.tuple #[.int .i64 ((i : Int) + 1), .int .i64 0]) ∧ Hid (∃ X', Insd w X i ((i : Int) + 1, u, v, kb) w' X') := by
  have CA := hide (admitS u v n h hu hv h0); rw [hk] at CA; simp only [ansK] at CA; have CF := hide (freeS h); have HF : Hid (∀ r, FreeIs X.ps 1024 r → r = (i : Int) + 1) := fun r hr => free_of hL hi h.tab.len hr
  have CI : Hid (∀ W, Like w W → Calls Tryz.prog 76 #[.pointer (some ⟨X.s, 0, none⟩), .agg #[.int .i64 ((i : Int) + 1), .int .i64 u, .int .i64 v, .int .u32 kb]] W fun e w' => e = .returned (.bool true) ∧ Hid (∃ X', Insd w X i ((i : Int) + 1, u, v, kb) w' X')) := fun W hl => by
    refine (insertS (w := W) (X := X) i u v kb (h.like hl) hi hL.2 hu hv hn hw0 hw1).mono ?_
    rintro e w' ⟨rfl, g⟩
    obtain ⟨X', g'⟩ := unhide g; exact ⟨rfl, X', g'.first (hl.below _)⟩
  generalize X.s = s at *; clear h hu hv h0 hk hL hi hn hw0 hw1
  go_enter Tryz.func67, Tryz.ntmps67
  go_wp2_with fail
  refine (unhide CA).mono ?_
  rintro e w1 ⟨rfl, rfl⟩
  clear CA
  go_wp2_with fail
  refine (unhide CF).mono ?_
  rintro e w2 ⟨r, rfl, h2⟩
  obtain ⟨hr, q, rfl⟩ := unhide h2; obtain rfl := unhide HF r hr; clear CF HF h2 hr
  go_wp2_with fail
  refine (unhide CI _ (by exact ⟨rfl, rfl, rfl, rfl⟩)).mono ?_
  rintro e w3 ⟨rfl, h3⟩
  clear CI
  go_wp2_with fail
  go_ret2
  exact ⟨rfl, unhide h3⟩
end
end

section
open Go.RowKit Go.Maps
theorem foots_set4 {w w' : World} {L L' : Nat → Option Who} {b : Nat} (h : Foots w L w' L') (hb : w.heap.size ≤ b) (x0 x1 x2 x3 : Value) : Foots w L (set4 w' b x0 x1 x2 x3) L' := by
  have t := set4_turned (w := w') (g := b) (fun k => k = b) rfl x0 x1 x2 x3
  exact ⟨⟨t.os.trans h.1.os, t.tape.trans h.1.tape, t.output.trans h.1.output, Nat.le_trans h.1.size t.size, fun k hk hn => (set4_other (by omega) _ _ _ _).trans (h.1.block k hk hn)⟩, h.2⟩
section
variable [Inhabited EntI] {w w' : World} {X : Sto}
theorem StMid.set4 {lo li : Int → List Int} {b : Nat} (h : StMid w X lo li) (hb : X.L b = none) (x0 x1 x2 x3 : Value) : StMid (Go.Proofs.YtagibmgbjhemkaaGreat.set4 w b x0 x1 x2 x3) X lo li :=
  h.kept (fun k hk => set4_other (fun e => hk (by rw [e]; exact hb)) _ _ _ _) (by rw [set4_size]; exact Nat.le_refl _)
def Remd (w : World) (X : Sto) (i : Nat) (w' : World) (X' : Sto) : Prop :=
  Step w X w' X' ∧ X'.ps = X.ps.set i (((0, 0, 0, 0) : EdgeV), false) ∧ X'.f = X.f ∧ X'.N = X.N ∧ X'.rd = X.rd ∧ X'.wr = X.wr + 1 ∧ X'.n ≤ X.n + 65536
theorem remd_end {X6 : Sto} {i : Nat} {a : EdgeV} (h : StAt w X) (hi : X.ps[i]? = some (a, true))
    (hm : StMid w' X6 (upd (outs X.ps) a.2.1 (less (outs X.ps a.2.1) ((i : Int) + 1))) (upd (inns X.ps) a.2.2.1 (less (inns X.ps a.2.2.1) ((i : Int) + 1))))
    (hps : X6.ps = X.ps.set i (((0, 0, 0, 0) : EdgeV), false)) (hf : X6.f = X.f) (hN : X6.N = X.N) : StAt w' X6 := by
  have hat : ∀ j y, X6.ps[j]? = some (y, true) ↔ j ≠ i ∧ X.ps[j]? = some (y, true) := fun j y => by
    rw [hps]; exact at_cut
  have e1 : outs X6.ps = upd (outs X.ps) a.2.1 (less (outs X.ps a.2.1) ((i : Int) + 1)) := funext fun k => by
    have := nums_cut (p := fun x => decide (x.2.1 = k)) hi hat
    by_cases hk : k = a.2.1
    · subst hk; rw [upd_self]; exact (this.1 (by simp)).1
    · rw [upd_ne _ _ hk]; exact this.2 (by simpa using fun e => hk e.symm)
  have e2 : inns X6.ps = upd (inns X.ps) a.2.2.1 (less (inns X.ps a.2.2.1) ((i : Int) + 1)) := funext fun k => by
    have := nums_cut (p := fun x => decide (x.2.2.1 = k)) hi hat
    by_cases hk : k = a.2.2.1
    · subst hk; rw [upd_self]; exact (this.1 (by simp)).1
    · rw [upd_ne _ _ hk]; exact this.2 (by simpa using fun e => hk e.symm)
  rw [← e1, ← e2] at hm; refine ⟨hm, fun j y hy => ?_, by rw [hN]; exact h.size⟩
  rw [hf]; exact h.edge j y ((hat j y).1 hy).2
set_option maxHeartbeats 1000000 in
set_option maxRecDepth 100000 in
theorem removeNoS (e : Int) (h : StAt w X) (hno : ∀ (i : Nat) a, e = (i : Int) + 1 → X.ps[i]? ≠ some (a, true)) :
    Calls Tryz.prog 51 #[.pointer (some ⟨X.s, 0, none⟩), .int .i64 e] w fun r w' => r = .returned (.tuple #[.agg #[.int .i64 0, .int .i64 0, .int .i64 0, .int .u32 0], .bool false]) ∧ Below w.heap.size w w' := by
  have hb0 : Below w.heap.size w (w.alloc o34) := (Below.refl _ _).alloc (Nat.le_refl _) _; have H0 := h.mem.below hb0; obtain ⟨c0, -, -, -, -⟩ := H0.cells; have CT := hide (dropNoE e (w.alloc o34) H0.tab hno); have hsz : (w.alloc o34).heap.size = w.heap.size + 1 := by simp
  have HG : Hid ((w.alloc o34).heap[w.heap.size]? = some o34 ∧ Below w.heap.size w (w.alloc o34) ∧ (w.alloc o34).heap.size = w.heap.size + 1) := ⟨heap_alloc_new _ _, hb0, hsz⟩; generalize X.s = s at *; generalize X.t = t at *; clear h hno H0 hb0 hsz
  go_enter Tryz.func51, Tryz.ntmps51
  go_upto_region 1 with fail
  change Code.wp _ _ _ _ (w.alloc o34); generalize w.alloc o34 = w1 at *; generalize hb : w.heap.size = b at *
  go_wp2_with fail
  refine (unhide CT).mono ?_
  rintro r w2 ⟨rfl, hb2⟩
  obtain ⟨k1, k2, k3⟩ := unhide HG; have hg2 : w2.heap[b]? = some o34 := (hb2.block b (by omega)).trans k1
  have hs2 := hb2.size; have HB3 : Hid (Below b w (w2.alloc o34)) := (k2.trans (hb2.mono (by omega))).trans ((Below.refl _ _).alloc (by omega) _)
  have hg3 : (w2.alloc o34).heap[b]? = some o34 := (heap_alloc_old w2 o34 (by omega)).trans hg2
  have HG3 := hide hg3; obtain ⟨g0, g1, g2, g3, gf⟩ := cells34 hg3; clear CT hb2 hg2 HG k1 k2 k3 hs2 hg3
  go_upto_region 2 with fail
  change Code.wp _ _ _ _ (w2.alloc o34); generalize w2.alloc o34 = w3 at *
  go_wp2_with fail
  (try simp only [Exit.inBlock, Exit.then])
  change bodyPost _ _ _ _ _ (Go.Proofs.YtagibmgbjhemkaaGreat.set4 w3 b _ _ _ _); refine bodyPost_ret (resE rfl _ _ b _ _ _ _ rfl (set4_at (unhide HG3) _ _ _ _)) rfl ?_; exact ⟨rfl, by rw [hb]; exact set4_below (unhide HB3) (Nat.le_refl _) _ _ _ _⟩
set_option maxHeartbeats 4000000 in
set_option maxRecDepth 100000 in
theorem removeS {a : EdgeV} (i : Nat) (h : StAt w X) (hi : X.ps[i]? = some (a, true)) (hn : X.n ≤ 900000000) (hw0 : 0 ≤ X.wr) (hw1 : X.wr ≤ 1000000000) :
    Calls Tryz.prog 51 #[.pointer (some ⟨X.s, 0, none⟩), .int .i64 ((i : Int) + 1)] w fun r w' => r = .returned (.tuple #[.agg #[.int .i64 a.1, .int .i64 a.2.1, .int .i64 a.2.2.1, .int .u32 a.2.2.2], .bool true]) ∧ Hid (∃ X', Remd w X i w' X') := by
  obtain ⟨-, hu, hv⟩ := h.edge i a hi; obtain ⟨q1, e1⟩ : ∃ q, X.f a.2.1 = some q := by cases hh : X.f a.2.1 with | none => exact absurd hh hu | some q => exact ⟨q, rfl⟩
  obtain ⟨q2, e2⟩ : ∃ q, X.f a.2.2.1 = some q := by cases hh : X.f a.2.2.1 with | none => exact absurd hh hv | some q => exact ⟨q, rfl⟩
  have hb0 : Below w.heap.size w (w.alloc o34) := (Below.refl _ _).alloc (Nat.le_refl _) _; have H0 := h.mem.below hb0; have ku := h.ok e1; have kv := h.ok e2; obtain ⟨c0, -, -, -, -⟩ := H0.cells; have lo1 : (outs X.ps a.2.1).length ≤ 1000000 := Nat.le_trans (length_numsOf _ _) (by have := h.tab.len; omega)
  have li1 : (inns X.ps a.2.2.1).length ≤ 1000000 := Nat.le_trans (length_numsOf _ _) (by have := h.tab.len; omega)
  have ino : (i : Int) + 1 ∈ outs X.ps a.2.1 := mem_numsOf.2 ⟨i, a, hi, by simp, rfl⟩
  have ini : (i : Int) + 1 ∈ inns X.ps a.2.2.1 := mem_numsOf.2 ⟨i, a, hi, by simp, rfl⟩
  have hsz : (w.alloc o34).heap.size = w.heap.size + 1 := by simp
  have hLb : X.L w.heap.size = none := h.mem.new (Nat.le_refl _); have CT : Hid (Calls Tryz.prog 85 #[.pointer (some ⟨X.t, 0, none⟩), .int .i64 ((i : Int) + 1)] (w.alloc o34) fun r w2 => r = .returned (.tuple #[.agg #[.int .i64 a.1, .int .i64 a.2.1, .int .i64 a.2.2.1, .int .u32 a.2.2.2], .bool true]) ∧ Hid (∃ v' ms' n' G' L', n' ≤ X.n + 65536 ∧ StMid (w2.alloc (oE a)) { X with v := v', ms := ms', n := n', G := G', ps := X.ps.set i (((0, 0, 0, 0) : EdgeV), false), L := L' } (outs X.ps) (inns X.ps) ∧ Foots w X.L (w2.alloc (oE a)) L' ∧ (w2.alloc (oE a)).heap[w.heap.size]? = some o34 ∧ L' w.heap.size = none ∧ (w2.alloc (oE a)).heap[w2.heap.size]? = some (oE a) ∧ L' w2.heap.size = none ∧ w.heap.size < w2.heap.size)) := by
    refine (dropYesE i (w.alloc o34) H0.tab hi (by omega)).mono ?_
    rintro r w2 ⟨rfl, h2⟩
    obtain ⟨v', ms', n', G', L', g1, g2, g3⟩ := H0.tabTurn (unhide h2); have hb2 : Below w2.heap.size w2 (w2.alloc (oE a)) := (Below.refl _ _).alloc (Nat.le_refl _) _; have g4 := ((Foots.below X.L hb0).trans g3).trans (Foots.below L' hb2); obtain ⟨g5, g6⟩ := g3.old (b := w.heap.size) (by omega) hLb
    have hs2 := g3.1.size; exact ⟨rfl, v', ms', n', G', L', g1, g2.below hb2, g4, (heap_alloc_old w2 _ (by omega)).trans (g5.trans (heap_alloc_new _ _)), g6, heap_alloc_new _ _, g2.new (Nat.le_refl _), by omega⟩
  have HX := hide (And.intro h (And.intro hi (And.intro hw0 hw1))); have HQ : Hid (X.f a.2.1 = some q1 ∧ X.f a.2.2.1 = some q2 ∧ okN a.2.1 ∧ okN a.2.2.1 ∧ (outs X.ps a.2.1).length ≤ 1000000 ∧ (inns X.ps a.2.2.1).length ≤ 1000000 ∧ (i : Int) + 1 ∈ outs X.ps a.2.1 ∧ (i : Int) + 1 ∈ inns X.ps a.2.2.1) := ⟨e1, e2, ku, kv, lo1, li1, ino, ini⟩; clear hu hv hn hw0 hw1 h H0 e1 e2 ku kv lo1 li1 hb0 hi ino ini hLb hsz
  go_enter Tryz.func51, Tryz.ntmps51
  go_upto_region 1 with fail
  change Code.wp _ _ _ _ (w.alloc o34); generalize w.alloc o34 = w1 at *; generalize hbb : w.heap.size = bb at *
  go_wp2_with fail
  refine (unhide CT).mono ?_
  rintro r w2 ⟨rfl, h2⟩
  clear CT c0
  go_upto_region 2 with fail
  change Code.wp _ _ _ _ (w2.alloc (oE a)); obtain ⟨v', ms', n', G', L', g1, g2, g4, g5, g6, g7, g8, g9⟩ := unhide h2; clear h2; generalize w2.alloc (oE a) = w3 at *; generalize w2.heap.size = b2 at *; obtain ⟨e1, e2, ku, kv, lo1, li1, ino, ini⟩ := unhide HQ; obtain ⟨X1, hX1⟩ : ∃ X1 : Sto, X1 = { X with v := v', ms := ms', n := n', G := G', ps := X.ps.set i (((0, 0, 0, 0) : EdgeV), false), L := L' } := ⟨_, rfl⟩
  rw [← hX1] at g2; have f1 : X1.f = X.f ∧ X1.s = X.s ∧ X1.m = X.m ∧ X1.ro = X.ro ∧ X1.ri = X.ri ∧ X1.wr = X.wr ∧ X1.L = L' := by rw [hX1]; exact ⟨rfl, rfl, rfl, rfl, rfl, rfl, rfl⟩
  obtain ⟨m1, hm1⟩ : ∃ m1, m1 = X.m := ⟨_, rfl⟩; have k1 : w3.cell? ⟨X.s, 1, none⟩ = some (.map (some m1)) := by have := g2.cells.2.1; rwa [f1.2.1, f1.2.2.1, ← hm1] at this
  have hlu : (Instr.lookup 79 (.map (some m1)) (.int .i64 a.2.1) false).run Tryz.prog w3.drew = .ok (.pointer (some ⟨q1, 0, none⟩)) w3.drew := by
    have := (g2.draw 1).look a.2.1 ku; rw [f1.1, f1.2.2.1, e1, ← hm1] at this; exact this
  have hlv : (Instr.lookup 79 (.map (some m1)) (.int .i64 a.2.2.1) false).run Tryz.prog w3.drew = .ok (.pointer (some ⟨q2, 0, none⟩)) w3.drew := by
    have := (g2.draw 1).look a.2.2.1 kv; rw [f1.1, f1.2.2.1, e2, ← hm1] at this; exact this
  have hl1 := (Array.getElem?_eq_some_iff.1 g5).1; have hl2 := (Array.getElem?_eq_some_iff.1 g7).1; have CW : Hid (∀ W, Like w3 W → Calls Tryz.prog 86 #[X.ro a.2.1, .int .i64 ((i : Int) + 1)] W fun r w4 => ∃ a3 n3 c3, r = .returned (.slice a3 n3 c3) ∧ w4.cell? ⟨q1, 0, none⟩ = some (X.ro a.2.1) ∧ (∀ o, w4.frozen? ⟨q1, o, none⟩ = false) ∧ Hid (StMid (w4.setCell ⟨q1, 0, none⟩ (.slice a3 n3 c3)) (X1.outs a.2.1 (.slice a3 n3 c3)) (upd (outs X.ps) a.2.1 (less (outs X.ps a.2.1) ((i : Int) + 1))) (inns X.ps) ∧ Foots w X.L (w4.setCell ⟨q1, 0, none⟩ (.slice a3 n3 c3)) (X1.outs a.2.1 (.slice a3 n3 c3)).L ∧ (w4.setCell ⟨q1, 0, none⟩ (.slice a3 n3 c3)).heap[bb]? = some o34 ∧ (X1.outs a.2.1 (.slice a3 n3 c3)).L bb = none ∧ (w4.setCell ⟨q1, 0, none⟩ (.slice a3 n3 c3)).heap[b2]? = some (oE a) ∧ (X1.outs a.2.1 (.slice a3 n3 c3)).L b2 = none)) := fun W hl => by
    have := (g2.like hl).withoutOut (k := a.2.1) (e := (i : Int) + 1) (q := q1) (by rw [f1.1]; exact e1) lo1 (rising_numsOf _ _) ino
    rw [f1.2.2.2.1] at this; refine this.mono ?_
    rintro r w4 ⟨a3, n3, c3, rfl, z1, z2, z3, hZ⟩
    obtain ⟨z4, z5⟩ := unhide hZ; have z6 := foots_like hl z5; rw [f1.2.2.2.2.2.2] at z6; obtain ⟨z7, z8⟩ := z6.old hl1 g6; obtain ⟨z9, z10⟩ := z6.old hl2 g8; exact ⟨a3, n3, c3, rfl, z1, z2, z4, g4.trans z6, z7.trans g5, z8, z9.trans g7, z10⟩
  have d0 : w3.cell? ⟨q1, 0, none⟩ = some (X.ro a.2.1) := by have := (g2.ends (k := a.2.1) (q := q1) (by rw [f1.1]; exact e1)).1; rwa [f1.2.2.2.1] at this
  obtain ⟨x0, x1, x2, x3, -⟩ := box_cells g7; obtain ⟨_, _, hro, -⟩ := brow_shape (g2.out a.2.1 q1 (by rw [f1.1]; exact e1))
  rw [f1.2.2.2.1] at hro; have HG1 : Hid (n' ≤ X.n + 65536 ∧ X1 = { X with v := v', ms := ms', n := n', G := G', ps := X.ps.set i (((0, 0, 0, 0) : EdgeV), false), L := L' }) := ⟨g1, hX1⟩
  have HB12 : Hid (bb < b2) := g9; clear g1 g2 g4 g5 g6 g7 g8 g9 e1 e2 ku kv lo1 li1 hm1 hX1 f1 hl1 hl2 ino ini; obtain ⟨ra, rn, rc, hrv⟩ : ∃ ra rn rc, X.ro a.2.1 = .slice ra rn rc := ⟨_, _, _, hro⟩; rw [hrv] at CW d0
  go_upto_region 4 with fail
  refine wp_region_noPanic ?_; refine regionL [] (fun y => y.cell? ⟨X.s, 1, none⟩ = some (.map (some m1)) ∧ y.cell? ⟨b2, 1, none⟩ = some (.int .i64 a.2.1) ∧ y.cell? ⟨b2, 2, none⟩ = some (.int .i64 a.2.2.1) ∧ (Instr.lookup 79 (.map (some m1)) (.int .i64 a.2.1) false).run Tryz.prog y = .ok (.pointer (some ⟨q1, 0, none⟩)) y ∧ (Instr.lookup 79 (.map (some m1)) (.int .i64 a.2.2.1) false).run Tryz.prog y = .ok (.pointer (some ⟨q2, 0, none⟩)) y) (by kernel_rfl) ⟨k1, x1, x2, hlu, hlv⟩ (fun hHeld => ?_)
  refine takeN 0 22 rfl ?_
  (try simp only [sl])
  refine takeN 1 23 rfl ?_
  (try simp only [sl])
  refine takeN 2 24 rfl ?_
  (try simp only [sl])
  refine takeN 3 25 rfl ?_
  (try simp only [sl])
  refine takeN 4 26 rfl ?_
  (try simp only [sl])
  refine takeN 5 27 rfl ?_
  (try simp only [sl])
  refine takeN 6 28 rfl ?_
  (try simp only [sl])
  refine takeN 7 29 rfl ?_
  (try simp only [sl])
  refine takeN 8 30 rfl ?_
  (try simp only [sl])
  refine takeN 9 31 rfl ?_
  (try simp only [sl])
  refine takeN 10 32 rfl ?_
  (try simp only [sl])
  refine takeN 11 33 rfl ?_
  (try simp only [sl])
  refine takeN 12 34 rfl ?_
  (try simp only [sl])
  refine takeN 13 35 rfl ?_
  (try simp only [sl])
  refine takeN 14 8 rfl ?_
  (try simp only [sl])
  refine takeN 15 9 rfl ?_
  (try simp only [sl])
  refine doneL (by kernel_rfl) ?_ _
  refine NoPanic.normal ?_; clear hlu hlv k1 hHeld x0 x1 x2 x3
  go_wp2_with fail
  refine (unhide CW _ (by exact ⟨rfl, rfl, rfl, rfl⟩)).mono ?_
  rintro r w4 ⟨a3, n3, c3, rfl, ee0, ef, hZ⟩
  clear CW d0
  go_upto_region 6 with fail
  obtain ⟨y1, y2, y3, y4, y5, y6⟩ := unhide hZ; obtain ⟨X2, hX2⟩ : ∃ X2, X2 = X1.outs a.2.1 (.slice a3 n3 c3) := ⟨_, rfl⟩; rw [← hX2] at y1 y2 y4 y6; clear hZ ee0 ef; generalize w4.setCell ⟨q1, 0, none⟩ (.slice a3 n3 c3) = w5 at *; have f2 : X2.f = X.f ∧ X2.s = X.s ∧ X2.ri = X.ri ∧ X2.wr = X.wr := by rw [hX2]; have := (unhide HG1).2; rw [this]; exact ⟨rfl, rfl, rfl, rfl⟩
  obtain ⟨e1, e2, ku, kv, lo1, li1, ino, ini⟩ := unhide HQ; have hl1 := (Array.getElem?_eq_some_iff.1 y3).1; have hl2 := (Array.getElem?_eq_some_iff.1 y5).1; have CW : Hid (∀ W, Like w5 W → Calls Tryz.prog 86 #[X.ri a.2.2.1, .int .i64 ((i : Int) + 1)] W fun r w6 => ∃ a5 n5 c5, r = .returned (.slice a5 n5 c5) ∧ w6.cell? ⟨q2, 1, none⟩ = some (X.ri a.2.2.1) ∧ (∀ o, w6.frozen? ⟨q2, o, none⟩ = false) ∧ Hid (StMid (w6.setCell ⟨q2, 1, none⟩ (.slice a5 n5 c5)) (X2.inns a.2.2.1 (.slice a5 n5 c5)) (upd (outs X.ps) a.2.1 (less (outs X.ps a.2.1) ((i : Int) + 1))) (upd (inns X.ps) a.2.2.1 (less (inns X.ps a.2.2.1) ((i : Int) + 1))) ∧ Foots w X.L (w6.setCell ⟨q2, 1, none⟩ (.slice a5 n5 c5)) (X2.inns a.2.2.1 (.slice a5 n5 c5)).L ∧ (w6.setCell ⟨q2, 1, none⟩ (.slice a5 n5 c5)).heap[bb]? = some o34 ∧ (X2.inns a.2.2.1 (.slice a5 n5 c5)).L bb = none ∧ (w6.setCell ⟨q2, 1, none⟩ (.slice a5 n5 c5)).heap[b2]? = some (oE a) ∧ (X2.inns a.2.2.1 (.slice a5 n5 c5)).L b2 = none)) := fun W hl => by
    have := (y1.like hl).withoutInn (k := a.2.2.1) (e := (i : Int) + 1) (q := q2) (by rw [f2.1]; exact e2) li1 (rising_numsOf _ _) ini
    rw [f2.2.2.1] at this; refine this.mono ?_
    rintro r w6 ⟨a5, n5, c5, rfl, z1, z2, z3, hZ⟩
    obtain ⟨z4, z5⟩ := unhide hZ; have z6 := foots_like hl z5; obtain ⟨z7, z8⟩ := z6.old hl1 y4; obtain ⟨z9, z10⟩ := z6.old hl2 y6; exact ⟨a5, n5, c5, rfl, z1, z2, z4, y2.trans z6, z7.trans y3, z8, z9.trans y5, z10⟩
  have d1 : w5.cell? ⟨q2, 1, none⟩ = some (X.ri a.2.2.1) := by have := (y1.ends (k := a.2.2.1) (q := q2) (by rw [f2.1]; exact e2)).2.1; rwa [f2.2.2.1] at this
  obtain ⟨_, _, hri, -⟩ := brow_shape (y1.inn a.2.2.1 q2 (by rw [f2.1]; exact e2))
  rw [f2.2.2.1] at hri; have HX2 := hide hX2; clear y1 y2 y3 y4 y5 y6 e1 e2 ku kv lo1 li1 f2 hl1 hl2 hX2 ino ini; obtain ⟨sa, sn, sc, hrw⟩ : ∃ sa sn sc, X.ri a.2.2.1 = .slice sa sn sc := ⟨_, _, _, hri⟩; rw [hrw] at CW d1
  go_wp2_with fail
  refine (unhide CW _ (by exact ⟨rfl, rfl, rfl, rfl⟩)).mono ?_
  rintro r w6 ⟨a5, n5, c5, rfl, ee0, ef, hZ⟩
  clear CW d1
  go_upto_region 7 with fail
  obtain ⟨y1, y2, y3, y4, y5, y6⟩ := unhide hZ; obtain ⟨X3, hX3⟩ : ∃ X3, X3 = X2.inns a.2.2.1 (.slice a5 n5 c5) := ⟨_, rfl⟩; rw [← hX3] at y1 y2 y4 y6; clear hZ ee0 ef; generalize w6.setCell ⟨q2, 1, none⟩ (.slice a5 n5 c5) = w7 at *; have f3 : X3.f = X.f ∧ X3.s = X.s ∧ X3.N = X.N ∧ X3.rd = X.rd ∧ X3.wr = X.wr ∧ X3.n = n' ∧ X3.ps = X.ps.set i (((0, 0, 0, 0) : EdgeV), false) := by
    rw [hX3, unhide HX2, (unhide HG1).2]; exact ⟨rfl, rfl, rfl, rfl, rfl, rfl, rfl⟩
  obtain ⟨-, -, -, k3, kf⟩ := y1.cells; rw [f3.2.1] at k3 kf; rw [f3.2.2.2.2.1] at k3; obtain ⟨h, hi, hw0, hw1⟩ := unhide HX; have hwr : IntKind.i64.wrap (X.wr + 1) = X.wr + 1 := by rw [IntKind.wrap_i64]; omega
  have hbs : bb ≠ X.s := fun e => by
    have := y1.lbox; rw [f3.2.1, ← e, y4] at this; cases this
  have h2s : b2 ≠ X.s := fun e => by
    have := y1.lbox; rw [f3.2.1, ← e, y6] at this; cases this
  have HF : Hid ((∀ x0 x1 x2 x3, ∃ X', Remd w X i (Go.Proofs.YtagibmgbjhemkaaGreat.set4 (w7.setCell ⟨X.s, 3, none⟩ (.int .i64 (X.wr + 1))) bb x0 x1 x2 x3) X') ∧ (w7.setCell ⟨X.s, 3, none⟩ (.int .i64 (X.wr + 1))).heap[bb]? = some o34 ∧ (w7.setCell ⟨X.s, 3, none⟩ (.int .i64 (X.wr + 1))).heap[b2]? = some (oE a)) := by
    obtain ⟨z1, z2⟩ := y1.wrTurn (X.wr + 1); refine ⟨fun x0 x1 x2 x3 => ?_, (heap_setCell_other _ _ _ _ hbs).trans y3, (heap_setCell_other _ _ _ _ h2s).trans y5⟩
    rw [← f3.2.1]; refine ⟨{ X3 with wr := X.wr + 1 }, ⟨remd_end h hi (z1.set4 y4 x0 x1 x2 x3) f3.2.2.2.2.2.2 f3.1 f3.2.2.1, f3.2.1, foots_set4 (y2.trans z2) (by omega) _ _ _ _⟩, f3.2.2.2.2.2.2, f3.1, f3.2.2.1, f3.2.2.2.1, rfl, ?_⟩
    show X3.n ≤ _; rw [f3.2.2.2.2.2.1]; exact (unhide HG1).1
  generalize X.wr = wr at *; generalize X.s = s at *; clear y1 y2 y3 y4 y5 y6 f3 h hi hw0 hw1 hX3 HG1 HX2 HQ hrv hrw hbs h2s
  go_upto_region 8 with fail
  obtain ⟨HR, j1, j2⟩ := unhide HF; have HRR := hide HR; have HJ := hide j1; clear HF HR k3 kf; generalize w7.setCell ⟨s, 3, none⟩ (.int .i64 (wr + 1)) = w8 at *; obtain ⟨x0, x1, x2, x3, -⟩ := box_cells j2; obtain ⟨g0, g1, g2, g3, gf⟩ := cells34 j1; have hne : ¬ bb = b2 := by have := unhide HB12; omega
  have hne2 : ¬ b2 = bb := fun e => hne e.symm
  clear j1 j2
  go_wp2_with fail
  (try simp only [Exit.inBlock, Exit.then])
  change bodyPost _ _ _ _ _ (Go.Proofs.YtagibmgbjhemkaaGreat.set4 w8 bb _ _ _ _); refine bodyPost_ret (resE rfl _ _ bb _ _ _ _ rfl (set4_at (unhide HJ) _ _ _ _)) rfl ?_; exact ⟨rfl, unhide HRR _ _ _ _⟩
end
end

end Go.Proofs.YtagibmgbjhemkaaGreat
