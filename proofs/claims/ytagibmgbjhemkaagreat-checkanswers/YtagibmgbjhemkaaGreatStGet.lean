/- DropEdge and Edge. -/
import Derived.Test.YtagibmgbjhemkaaGreatStRem
namespace Go.Proofs.YtagibmgbjhemkaaGreat
open Go.RowKit Go.Maps

section
variable [Inhabited EntI] {w w' : World} {X X' : Sto}

theorem Step.later {w2 : World} (h : Step w X w' X') (hb : Below w'.heap.size w' w2) : Step w X w2 X' := h.trans (Step.below h.1 hb)
theorem Step.set4 {b : Nat} (h : Step w X w' X') (hL : X'.L b = none) (hb : w.heap.size ≤ b) (x0 x1 x2 x3 : Value) : Step w X (Go.Proofs.YtagibmgbjhemkaaGreat.set4 w' b x0 x1 x2 x3) X' :=
  ⟨⟨h.1.mem.set4 hL _ _ _ _, h.1.edge, h.1.size⟩, h.2.1, foots_set4 h.2.2 hb _ _ _ _⟩

set_option maxHeartbeats 1000000 in
set_option maxRecDepth 100000 in
theorem dropENo (e : Int) (h : StAt w X) (hno : ∀ (i : Nat) a, e = (i : Int) + 1 → X.ps[i]? ≠ some (a, true)) :
    Calls Tryz.prog 26 #[.pointer (some ⟨X.s, 0, none⟩), .int .i64 e] w fun r w' => r = .returned (.tuple #[.agg #[.int .i64 0, .int .i64 0, .int .i64 0, .int .u32 0], .int .i64 6]) ∧ Below w.heap.size w w' := by
  have hb0 : Below w.heap.size w (w.alloc o34) := (Below.refl _ _).alloc (Nat.le_refl _) _
  have CT := hide (removeNoS e (h.below hb0) hno)
  have hsz : (w.alloc o34).heap.size = w.heap.size + 1 := by simp
  have HG : Hid ((w.alloc o34).heap[w.heap.size]? = some o34 ∧ Below w.heap.size w (w.alloc o34) ∧ (w.alloc o34).heap.size = w.heap.size + 1) := ⟨heap_alloc_new _ _, hb0, hsz⟩
  generalize X.s = s at *
  clear h hno hb0 hsz
  go_enter Tryz.func26, Tryz.ntmps26
  go_upto_region 1 with fail
  change Code.wp _ _ _ _ (w.alloc o34)
  generalize w.alloc o34 = w1 at *
  generalize hb : w.heap.size = b at *
  go_wp2_with fail
  refine (unhide CT).mono ?_
  rintro r w2 ⟨rfl, hb2⟩
  obtain ⟨k1, k2, k3⟩ := unhide HG
  have hg2 : w2.heap[b]? = some o34 := (hb2.block b (by omega)).trans k1
  have hs2 := hb2.size
  have HB3 : Hid (Below b w (w2.alloc o34)) := (k2.trans (hb2.mono (by omega))).trans ((Below.refl _ _).alloc (by omega) _)
  have hg3 : (w2.alloc o34).heap[b]? = some o34 := (heap_alloc_old w2 o34 (by omega)).trans hg2
  have HG3 := hide hg3
  obtain ⟨g0, g1, g2, g3, gf⟩ := cells34 hg3
  clear CT hb2 hg2 HG k1 k2 k3 hs2 hg3
  go_upto_region 2 with fail
  change Code.wp _ _ _ _ (w2.alloc o34)
  generalize w2.alloc o34 = w3 at *
  go_wp2_with fail
  (try simp only [Exit.inBlock, Exit.then])
  change bodyPost _ _ _ _ _ (Go.Proofs.YtagibmgbjhemkaaGreat.set4 w3 b _ _ _ _)
  refine bodyPost_ret (resE rfl _ _ b _ _ _ _ rfl (set4_at (unhide HG3) _ _ _ _)) rfl ?_
  exact ⟨rfl, by rw [hb]; exact set4_below (unhide HB3) (Nat.le_refl _) _ _ _ _⟩

set_option maxHeartbeats 1000000 in
set_option maxRecDepth 100000 in
theorem dropES {a : EdgeV} (i : Nat) (h : StAt w X) (hi : X.ps[i]? = some (a, true)) (hn : X.n ≤ 900000000) (hw0 : 0 ≤ X.wr) (hw1 : X.wr ≤ 1000000000) :
    Calls Tryz.prog 26 #[.pointer (some ⟨X.s, 0, none⟩), .int .i64 ((i : Int) + 1)] w fun r w' => r = .returned (.tuple #[.agg #[.int .i64 a.1, .int .i64 a.2.1, .int .i64 a.2.2.1, .int .u32 a.2.2.2], .int .i64 0]) ∧ Hid (∃ X', Remd w X i w' X') := by
  have hb0 : Below w.heap.size w (w.alloc o34) := (Below.refl _ _).alloc (Nat.le_refl _) _
  have hsz : (w.alloc o34).heap.size = w.heap.size + 1 := by simp
  have hLb : X.L w.heap.size = none := h.mem.new (Nat.le_refl _)
  have CT : Hid (Calls Tryz.prog 51 #[.pointer (some ⟨X.s, 0, none⟩), .int .i64 ((i : Int) + 1)] (w.alloc o34) fun r w2 => r = .returned (.tuple #[.agg #[.int .i64 a.1, .int .i64 a.2.1, .int .i64 a.2.2.1, .int .u32 a.2.2.2], .bool true]) ∧ Hid ((∀ x0 x1 x2 x3, ∃ X', Remd w X i (Go.Proofs.YtagibmgbjhemkaaGreat.set4 (w2.alloc (oE a)) w.heap.size x0 x1 x2 x3) X') ∧ (w2.alloc (oE a)).heap[w.heap.size]? = some o34 ∧ (w2.alloc (oE a)).heap[w2.heap.size]? = some (oE a) ∧ w.heap.size < w2.heap.size)) := by
    refine (removeS i (h.below hb0) hi hn hw0 hw1).mono ?_
    rintro r w2 ⟨rfl, h2⟩
    obtain ⟨X', hS, hR⟩ := unhide h2
    obtain ⟨g5, g6⟩ := hS.2.2.old (b := w.heap.size) (by omega) hLb
    have hs2 := hS.2.2.1.size
    have hb2 : Below w2.heap.size w2 (w2.alloc (oE a)) := (Below.refl _ _).alloc (Nat.le_refl _) _
    refine ⟨rfl, fun x0 x1 x2 x3 => ⟨X', ((Step.first hb0 hS).later hb2).set4 g6 (Nat.le_refl _) _ _ _ _, hR⟩, (heap_alloc_old w2 _ (by omega)).trans (g5.trans (heap_alloc_new _ _)), heap_alloc_new _ _, by omega⟩
  generalize X.s = s at *
  clear h hi hb0 hsz hLb hn hw0 hw1
  go_enter Tryz.func26, Tryz.ntmps26
  go_upto_region 1 with fail
  change Code.wp _ _ _ _ (w.alloc o34)
  generalize w.alloc o34 = w1 at *
  generalize hb : w.heap.size = b at *
  go_wp2_with fail
  refine (unhide CT).mono ?_
  rintro r w2 ⟨rfl, h2⟩
  clear CT
  go_upto_region 2 with fail
  change Code.wp _ _ _ _ (w2.alloc (oE a))
  obtain ⟨HR, j1, j2, j3⟩ := unhide h2
  have HRR := hide HR
  have HJ := hide j1
  clear h2 HR
  generalize w2.alloc (oE a) = w3 at *
  generalize w2.heap.size = b2 at *
  obtain ⟨x0, x1, x2, x3, -⟩ := box_cells j2
  obtain ⟨g0, g1, g2, g3, gf⟩ := cells34 j1
  have hne : ¬ b = b2 := by omega
  have hne2 : ¬ b2 = b := fun e => hne e.symm
  clear j1 j2 j3
  go_wp2_with fail
  (try simp only [Exit.inBlock, Exit.then])
  change bodyPost _ _ _ _ _ (Go.Proofs.YtagibmgbjhemkaaGreat.set4 w3 b _ _ _ _)
  refine bodyPost_ret (resE rfl _ _ b _ _ _ _ rfl (set4_at (unhide HJ) _ _ _ _)) rfl ?_
  exact ⟨rfl, unhide HRR _ _ _ _⟩

set_option maxHeartbeats 1000000 in
set_option maxRecDepth 100000 in
theorem edgeNo (e : Int) (h : StAt w X) (hno : ∀ (i : Nat) a, e = (i : Int) + 1 → X.ps[i]? ≠ some (a, true)) :
    Calls Tryz.prog 73 #[.pointer (some ⟨X.s, 0, none⟩), .int .i64 e] w fun r w' => r = .returned (.tuple #[.agg #[.int .i64 0, .int .i64 0, .int .i64 0, .int .u32 0], .int .i64 6]) ∧ Below w.heap.size w w' := by
  have hb0 : Below w.heap.size w (w.alloc o34) := (Below.refl _ _).alloc (Nat.le_refl _) _
  have H0 := h.mem.below hb0
  obtain ⟨c0, -, -, -, -⟩ := H0.cells
  have CT := hide (atNoE e (w.alloc o34) H0.tab hno)
  have hsz : (w.alloc o34).heap.size = w.heap.size + 1 := by simp
  have HG : Hid ((w.alloc o34).heap[w.heap.size]? = some o34 ∧ Below w.heap.size w (w.alloc o34) ∧ (w.alloc o34).heap.size = w.heap.size + 1) := ⟨heap_alloc_new _ _, hb0, hsz⟩
  generalize X.s = s at *
  generalize X.t = t at *
  clear h hno H0 hb0 hsz
  go_enter Tryz.func73, Tryz.ntmps73
  go_upto_region 1 with fail
  change Code.wp _ _ _ _ (w.alloc o34)
  generalize w.alloc o34 = w1 at *
  generalize hb : w.heap.size = b at *
  go_wp2_with fail
  refine (unhide CT).mono ?_
  rintro r w2 ⟨rfl, hb2⟩
  obtain ⟨k1, k2, k3⟩ := unhide HG
  have hg2 : w2.heap[b]? = some o34 := (hb2.block b (by omega)).trans k1
  have hs2 := hb2.size
  have HB3 : Hid (Below b w (w2.alloc o34)) := (k2.trans (hb2.mono (by omega))).trans ((Below.refl _ _).alloc (by omega) _)
  have hg3 : (w2.alloc o34).heap[b]? = some o34 := (heap_alloc_old w2 o34 (by omega)).trans hg2
  have HG3 := hide hg3
  obtain ⟨g0, g1, g2, g3, gf⟩ := cells34 hg3
  clear CT hb2 hg2 HG k1 k2 k3 hs2 hg3
  go_upto_region 2 with fail
  change Code.wp _ _ _ _ (w2.alloc o34)
  generalize w2.alloc o34 = w3 at *
  go_wp2_with fail
  (try simp only [Exit.inBlock, Exit.then])
  change bodyPost _ _ _ _ _ (Go.Proofs.YtagibmgbjhemkaaGreat.set4 w3 b _ _ _ _)
  refine bodyPost_ret (resE rfl _ _ b _ _ _ _ rfl (set4_at (unhide HG3) _ _ _ _)) rfl ?_
  exact ⟨rfl, by rw [hb]; exact set4_below (unhide HB3) (Nat.le_refl _) _ _ _ _⟩

/-- A record was read. -/
def Readd (w : World) (X : Sto) (w' : World) : Prop := Step w X w' { X with rd := X.rd + 1 }

set_option maxHeartbeats 1000000 in
set_option maxRecDepth 100000 in
theorem edgeS {a : EdgeV} (i : Nat) (h : StAt w X) (hi : X.ps[i]? = some (a, true)) (hr0 : 0 ≤ X.rd) (hr1 : X.rd ≤ 1000000000) :
    Calls Tryz.prog 73 #[.pointer (some ⟨X.s, 0, none⟩), .int .i64 ((i : Int) + 1)] w fun r w' => r = .returned (.tuple #[.agg #[.int .i64 a.1, .int .i64 a.2.1, .int .i64 a.2.2.1, .int .u32 a.2.2.2], .int .i64 0]) ∧ Hid (Readd w X w') := by
  have hb0 : Below w.heap.size w (w.alloc o34) := (Below.refl _ _).alloc (Nat.le_refl _) _
  have H0 := h.mem.below hb0
  obtain ⟨c0, -, -, -, -⟩ := H0.cells
  have CT := hide (atYesE i (w.alloc o34) H0.tab hi)
  have hsz : (w.alloc o34).heap.size = w.heap.size + 1 := by simp
  have hLb : X.L w.heap.size = none := h.mem.new (Nat.le_refl _)
  have hwr : IntKind.i64.wrap (X.rd + 1) = X.rd + 1 := by rw [IntKind.wrap_i64]; omega
  have HW : Hid (∀ w2, Below (w.alloc o34).heap.size (w.alloc o34) w2 → (w2.alloc (oE a)).cell? ⟨X.s, 2, none⟩ = some (.int .i64 X.rd) ∧ (∀ o, (w2.alloc (oE a)).frozen? ⟨X.s, o, none⟩ = false) ∧ ((w2.alloc (oE a)).setCell ⟨X.s, 2, none⟩ (.int .i64 (X.rd + 1))).heap[w.heap.size]? = some o34 ∧ ((w2.alloc (oE a)).setCell ⟨X.s, 2, none⟩ (.int .i64 (X.rd + 1))).heap[w2.heap.size]? = some (oE a) ∧ w.heap.size < w2.heap.size ∧ ∀ x0 x1 x2 x3, Readd w X (Go.Proofs.YtagibmgbjhemkaaGreat.set4 ((w2.alloc (oE a)).setCell ⟨X.s, 2, none⟩ (.int .i64 (X.rd + 1))) w.heap.size x0 x1 x2 x3)) := fun w2 hb2 => by
    have hs2 := hb2.size
    have hb3 : Below w2.heap.size w2 (w2.alloc (oE a)) := (Below.refl _ _).alloc (Nat.le_refl _) _
    have hB : Below w.heap.size w (w2.alloc (oE a)) := (hb0.trans (hb2.mono (by omega))).trans (hb3.mono (by omega))
    have H3 := h.mem.below hB
    obtain ⟨-, -, c2, -, cf⟩ := H3.cells
    obtain ⟨z1, z2⟩ := H3.rdTurn (X.rd + 1)
    have hsl := h.mem.lt X.s (by rw [h.mem.lbox]; simp)
    refine ⟨c2, cf, ?_, ?_, by omega, fun x0 x1 x2 x3 => ?_⟩
    · rw [heap_setCell_other _ _ _ _ (by show w.heap.size ≠ X.s; omega)]
      exact (heap_alloc_old w2 _ (by omega)).trans ((hb2.block _ (by omega)).trans (heap_alloc_new _ _))
    · rw [heap_setCell_other _ _ _ _ (by show w2.heap.size ≠ X.s; omega)]
      exact heap_alloc_new _ _
    · have : Step w X ((w2.alloc (oE a)).setCell ⟨X.s, 2, none⟩ (.int .i64 (X.rd + 1))) { X with rd := X.rd + 1 } := ⟨⟨z1, h.edge, h.size⟩, rfl, (Foots.below X.L hB).trans z2⟩
      exact this.set4 hLb (Nat.le_refl _) _ _ _ _
  generalize X.s = s at *
  generalize X.t = t at *
  generalize X.rd = rd at *
  clear h hi H0 hb0 hsz hLb hr0 hr1
  go_enter Tryz.func73, Tryz.ntmps73
  go_upto_region 1 with fail
  change Code.wp _ _ _ _ (w.alloc o34)
  generalize w.alloc o34 = w1 at *
  generalize hb : w.heap.size = b at *
  go_wp2_with fail
  refine (unhide CT).mono ?_
  rintro r w2 ⟨rfl, hb2⟩
  obtain ⟨d2, df, j1, j2, j3, HR⟩ := unhide HW w2 hb2
  have HRR := hide HR
  have HJ := hide (And.intro j1 (And.intro j2 j3))
  clear CT hb2 HW HR j1 j2 j3 c0
  go_upto_region 2 with fail
  change Code.wp _ _ _ _ (w2.alloc (oE a))
  generalize w2.alloc (oE a) = w3 at *
  generalize w2.heap.size = b2 at *
  go_upto_region 5 with fail
  generalize w3.setCell ⟨s, 2, none⟩ (.int .i64 (rd + 1)) = w4 at *
  obtain ⟨j1, j2, j3⟩ := unhide HJ
  have HJ1 := hide j1
  obtain ⟨x0, x1, x2, x3, -⟩ := box_cells j2
  obtain ⟨g0, g1, g2, g3, gf⟩ := cells34 j1
  have hne : ¬ b = b2 := by omega
  have hne2 : ¬ b2 = b := fun e => hne e.symm
  clear j1 j2 j3 HJ d2 df
  go_wp2_with fail
  (try simp only [Exit.inBlock, Exit.then])
  change bodyPost _ _ _ _ _ (Go.Proofs.YtagibmgbjhemkaaGreat.set4 w4 b _ _ _ _)
  refine bodyPost_ret (resE rfl _ _ b _ _ _ _ rfl (set4_at (unhide HJ1) _ _ _ _)) rfl ?_
  exact ⟨rfl, unhide HRR _ _ _ _⟩
end
end Go.Proofs.YtagibmgbjhemkaaGreat
