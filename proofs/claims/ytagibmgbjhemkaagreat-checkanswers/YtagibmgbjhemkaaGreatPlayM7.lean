/- A call of Play: its memory. -/
import Derived.Test.YtagibmgbjhemkaaGreatTellsW7
namespace Go.Proofs.YtagibmgbjhemkaaGreat
open Go.RowKit Go.Maps

/-- The box of a call. -/
def oOp (kd A B E : Int) (b : Int) : Obj := .cells #[.int .i64 kd, .int .i64 A, .int .i64 B, .int .i64 E, .int .u32 b] 75 (0, 0)
theorem cellsOp {w : World} {p : Nat} {kd A B E b : Int} (h : w.heap[p]? = some (oOp kd A B E b)) : w.cell? ⟨p, 0, none⟩ = some (.int .i64 kd) ∧ w.cell? ⟨p, 1, none⟩ = some (.int .i64 A) ∧ w.cell? ⟨p, 2, none⟩ = some (.int .i64 B) ∧ w.cell? ⟨p, 3, none⟩ = some (.int .i64 E) ∧ w.cell? ⟨p, 4, none⟩ = some (.int .u32 b) :=
  ⟨(cell_of_row _ _ 0 _ _ (0, 0) h).trans rfl, (cell_of_row _ _ 1 _ _ (0, 0) h).trans rfl, (cell_of_row _ _ 2 _ _ (0, 0) h).trans rfl, (cell_of_row _ _ 3 _ _ (0, 0) h).trans rfl, (cell_of_row _ _ 4 _ _ (0, 0) h).trans rfl⟩

theorem box_set4 {w : World} {bb b2 : Nat} {vv ev : Value} {rd wr : Int} (h : w.cell? ⟨bb, 0, none⟩ = some vv ∧ w.cell? ⟨bb, 1, none⟩ = some ev ∧ w.cell? ⟨bb, 2, none⟩ = some (.int .i64 rd) ∧ w.cell? ⟨bb, 3, none⟩ = some (.int .i64 wr)) (hne : bb ≠ b2) (a b c d : Value) :
    (set4 w b2 a b c d).cell? ⟨bb, 0, none⟩ = some vv ∧ (set4 w b2 a b c d).cell? ⟨bb, 1, none⟩ = some ev ∧ (set4 w b2 a b c d).cell? ⟨bb, 2, none⟩ = some (.int .i64 rd) ∧ (set4 w b2 a b c d).cell? ⟨bb, 3, none⟩ = some (.int .i64 wr) := by
  have e : ∀ o, (set4 w b2 a b c d).cell? ⟨bb, o, none⟩ = w.cell? ⟨bb, o, none⟩ := fun o => cell_of_heap (x := ⟨bb, o, none⟩) (set4_other hne _ _ _ _)
  rw [e, e, e, e]; exact h

theorem foots_put {w W W' : World} {L L' : Nat → Option Who} {p : Nat} (h : Foots w L W L') (hp : w.heap.size ≤ p) (hk : ∀ b, b ≠ p → W'.heap[b]? = W.heap[b]?) (ho : W'.os = W.os) (ht : W'.tape = W.tape) (hu : W'.output = W.output) (hs : W.heap.size ≤ W'.heap.size) : Foots w L W' L' :=
  ⟨⟨ho.trans h.1.os, ht.trans h.1.tape, hu.trans h.1.output, Nat.le_trans h.1.size hs, fun k hk' hn => (hk k (by omega)).trans (h.1.block k hk' hn)⟩, h.2⟩

/-- Amid a call of Play: the three boxes, beside the store Y. -/
structure PM (w : World) (X : Sto) (bb : Nat) (o : Obj) (gv : Obj) (Y : Sto) (W : World) : Prop where
  b0 : W.heap[bb]? = some gv
  b1 : W.heap[bb + 1]? = some o
  b2 : W.heap[bb + 2]? = some oZ
  l0 : Y.L bb = none
  l1 : Y.L (bb + 1) = none
  l2 : Y.L (bb + 2) = none
  s : Y.s = X.s
  ft : Foots w X.L W Y.L
  ge : w.heap.size ≤ bb
theorem PM.below {w W W' : World} {X Y : Sto} {bb : Nat} {o : Obj} {gv : Obj} (h : PM w X bb o gv Y W) (hb : Below W.heap.size W W') : PM w X bb o gv Y W' :=
  ⟨(hb.block _ (Array.getElem?_eq_some_iff.1 h.b0).1).trans h.b0, (hb.block _ (Array.getElem?_eq_some_iff.1 h.b1).1).trans h.b1, (hb.block _ (Array.getElem?_eq_some_iff.1 h.b2).1).trans h.b2, h.l0, h.l1, h.l2, h.s, h.ft.trans (Foots.below _ hb), h.ge⟩

section
variable [Inhabited EntI] {n : Nat} {w W W' : World} {X Y Y' : Sto} {g g' : Gr} {vv ev vv' ev' : Value} {vs vs' : List Int} {es es' : List EdgeV} {bb : Nat} {o : Obj}

/-- What is the same behind calls that only make memory. -/
theorem Game.below (h : Game n X g vv ev vs es w) (hb : Below w.heap.size w W) : Game n X g vv ev vs es W :=
  ⟨h.st.below hb, h.sh, h.rel, h.bnd, h.few, nrow_below h.vrow hb, grow_below h.erow hb, h.vfr, h.efr⟩
/-- A block is written that is neither the store's nor the lists'. -/
theorem Game.put (h : Game n X g vv ev vs es w) {p : Nat} (hp : X.L p = none) (hv : vv.ownBlock ≠ some p) (he : ev.ownBlock ≠ some p) (hk : ∀ b, b ≠ p → W.heap[b]? = w.heap[b]?) (hs : w.heap.size ≤ W.heap.size) : Game n X g vv ev vs es W :=
  ⟨h.st.kept (fun b hb => hk b (fun e => hb (by rw [e]; exact hp))) hs, h.sh, h.rel, h.bnd, h.few, nrow_kept h.vrow (fun b hb => hk b (fun e => hv (by rw [← e]; exact hb))), grow_kept h.erow (fun b hb => hk b (fun e => he (by rw [← e]; exact hb))), h.vfr, h.efr⟩

theorem PM.start (h : Game n X g vv ev vs es w) (o : Obj) : PM w X w.heap.size o (oG vv ev g.rd g.wr) X (((w.alloc (oG vv ev g.rd g.wr)).alloc o).alloc oZ) ∧ Game n X g vv ev vs es (((w.alloc (oG vv ev g.rd g.wr)).alloc o).alloc oZ) := by
  have h1 : (w.alloc (oG vv ev g.rd g.wr)).heap.size = w.heap.size + 1 := by simp
  have h2 : ((w.alloc (oG vv ev g.rd g.wr)).alloc o).heap.size = w.heap.size + 2 := by simp
  have hb : Below w.heap.size w (((w.alloc (oG vv ev g.rd g.wr)).alloc o).alloc oZ) := ((below_new w _).trans ((below_new _ _).mono (by omega))).trans ((below_new _ _).mono (by omega))
  refine ⟨⟨(heap_alloc_old _ _ (by omega)).trans ((heap_alloc_old _ _ (by omega)).trans (heap_alloc_new _ _)), (heap_alloc_old _ _ (by omega)).trans ?_, ?_, h.st.mem.new (Nat.le_refl _), h.st.mem.new (by omega), h.st.mem.new (by omega), rfl, Foots.below _ hb, Nat.le_refl _⟩, h.below hb⟩
  · have := heap_alloc_new (w.alloc (oG vv ev g.rd g.wr)) o
    rwa [h1] at this
  · have := heap_alloc_new ((w.alloc (oG vv ev g.rd g.wr)).alloc o) oZ
    rwa [h2] at this
theorem PM.step {gv : Obj} (h : PM w X bb o gv Y W) (hS : Step W Y W' Y') : PM w X bb o gv Y' W' := by
  obtain ⟨-, hs, hF⟩ := hS
  have a0 := hF.old (Array.getElem?_eq_some_iff.1 h.b0).1 h.l0
  have a1 := hF.old (Array.getElem?_eq_some_iff.1 h.b1).1 h.l1
  have a2 := hF.old (Array.getElem?_eq_some_iff.1 h.b2).1 h.l2
  exact ⟨a0.1.trans h.b0, a1.1.trans h.b1, a2.1.trans h.b2, a0.2, a1.2, a2.2, hs.trans h.s, h.ft.trans hF, h.ge⟩
/-- Ahead of Play's last region. -/
def ES (n : Nat) (w : World) (X : Sto) (bb : Nat) (g' : Gr) (vv' ev' : Value) (W : World) : Prop :=
  ∃ Y vs' es', Game n Y g' vv' ev' vs' es' W ∧ Y.s = X.s ∧ Foots w X.L W Y.L ∧ W.heap[bb]? = some (oG vv' ev' g'.rd g'.wr) ∧ W.heap[bb + 2]? = some oZ ∧ Y.L (bb + 2) = none ∧ w.heap.size ≤ bb
/-- What Play answers. -/
def PlayAns (n : Nat) (w : World) (X : Sto) (e : Ending) (w' : World) : Prop :=
  ∃ va vn vc ea en ec, ∃ g' : Gr, e = .returned (.tuple #[.agg #[.slice va vn vc, .slice ea en ec, .int .i64 g'.rd, .int .i64 g'.wr], .bool true]) ∧ ∃ X' vs' es', Game n X' g' (.slice va vn vc) (.slice ea en ec) vs' es' w' ∧ X'.s = X.s ∧ Foots w X.L w' X'.L

/-- Behind both calls: the new graph is put into its box. -/
theorem es_of (hP : PM w X bb o (oG vv ev g.rd g.wr) Y W) (hn : n + 1 ≤ 1000) (hst : StAt W Y) (hsh : Shows Y g') (hvf : ∀ b, vv.ownBlock = some b → Y.L b = none) (hef : ∀ b, ev.ownBlock = some b → Y.L b = none)
    (hN : Nx (n + 1) g' vs' es') (r1 : NRow W' vv' vs') (r2 : GRow 0 W' ev' es') (hb : Below W.heap.size W W') (p1 : Apt W vv vv') (p2 : Apt W ev ev') :
    (W'.cell? ⟨bb, 0, none⟩ = some vv ∧ W'.cell? ⟨bb, 1, none⟩ = some ev ∧ W'.cell? ⟨bb, 2, none⟩ = some (.int .i64 g.rd) ∧ W'.cell? ⟨bb, 3, none⟩ = some (.int .i64 g.wr) ∧ ∀ o, W'.frozen? ⟨bb, o, none⟩ = false) ∧ ES (n + 1) w X bb g' vv' ev' (set4 W' bb vv' ev' (.int .i64 g'.rd) (.int .i64 g'.wr)) := by
  have hP2 := hP.below hb
  refine ⟨cellsG hP2.b0, Y, vs', es', ?_, hP2.s, foots_put hP2.ft hP2.ge (fun b hb => set4_other hb _ _ _ _) rfl rfl rfl (by rw [set4_size]; exact Nat.le_refl _), set4G_at hP2.b0 _ _ _ _, (set4_other (by omega) _ _ _ _).trans hP2.b2, hP2.l2, hP2.ge⟩
  have g1 : Game (n + 1) Y g' vv' ev' vs' es' W' := by
    refine ⟨hst.below hb, hsh, hN.1, hN.2, (by omega), r1, r2, fun b hb' => ?_, fun b hb' => ?_⟩
    · rcases p1 b hb' with e | e
      · exact hvf b e
      · exact hst.mem.new e
    · rcases p2 b hb' with e | e
      · exact hef b e
      · exact hst.mem.new e
  exact g1.put hP2.l0 (nrow_ne r1 hP2.b0) (grow_ne r2 hP2.b0) (fun b hb => set4_other hb _ _ _ _) (by rw [set4_size]; exact Nat.le_refl _)
/-- Ahead of the last region where nothing is put: what asks alone. -/
theorem es_same (hP : PM w X bb o (oG vv ev g.rd g.wr) X W) (hG : Game n X g vv ev vs es W) (hn : n + 1 ≤ 1000) : ES (n + 1) w X bb g vv ev W :=
  ⟨X, vs, es, ⟨hG.st, hG.sh, hG.rel, hG.bnd.up (Nat.le_succ n), (by omega), hG.vrow, hG.erow, hG.vfr, hG.efr⟩, hP.s, hP.ft, hP.b0, hP.b2, hP.l2, hP.ge⟩
theorem ES.below (h : ES n w X bb g vv ev W) (hb : Below W.heap.size W W') : ES n w X bb g vv ev W' := by
  obtain ⟨Y, vs', es', h1, h2, h3, h4, h5, h6, h7⟩ := h
  exact ⟨Y, vs', es', h1.below hb, h2, h3.trans (Foots.below _ hb), (hb.block _ (Array.getElem?_eq_some_iff.1 h4).1).trans h4, (hb.block _ (Array.getElem?_eq_some_iff.1 h5).1).trans h5, h6, h7⟩
theorem ES.reads (h : ES n w X bb g vv ev W) : Calls Tryz.prog 10 #[.pointer (some ⟨X.s, 0, none⟩)] W fun e w' => e = .returned (.int .i64 g.rd) ∧ w' = W := by
  obtain ⟨Y, vs', es', h1, h2, -⟩ := h
  rw [← h2, ← h1.sh.rd]; exact readsS h1.st
theorem ES.writes (h : ES n w X bb g vv ev W) : Calls Tryz.prog 15 #[.pointer (some ⟨X.s, 0, none⟩)] W fun e w' => e = .returned (.int .i64 g.wr) ∧ w' = W := by
  obtain ⟨Y, vs', es', h1, h2, -⟩ := h
  rw [← h2, ← h1.sh.wr]; exact writesS h1.st
theorem ES.cells (h : ES n w X bb g vv ev W) : W.cell? ⟨bb, 0, none⟩ = some vv ∧ W.cell? ⟨bb, 1, none⟩ = some ev ∧ W.cell? ⟨bb, 2, none⟩ = some (.int .i64 g.rd) ∧ W.cell? ⟨bb, 3, none⟩ = some (.int .i64 g.wr) := by
  obtain ⟨Y, vs', es', h1, h2, h3, h4, -⟩ := h
  obtain ⟨c0, c1, c2, c3, -⟩ := cellsG h4
  exact ⟨c0, c1, c2, c3⟩
theorem ES.res (h : ES n w X bb g vv ev W) : W.heap[bb + 2]? = some oZ := by
  obtain ⟨Y, vs', es', h1, h2, h3, h4, h5, -⟩ := h
  exact h5
theorem ES.fin (h : ES n w X bb g vv ev W) (a b c d : Value) : ∃ X' vs' es', Game n X' g vv ev vs' es' (set4 W (bb + 2) a b c d) ∧ X'.s = X.s ∧ Foots w X.L (set4 W (bb + 2) a b c d) X'.L := by
  obtain ⟨Y, vs', es', h1, h2, h3, h4, h5, h6, h7⟩ := h
  refine ⟨Y, vs', es', h1.put h6 (nrow_ne (b := bb + 2) (vv := .slice none 0 0) (ev := .slice none 0 0) (rd := 0) (wr := 0) h1.vrow h5) (grow_ne (b := bb + 2) (vv := .slice none 0 0) (ev := .slice none 0 0) (rd := 0) (wr := 0) h1.erow h5) (fun b hb => set4_other hb _ _ _ _) (by rw [set4_size]; exact Nat.le_refl _), h2, foots_put h3 (p := bb + 2) (by omega) (fun b hb => set4_other hb _ _ _ _) rfl rfl rfl (by rw [set4_size]; exact Nat.le_refl _)⟩
end
end Go.Proofs.YtagibmgbjhemkaaGreat
