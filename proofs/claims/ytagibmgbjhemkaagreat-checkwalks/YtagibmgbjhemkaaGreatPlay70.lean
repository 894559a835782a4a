/- Play: what asks. -/
import Derived.Test.YtagibmgbjhemkaaGreatTellsW7
namespace Go.Proofs.YtagibmgbjhemkaaGreat

section
open Go.RowKit Go.Maps
def oOp (kd A B E : Int) (b : Int) : Obj := .cells #[.int .i64 kd, .int .i64 A, .int .i64 B, .int .i64 E, .int .u32 b] 75 (0, 0)
theorem cellsOp {w : World} {p : Nat} {kd A B E b : Int} (h : w.heap[p]? = some (oOp kd A B E b)) : w.cell? ⟨p, 0, none⟩ = some (.int .i64 kd) ∧ w.cell? ⟨p, 1, none⟩ = some (.int .i64 A) ∧ w.cell? ⟨p, 2, none⟩ = some (.int .i64 B) ∧ w.cell? ⟨p, 3, none⟩ = some (.int .i64 E) ∧ w.cell? ⟨p, 4, none⟩ = some (.int .u32 b) :=
  ⟨(cell_of_row _ _ 0 _ _ (0, 0) h).trans rfl, (cell_of_row _ _ 1 _ _ (0, 0) h).trans rfl, (cell_of_row _ _ 2 _ _ (0, 0) h).trans rfl, (cell_of_row _ _ 3 _ _ (0, 0) h).trans rfl, (cell_of_row _ _ 4 _ _ (0, 0) h).trans rfl⟩
theorem box_set4 {w : World} {bb b2 : Nat} {vv ev : Value} {rd wr : Int} (h : w.cell? ⟨bb, 0, none⟩ = some vv ∧ w.cell? ⟨bb, 1, none⟩ = some ev ∧ w.cell? ⟨bb, 2, none⟩ = some (.int .i64 rd) ∧ w.cell? ⟨bb, 3, none⟩ = some (.int .i64 wr)) (hne : bb ≠ b2) (a b c d : Value) :
    (set4 w b2 a b c d).cell? ⟨bb, 0, none⟩ = some vv ∧ (set4 w b2 a b c d).cell? ⟨bb, 1, none⟩ = some ev ∧ (set4 w b2 a b c d).cell? ⟨bb, 2, none⟩ = some (.int .i64 rd) ∧ (set4 w b2 a b c d).cell? ⟨bb, 3, none⟩ = some (.int .i64 wr) := by
  have e : ∀ o, (set4 w b2 a b c d).cell? ⟨bb, o, none⟩ = w.cell? ⟨bb, o, none⟩ := fun o => cell_of_heap (x := ⟨bb, o, none⟩) (set4_other hne _ _ _ _)
  rw [e, e, e, e]; exact h
theorem foots_put {w W W' : World} {L L' : Nat → Option Who} {p : Nat} (h : Foots w L W L') (hp : w.heap.size ≤ p) (hk : ∀ b, b ≠ p → W'.heap[b]? = W.heap[b]?) (ho : W'.os = W.os) (ht : W'.tape = W.tape) (hu : W'.output = W.output) (hs : W.heap.size ≤ W'.heap.size) : Foots w L W' L' :=
  ⟨⟨ho.trans h.1.os, ht.trans h.1.tape, hu.trans h.1.output, Nat.le_trans h.1.size hs, fun k hk' hn => (hk k (by omega)).trans (h.1.block k hk' hn)⟩, h.2⟩
structure PM (w : World) (X : Sto) (bb : Nat) (o : Obj) (gv : Obj) (Y : Sto) (W : World) : Prop where
  b0 : W.heap[bb]? = some gv
  b1 : W.heap[bb + 1]? = some o
  b2 : W.heap[bb + 2]? = some oZ
  l0 : Y.L bb = none
  l1 : Y.L (bb + 1) = none
  l2 : Y.L (bb + 2) = none
  s : Y.s = X.s
  ft : Foots w X.L W Y.L
  ge : w.heap.size ≤ bb
theorem PM.below {w W W' : World} {X Y : Sto} {bb : Nat} {o : Obj} {gv : Obj} (h : PM w X bb o gv Y W) (hb : Below W.heap.size W W') : PM w X bb o gv Y W' :=
  ⟨(hb.block _ (Array.getElem?_eq_some_iff.1 h.b0).1).trans h.b0, (hb.block _ (Array.getElem?_eq_some_iff.1 h.b1).1).trans h.b1, (hb.block _ (Array.getElem?_eq_some_iff.1 h.b2).1).trans h.b2, h.l0, h.l1, h.l2, h.s, h.ft.trans (Foots.below _ hb), h.ge⟩
section
variable [Inhabited EntI] {n : Nat} {w W W' : World} {X Y Y' : Sto} {g g' : Gr} {vv ev vv' ev' : Value} {vs vs' : List Int} {es es' : List EdgeV} {bb : Nat} {o : Obj}
theorem Game.below (h : Game n X g vv ev vs es w) (hb : Below w.heap.size w W) : Game n X g vv ev vs es W :=
  ⟨h.st.below hb, h.sh, h.rel, h.bnd, h.few, nrow_below h.vrow hb, grow_below h.erow hb, h.vfr, h.efr⟩
theorem Game.put (h : Game n X g vv ev vs es w) {p : Nat} (hp : X.L p = none) (hv : vv.ownBlock ≠ some p) (he : ev.ownBlock ≠ some p) (hk : ∀ b, b ≠ p → W.heap[b]? = w.heap[b]?) (hs : w.heap.size ≤ W.heap.size) : Game n X g vv ev vs es W :=
  ⟨h.st.kept (fun b hb => hk b (fun e => hb (by rw [e]; exact hp))) hs, h.sh, h.rel, h.bnd, h.few, nrow_kept h.vrow (fun b hb => hk b (fun e => hv (by rw [← e]; exact hb))), grow_kept h.erow (fun b hb => hk b (fun e => he (by rw [← e]; exact hb))), h.vfr, h.efr⟩
theorem PM.start (h : Game n X g vv ev vs es w) (o : Obj) : PM w X w.heap.size o (oG vv ev g.rd g.wr) X (((w.alloc (oG vv ev g.rd g.wr)).alloc o).alloc oZ) ∧ Game n X g vv ev vs es (((w.alloc (oG vv ev g.rd g.wr)).alloc o).alloc oZ) := by
  have h1 : (w.alloc (oG vv ev g.rd g.wr)).heap.size = w.heap.size + 1 := by simp
  have h2 : ((w.alloc (oG vv ev g.rd g.wr)).alloc o).heap.size = w.heap.size + 2 := by simp
  have hb : Below w.heap.size w (((w.alloc (oG vv ev g.rd g.wr)).alloc o).alloc oZ) := ((below_new w _).trans ((below_new _ _).mono (by omega))).trans ((below_new _ _).mono (by omega))
  refine ⟨⟨(heap_alloc_old _ _ (by omega)).trans ((heap_alloc_old _ _ (by omega)).trans (heap_alloc_new _ _)), (heap_alloc_old _ _ (by omega)).trans ?_, ?_, h.st.mem.new (Nat.le_refl _), h.st.mem.new (by omega), h.st.mem.new (by omega), rfl, Foots.below _ hb, Nat.le_refl _⟩, h.below hb⟩
  · have := heap_alloc_new (w.alloc (oG vv ev g.rd g.wr)) o
    rwa [h1] at this
  · have := heap_alloc_new ((w.alloc (oG vv ev g.rd g.wr)).alloc o) oZ
    rwa [h2] at this
theorem PM.step {gv : Obj} (h : PM w X bb o gv Y W) (hS : Step W Y W' Y') : PM w X bb o gv Y' W' := by
  obtain ⟨-, hs, hF⟩ := hS; have a0 := hF.old (Array.getElem?_eq_some_iff.1 h.b0).1 h.l0; have a1 := hF.old (Array.getElem?_eq_some_iff.1 h.b1).1 h.l1; have a2 := hF.old (Array.getElem?_eq_some_iff.1 h.b2).1 h.l2; exact ⟨a0.1.trans h.b0, a1.1.trans h.b1, a2.1.trans h.b2, a0.2, a1.2, a2.2, hs.trans h.s, h.ft.trans hF, h.ge⟩
def ES (n : Nat) (w : World) (X : Sto) (bb : Nat) (g' : Gr) (vv' ev' : Value) (W : World) : Prop :=
  ∃ Y vs' es', Game n Y g' vv' ev' vs' es' W ∧ Y.s = X.s ∧ Foots w X.L W Y.L ∧ W.heap[bb]? = some (oG vv' ev' g'.rd g'.wr) ∧ W.heap[bb + 2]? = some oZ ∧ Y.L (bb + 2) = none ∧ w.heap.size ≤ bb
def PlayAns (n : Nat) (w : World) (X : Sto) (e : Ending) (w' : World) : Prop :=
  ∃ va vn vc ea en ec, ∃ g' : Gr, e = .returned (.tuple #[.agg #[.slice va vn vc, .slice ea en ec, .int .i64 g'.rd, .int .i64 g'.wr], .bool true]) ∧ ∃ X' vs' es', Game n X' g' (.slice va vn vc) (.slice ea en ec) vs' es' w' ∧ X'.s = X.s ∧ Foots w X.L w' X'.L
theorem es_of (hP : PM w X bb o (oG vv ev g.rd g.wr) Y W) (hn : n + 1 ≤ 1000) (hst : StAt W Y) (hsh : Shows Y g') (hvf : ∀ b, vv.ownBlock = some b → Y.L b = none) (hef : ∀ b, ev.ownBlock = some b → Y.L b = none)
    (hN : Nx (n + 1) g' vs' es') (r1 : NRow W' vv' vs') (r2 : GRow 0 W' ev' es') (hb : Below W.heap.size W W') (p1 : Apt W vv vv') (p2 : Apt W ev ev') :
    (W'.cell? ⟨bb, 0, none⟩ = some vv ∧ W'.cell? ⟨bb, 1, none⟩ = some ev ∧ W'.cell? ⟨bb, 2, none⟩ = some (.int .i64 g.rd) ∧ W'.cell? ⟨bb, 3, none⟩ = some (.int .i64 g.wr) ∧ ∀ o, W'.frozen? ⟨bb, o, none⟩ = false) ∧ ES (n + 1) w X bb g' vv' ev' (set4 W' bb vv' ev' (.int .i64 g'.rd) (.int .i64 g'.wr)) := by
  have hP2 := hP.below hb; refine ⟨cellsG hP2.b0, Y, vs', es', ?_, hP2.s, foots_put hP2.ft hP2.ge (fun b hb => set4_other hb _ _ _ _) rfl rfl rfl (by rw [set4_size]; exact Nat.le_refl _), set4G_at hP2.b0 _ _ _ _, (set4_other (by omega) _ _ _ _).trans hP2.b2, hP2.l2, hP2.ge⟩
  have g1 : Game (n + 1) Y g' vv' ev' vs' es' W' := by
    refine ⟨hst.below hb, hsh, hN.1, hN.2, (by omega), r1, r2, fun b hb' => ?_, fun b hb' => ?_⟩
    · rcases p1 b hb' with e | e
      · exact hvf b e
      · exact hst.mem.new e
    · rcases p2 b hb' with e | e
      · exact hef b e
      · exact hst.mem.new e
  exact g1.put hP2.l0 (nrow_ne r1 hP2.b0) (grow_ne r2 hP2.b0) (fun b hb => set4_other hb _ _ _ _) (by rw [set4_size]; exact Nat.le_refl _)
theorem es_same (hP : PM w X bb o (oG vv ev g.rd g.wr) X W) (hG : Game n X g vv ev vs es W) (hn : n + 1 ≤ 1000) : ES (n + 1) w X bb g vv ev W :=
  ⟨X, vs, es, ⟨hG.st, hG.sh, hG.rel, hG.bnd.up (Nat.le_succ n), (by omega), hG.vrow, hG.erow, hG.vfr, hG.efr⟩, hP.s, hP.ft, hP.b0, hP.b2, hP.l2, hP.ge⟩
theorem ES.below (h : ES n w X bb g vv ev W) (hb : Below W.heap.size W W') : ES n w X bb g vv ev W' := by
  obtain ⟨Y, vs', es', h1, h2, h3, h4, h5, h6, h7⟩ := h; exact ⟨Y, vs', es', h1.below hb, h2, h3.trans (Foots.below _ hb), (hb.block _ (Array.getElem?_eq_some_iff.1 h4).1).trans h4, (hb.block _ (Array.getElem?_eq_some_iff.1 h5).1).trans h5, h6, h7⟩
theorem ES.reads (h : ES n w X bb g vv ev W) : Calls Tryz.prog 10 #[.pointer (some ⟨X.s, 0, none⟩)] W fun e w' => e = .returned (.int .i64 g.rd) ∧ w' = W := by
  obtain ⟨Y, vs', es', h1, h2, -⟩ := h; rw [← h2, ← h1.sh.rd]; exact readsS h1.st
theorem ES.writes (h : ES n w X bb g vv ev W) : Calls Tryz.prog 15 #[.pointer (some ⟨X.s, 0, none⟩)] W fun e w' => e = .returned (.int .i64 g.wr) ∧ w' = W := by
  obtain ⟨Y, vs', es', h1, h2, -⟩ := h; rw [← h2, ← h1.sh.wr]; exact writesS h1.st
theorem ES.cells (h : ES n w X bb g vv ev W) : W.cell? ⟨bb, 0, none⟩ = some vv ∧ W.cell? ⟨bb, 1, none⟩ = some ev ∧ W.cell? ⟨bb, 2, none⟩ = some (.int .i64 g.rd) ∧ W.cell? ⟨bb, 3, none⟩ = some (.int .i64 g.wr) := by
  obtain ⟨Y, vs', es', h1, h2, h3, h4, -⟩ := h; obtain ⟨c0, c1, c2, c3, -⟩ := cellsG h4; exact ⟨c0, c1, c2, c3⟩
theorem ES.res (h : ES n w X bb g vv ev W) : W.heap[bb + 2]? = some oZ := by
  obtain ⟨Y, vs', es', h1, h2, h3, h4, h5, -⟩ := h; exact h5
theorem ES.fin (h : ES n w X bb g vv ev W) (a b c d : Value) : ∃ X' vs' es', Game n X' g vv ev vs' es' (set4 W (bb + 2) a b c d) ∧ X'.s = X.s ∧ Foots w X.L (set4 W (bb + 2) a b c d) X'.L := by
  obtain ⟨Y, vs', es', h1, h2, h3, h4, h5, h6, h7⟩ := h; refine ⟨Y, vs', es', h1.put h6 (nrow_ne (b := bb + 2) (vv := .slice none 0 0) (ev := .slice none 0 0) (rd := 0) (wr := 0) h1.vrow h5) (grow_ne (b := bb + 2) (vv := .slice none 0 0) (ev := .slice none 0 0) (rd := 0) (wr := 0) h1.erow h5) (fun b hb => set4_other hb _ _ _ _) (by rw [set4_size]; exact Nat.le_refl _), h2, foots_put h3 (p := bb + 2) (by omega) (fun b hb => set4_other hb _ _ _ _) rfl rfl rfl (by rw [set4_size]; exact Nat.le_refl _)⟩
end
end

section
open Go.RowKit Go.Maps
structure AS [Inhabited EntI] (w : World) (X : Sto) (bb : Nat) (o : Obj) (g : Gr) (vv ev : Value) (vs : List Int) (es : List EdgeV) (kp : Nat) (ko : Obj) (g' : Gr) (Y : Sto) (W : World) : Prop where
  pm : PM w X bb o (oG vv ev g.rd g.wr) Y W
  st : StAt W Y
  sh : Shows Y g'
  vrow : NRow W vv vs
  erow : GRow 0 W ev es
  vfr : ∀ b, vv.ownBlock = some b → Y.L b = none
  efr : ∀ b, ev.ownBlock = some b → Y.L b = none
  kb : W.heap[kp]? = some ko
  kl : Y.L kp = none
section
variable [Inhabited EntI] {n : Nat} {w wb W W' w1 : World} {X Y : Sto} {g g' : Gr} {vv ev : Value} {vs vs' : List Int} {es es' : List EdgeV} {bb kp : Nat} {o ko : Obj}
theorem AS.of (hP : PM w X bb o (oG vv ev g.rd g.wr) X wb) (hG : Game n X g vv ev vs es wb) (hk : wb.heap[kp]? = some ko) (hl : X.L kp = none) {Y : Sto} (hS : Step wb X w1 Y) (hsh : Shows Y g') : AS w X bb o g vv ev vs es kp ko g' Y w1 := by
  obtain ⟨r1, r2, r3, r4⟩ := hG.store hS; have hk2 := hS.2.2.old (Array.getElem?_eq_some_iff.1 hk).1 hl; exact ⟨hP.step hS, hS.1, hsh, r1, r2, r3, r4, hk2.1.trans hk, hk2.2⟩
theorem AS.boxG (h : AS w X bb o g vv ev vs es kp ko g' Y w1) : (w1.cell? ⟨bb, 0, none⟩ = some vv ∧ w1.cell? ⟨bb, 1, none⟩ = some ev ∧ w1.cell? ⟨bb, 2, none⟩ = some (.int .i64 g.rd) ∧ w1.cell? ⟨bb, 3, none⟩ = some (.int .i64 g.wr)) := by
  obtain ⟨c0, c1, c2, c3, -⟩ := cellsG h.pm.b0; exact ⟨c0, c1, c2, c3⟩
theorem AS.ans (h : AS w X bb o g vv ev vs es kp ko g' Y W) (_hG : Game n X g vv ev vs es wb) (hn : n + 1 ≤ 1000) (hN : Nx (n + 1) g' vs' es') {vv' ev' : Value} (r1 : NRow W' vv' vs') (r2 : GRow 0 W' ev' es') (hb : Below W.heap.size W W') (p1 : Apt W vv vv') (p2 : Apt W ev ev') :
    (W'.cell? ⟨bb, 0, none⟩ = some vv ∧ W'.cell? ⟨bb, 1, none⟩ = some ev ∧ W'.cell? ⟨bb, 2, none⟩ = some (.int .i64 g.rd) ∧ W'.cell? ⟨bb, 3, none⟩ = some (.int .i64 g.wr) ∧ ∀ o, W'.frozen? ⟨bb, o, none⟩ = false) ∧ ES (n + 1) w X bb g' vv' ev' (set4 W' bb vv' ev' (.int .i64 g'.rd) (.int .i64 g'.wr)) :=
  es_of h.pm hn h.st h.sh h.vfr h.efr hN r1 r2 hb p1 p2
theorem cAddV {kd A B E b : Int} (hP : PM w X bb (oOp kd A B E b) (oG vv ev g.rd g.wr) X wb) (hG : Game n X g vv ev vs es wb) (hn : n + 1 ≤ 1000) :
    ∃ (c : Int) (g' : Gr), Calls Tryz.prog 31 #[.pointer (some ⟨X.s, 0, none⟩), .int .i64 A] wb fun e w1 => e = .returned (.int .i64 c) ∧ (w1.cell? ⟨bb, 0, none⟩ = some vv ∧ w1.cell? ⟨bb, 1, none⟩ = some ev ∧ w1.cell? ⟨bb, 2, none⟩ = some (.int .i64 g.rd) ∧ w1.cell? ⟨bb, 3, none⟩ = some (.int .i64 g.wr)) ∧ (w1.cell? ⟨bb + 1, 0, none⟩ = some (.int .i64 kd) ∧ w1.cell? ⟨bb + 1, 1, none⟩ = some (.int .i64 A) ∧ w1.cell? ⟨bb + 1, 2, none⟩ = some (.int .i64 B) ∧ w1.cell? ⟨bb + 1, 3, none⟩ = some (.int .i64 E) ∧ w1.cell? ⟨bb + 1, 4, none⟩ = some (.int .u32 b)) ∧ Hid (Calls Tryz.prog 63 #[.agg #[vv, ev, .int .i64 g.rd, .int .i64 g.wr], .int .i64 A] w1 fun e w2 => ∃ (a1 : Option Addr) (m1 q1 : Nat) (a2 : Option Addr) (m2 q2 : Nat), e = .returned (.tuple #[.agg #[.slice a1 m1 q1, .slice a2 m2 q2, .int .i64 g'.rd, .int .i64 g'.wr], .int .i64 c]) ∧ (w2.cell? ⟨bb, 0, none⟩ = some vv ∧ w2.cell? ⟨bb, 1, none⟩ = some ev ∧ w2.cell? ⟨bb, 2, none⟩ = some (.int .i64 g.rd) ∧ w2.cell? ⟨bb, 3, none⟩ = some (.int .i64 g.wr) ∧ ∀ o, w2.frozen? ⟨bb, o, none⟩ = false) ∧ Hid (ES (n + 1) w X bb g' (.slice a1 m1 q1) (.slice a2 m2 q2) (set4 w2 bb (.slice a1 m1 q1) (.slice a2 m2 q2) (.int .i64 g'.rd) (.int .i64 g'.wr)))) := by
  obtain ⟨c, g', hS, hR⟩ := pairAddV hG A; refine ⟨c, g', hS.mono ?_⟩
  rintro e w1 ⟨rfl, hh⟩
  obtain ⟨Y, hst, hsh⟩ := unhide hh; have hA := AS.of hP hG hP.b1 hP.l1 hst hsh; refine ⟨rfl, hA.boxG, cellsOp hA.pm.b1, (hR w1 hA.vrow hA.erow).mono ?_⟩
  rintro e w2 hh2
  obtain ⟨vs', es', hN, vv', ev', rfl, r1, r2, hb, p1, p2⟩ := unhide hh2; obtain ⟨a1, m1, q1, rfl⟩ := tSlice r1; obtain ⟨a2, m2, q2, rfl⟩ := grow_shape r2; obtain ⟨z1, z2⟩ := hA.ans hG hn hN r1 r2 hb p1 p2; exact ⟨a1, m1, q1, a2, m2, q2, rfl, z1, z2⟩
theorem cAddE {kd A B E b : Int} (hP : PM w X bb (oOp kd A B E b) (oG vv ev g.rd g.wr) X wb) (hG : Game n X g vv ev vs es wb) (hn : n + 1 ≤ 1000) (hA : okN A) (hB : okN B) (hb0 : 0 ≤ b) :
    ∃ (m c : Int) (g' : Gr), Calls Tryz.prog 67 #[.pointer (some ⟨X.s, 0, none⟩), .int .i64 A, .int .i64 B, .int .u32 b] wb fun e w1 => e = .returned (.tuple #[.int .i64 m, .int .i64 c]) ∧ (w1.cell? ⟨bb, 0, none⟩ = some vv ∧ w1.cell? ⟨bb, 1, none⟩ = some ev ∧ w1.cell? ⟨bb, 2, none⟩ = some (.int .i64 g.rd) ∧ w1.cell? ⟨bb, 3, none⟩ = some (.int .i64 g.wr)) ∧ (w1.cell? ⟨bb + 1, 0, none⟩ = some (.int .i64 kd) ∧ w1.cell? ⟨bb + 1, 1, none⟩ = some (.int .i64 A) ∧ w1.cell? ⟨bb + 1, 2, none⟩ = some (.int .i64 B) ∧ w1.cell? ⟨bb + 1, 3, none⟩ = some (.int .i64 E) ∧ w1.cell? ⟨bb + 1, 4, none⟩ = some (.int .u32 b)) ∧ Hid (Calls Tryz.prog 68 #[.agg #[vv, ev, .int .i64 g.rd, .int .i64 g.wr], .int .i64 A, .int .i64 B, .int .u32 b] w1 fun e w2 => ∃ (a1 : Option Addr) (m1 q1 : Nat) (a2 : Option Addr) (m2 q2 : Nat), e = .returned (.tuple #[.agg #[.slice a1 m1 q1, .slice a2 m2 q2, .int .i64 g'.rd, .int .i64 g'.wr], .int .i64 m, .int .i64 c]) ∧ (w2.cell? ⟨bb, 0, none⟩ = some vv ∧ w2.cell? ⟨bb, 1, none⟩ = some ev ∧ w2.cell? ⟨bb, 2, none⟩ = some (.int .i64 g.rd) ∧ w2.cell? ⟨bb, 3, none⟩ = some (.int .i64 g.wr) ∧ ∀ o, w2.frozen? ⟨bb, o, none⟩ = false) ∧ Hid (ES (n + 1) w X bb g' (.slice a1 m1 q1) (.slice a2 m2 q2) (set4 w2 bb (.slice a1 m1 q1) (.slice a2 m2 q2) (.int .i64 g'.rd) (.int .i64 g'.wr)))) := by
  obtain ⟨m, c, g', hS, hR⟩ := pairAddE hG A B b hA hB hb0; refine ⟨m, c, g', hS.mono ?_⟩
  rintro e w1 ⟨rfl, hh⟩
  obtain ⟨Y, hst, hsh⟩ := unhide hh; have hA := AS.of hP hG hP.b1 hP.l1 hst hsh; refine ⟨rfl, hA.boxG, cellsOp hA.pm.b1, (hR w1 hA.vrow hA.erow).mono ?_⟩
  rintro e w2 hh2
  obtain ⟨vs', es', hN, vv', ev', rfl, r1, r2, hb, p1, p2⟩ := unhide hh2; obtain ⟨a1, m1, q1, rfl⟩ := tSlice r1; obtain ⟨a2, m2, q2, rfl⟩ := grow_shape r2; obtain ⟨z1, z2⟩ := hA.ans hG hn hN r1 r2 hb p1 p2; exact ⟨a1, m1, q1, a2, m2, q2, rfl, z1, z2⟩
theorem cRew {kd A B E b : Int} (hP : PM w X bb (oOp kd A B E b) (oG vv ev g.rd g.wr) X wb) (hG : Game n X g vv ev vs es wb) (hn : n + 1 ≤ 1000) (hb0 : 0 ≤ b) :
    ∃ (m c : Int) (g' : Gr), Calls Tryz.prog 71 #[.pointer (some ⟨X.s, 0, none⟩), .int .i64 E, .int .u32 b] wb fun e w1 => e = .returned (.tuple #[.int .u32 m, .int .i64 c]) ∧ (w1.cell? ⟨bb, 0, none⟩ = some vv ∧ w1.cell? ⟨bb, 1, none⟩ = some ev ∧ w1.cell? ⟨bb, 2, none⟩ = some (.int .i64 g.rd) ∧ w1.cell? ⟨bb, 3, none⟩ = some (.int .i64 g.wr)) ∧ (w1.cell? ⟨bb + 1, 0, none⟩ = some (.int .i64 kd) ∧ w1.cell? ⟨bb + 1, 1, none⟩ = some (.int .i64 A) ∧ w1.cell? ⟨bb + 1, 2, none⟩ = some (.int .i64 B) ∧ w1.cell? ⟨bb + 1, 3, none⟩ = some (.int .i64 E) ∧ w1.cell? ⟨bb + 1, 4, none⟩ = some (.int .u32 b)) ∧ Hid (Calls Tryz.prog 72 #[.agg #[vv, ev, .int .i64 g.rd, .int .i64 g.wr], .int .i64 E, .int .u32 b] w1 fun e w2 => ∃ (a1 : Option Addr) (m1 q1 : Nat) (a2 : Option Addr) (m2 q2 : Nat), e = .returned (.tuple #[.agg #[.slice a1 m1 q1, .slice a2 m2 q2, .int .i64 g'.rd, .int .i64 g'.wr], .int .u32 m, .int .i64 c]) ∧ (w2.cell? ⟨bb, 0, none⟩ = some vv ∧ w2.cell? ⟨bb, 1, none⟩ = some ev ∧ w2.cell? ⟨bb, 2, none⟩ = some (.int .i64 g.rd) ∧ w2.cell? ⟨bb, 3, none⟩ = some (.int .i64 g.wr) ∧ ∀ o, w2.frozen? ⟨bb, o, none⟩ = false) ∧ Hid (ES (n + 1) w X bb g' (.slice a1 m1 q1) (.slice a2 m2 q2) (set4 w2 bb (.slice a1 m1 q1) (.slice a2 m2 q2) (.int .i64 g'.rd) (.int .i64 g'.wr)))) := by
  obtain ⟨m, c, g', hS, hR⟩ := pairRew hG E b hb0; refine ⟨m, c, g', hS.mono ?_⟩
  rintro e w1 ⟨rfl, hh⟩
  obtain ⟨Y, hst, hsh⟩ := unhide hh; have hA := AS.of hP hG hP.b1 hP.l1 hst hsh; refine ⟨rfl, hA.boxG, cellsOp hA.pm.b1, (hR w1 hA.vrow hA.erow).mono ?_⟩
  rintro e w2 hh2
  obtain ⟨vs', es', hN, vv', ev', rfl, r1, r2, hb, p1, p2⟩ := unhide hh2; obtain ⟨a1, m1, q1, rfl⟩ := tSlice r1; obtain ⟨a2, m2, q2, rfl⟩ := grow_shape r2; obtain ⟨z1, z2⟩ := hA.ans hG hn hN r1 r2 hb p1 p2; exact ⟨a1, m1, q1, a2, m2, q2, rfl, z1, z2⟩
theorem cPutE {kd A B E b : Int} (hP : PM w X bb (oOp kd A B E b) (oG vv ev g.rd g.wr) X wb) (hG : Game n X g vv ev vs es wb) (hn : n + 1 ≤ 1000) (hA : okN A) (hB : okN B) (hb0 : 0 ≤ b) :
    ∃ (c : Int) (g' : Gr), Calls Tryz.prog 32 #[.pointer (some ⟨X.s, 0, none⟩), .agg #[.int .i64 E, .int .i64 A, .int .i64 B, .int .u32 b]] (wb.alloc (oX (E, A, B, b))) fun e w1 => e = .returned (.int .i64 c) ∧ (w1.cell? ⟨bb, 0, none⟩ = some vv ∧ w1.cell? ⟨bb, 1, none⟩ = some ev ∧ w1.cell? ⟨bb, 2, none⟩ = some (.int .i64 g.rd) ∧ w1.cell? ⟨bb, 3, none⟩ = some (.int .i64 g.wr)) ∧ (w1.cell? ⟨wb.heap.size, 0, none⟩ = some (.int .i64 E) ∧ w1.cell? ⟨wb.heap.size, 1, none⟩ = some (.int .i64 A) ∧ w1.cell? ⟨wb.heap.size, 2, none⟩ = some (.int .i64 B) ∧ w1.cell? ⟨wb.heap.size, 3, none⟩ = some (.int .u32 b)) ∧ Hid (Calls Tryz.prog 69 #[.agg #[vv, ev, .int .i64 g.rd, .int .i64 g.wr], .agg #[.int .i64 E, .int .i64 A, .int .i64 B, .int .u32 b]] w1 fun e w2 => ∃ (a1 : Option Addr) (m1 q1 : Nat) (a2 : Option Addr) (m2 q2 : Nat), e = .returned (.tuple #[.agg #[.slice a1 m1 q1, .slice a2 m2 q2, .int .i64 g'.rd, .int .i64 g'.wr], .int .i64 c]) ∧ (w2.cell? ⟨bb, 0, none⟩ = some vv ∧ w2.cell? ⟨bb, 1, none⟩ = some ev ∧ w2.cell? ⟨bb, 2, none⟩ = some (.int .i64 g.rd) ∧ w2.cell? ⟨bb, 3, none⟩ = some (.int .i64 g.wr) ∧ ∀ o, w2.frozen? ⟨bb, o, none⟩ = false) ∧ Hid (ES (n + 1) w X bb g' (.slice a1 m1 q1) (.slice a2 m2 q2) (set4 w2 bb (.slice a1 m1 q1) (.slice a2 m2 q2) (.int .i64 g'.rd) (.int .i64 g'.wr)))) := by
  have hb1 := below_new wb (oX (E, A, B, b)); have hP1 := hP.below hb1; have hG1 := hG.below hb1; obtain ⟨c, g', hS, hR⟩ := pairPutE hG1 E A B b hA hB hb0; refine ⟨c, g', hS.mono ?_⟩
  rintro e w1 ⟨rfl, hh⟩
  obtain ⟨Y, hst, hsh⟩ := unhide hh; have hA := AS.of (kp := wb.heap.size) hP1 hG1 (heap_alloc_new wb (oX (E, A, B, b))) (hG.st.mem.new (Nat.le_refl _)) hst hsh; obtain ⟨k0, k1, k2, k3, -⟩ := cellsX hA.kb; refine ⟨rfl, hA.boxG, ⟨k0, k1, k2, k3⟩, (hR w1 hA.vrow hA.erow).mono ?_⟩
  rintro e w2 hh2
  obtain ⟨vs', es', hN, vv', ev', rfl, r1, r2, hb, p1, p2⟩ := unhide hh2; obtain ⟨a1, m1, q1, rfl⟩ := tSlice r1; obtain ⟨a2, m2, q2, rfl⟩ := grow_shape r2; obtain ⟨z1, z2⟩ := hA.ans hG hn hN r1 r2 hb p1 p2; exact ⟨a1, m1, q1, a2, m2, q2, rfl, z1, z2⟩
theorem cDropV {kd A B E b : Int} (hP : PM w X bb (oOp kd A B E b) (oG vv ev g.rd g.wr) X wb) (hG : Game n X g vv ev vs es wb) (hn : n + 1 ≤ 1000) (hA : okN A) :
    ∃ (c : Int) (g' : Gr), Calls Tryz.prog 64 #[.pointer (some ⟨X.s, 0, none⟩), .int .i64 A] wb fun e w1 => ∃ (a0 : Option Addr) (m0 q0 : Nat), e = .returned (.tuple #[.slice a0 m0 q0, .int .i64 c]) ∧ (w1.cell? ⟨bb, 0, none⟩ = some vv ∧ w1.cell? ⟨bb, 1, none⟩ = some ev ∧ w1.cell? ⟨bb, 2, none⟩ = some (.int .i64 g.rd) ∧ w1.cell? ⟨bb, 3, none⟩ = some (.int .i64 g.wr)) ∧ (w1.cell? ⟨bb + 1, 0, none⟩ = some (.int .i64 kd) ∧ w1.cell? ⟨bb + 1, 1, none⟩ = some (.int .i64 A) ∧ w1.cell? ⟨bb + 1, 2, none⟩ = some (.int .i64 B) ∧ w1.cell? ⟨bb + 1, 3, none⟩ = some (.int .i64 E) ∧ w1.cell? ⟨bb + 1, 4, none⟩ = some (.int .u32 b)) ∧ Hid (Calls Tryz.prog 65 #[.agg #[vv, ev, .int .i64 g.rd, .int .i64 g.wr], .int .i64 A] w1 fun e w2 => ∃ (a3 : Option Addr) (m3 q3 : Nat), ∃ (a1 : Option Addr) (m1 q1 : Nat) (a2 : Option Addr) (m2 q2 : Nat), e = .returned (.tuple #[.agg #[.slice a1 m1 q1, .slice a2 m2 q2, .int .i64 g'.rd, .int .i64 g'.wr], .slice a3 m3 q3, .int .i64 c]) ∧ (w2.cell? ⟨bb, 0, none⟩ = some vv ∧ w2.cell? ⟨bb, 1, none⟩ = some ev ∧ w2.cell? ⟨bb, 2, none⟩ = some (.int .i64 g.rd) ∧ w2.cell? ⟨bb, 3, none⟩ = some (.int .i64 g.wr) ∧ ∀ o, w2.frozen? ⟨bb, o, none⟩ = false) ∧ Hid (ES (n + 1) w X bb g' (.slice a1 m1 q1) (.slice a2 m2 q2) (set4 w2 bb (.slice a1 m1 q1) (.slice a2 m2 q2) (.int .i64 g'.rd) (.int .i64 g'.wr)) ∧ Calls Tryz.prog 66 #[.slice a0 m0 q0, .slice a3 m3 q3] (set4 w2 bb (.slice a1 m1 q1) (.slice a2 m2 q2) (.int .i64 g'.rd) (.int .i64 g'.wr)) fun e w4 => e = .returned (.bool true) ∧ Hid (ES (n + 1) w X bb g' (.slice a1 m1 q1) (.slice a2 m2 q2) w4))) := by
  obtain ⟨c, g', gs, hgl, hS, hR⟩ := pairDropV hG A hA; refine ⟨c, g', hS.mono ?_⟩
  rintro e w1 ⟨a0, m0, q0, rfl, hh⟩
  obtain ⟨⟨Y, hst, hsh, hlv⟩, hgone⟩ := unhide hh; have hA := AS.of hP hG hP.b1 hP.l1 hst hsh; refine ⟨a0, m0, q0, rfl, hA.boxG, cellsOp hA.pm.b1, (hR w1 hA.vrow hA.erow).mono ?_⟩
  rintro e w2 hh2
  obtain ⟨vs', es', hN, vv', ev', lv, rfl, r1, r2, r3, hb, p1, p2, p3⟩ := unhide hh2; obtain ⟨a1, m1, q1, rfl⟩ := tSlice r1; obtain ⟨a2, m2, q2, rfl⟩ := grow_shape r2; obtain ⟨a3, m3, q3, rfl⟩ := grow_shape r3; obtain ⟨z1, z2⟩ := hA.ans hG hn hN r1 r2 hb p1 p2; refine ⟨a3, m3, q3, a1, m1, q1, a2, m2, q2, rfl, z1, z2, ?_⟩; have hPb := (hA.pm.below hb).b0; have k1 : GRow 0 w2 (.slice a0 m0 q0) gs := grow_below (grow_at0 hgone) hb; have s1 : GRow 0 (set4 w2 bb (.slice a1 m1 q1) (.slice a2 m2 q2) (.int .i64 g'.rd) (.int .i64 g'.wr)) (.slice a0 m0 q0) gs := grow_kept k1 (fun b hb' => set4_other (fun e => grow_ne k1 hPb (by rw [← e]; exact hb')) _ _ _ _)
  have s2 : GRow 0 (set4 w2 bb (.slice a1 m1 q1) (.slice a2 m2 q2) (.int .i64 g'.rd) (.int .i64 g'.wr)) (.slice a3 m3 q3) gs := grow_kept r3 (fun b hb' => set4_other (fun e => grow_ne r3 hPb (by rw [← e]; exact hb')) _ _ _ _)
  refine (refSameE s1 s2 (by omega)).mono ?_
  rintro e w4 ⟨rfl, hl⟩
  exact ⟨by rw [decide_eq_true rfl], z2.below (like_below (unhide hl))⟩
end
end

section
open Go.RowKit Go.Maps
set_option maxHeartbeats 4000000 in
set_option maxRecDepth 100000 in
theorem play0 [Inhabited EntI] {n : Nat} {w : World} {X : Sto} {g : Gr} {vv ev : Value} {vs : List Int} {es : List EdgeV} (h : Game n X g vv ev vs es w) (hn : n + 1 ≤ 1000) (kd A B E b : Int) (_hA : okN A) (_hB : okN B) (_hb0 : 0 ≤ b) (hk : kd ≠ 1 ∧ kd ≠ 2 ∧ kd ≠ 3 ∧ kd ≠ 4 ∧ kd ≠ 5 ∧ kd ≠ 6 ∧ kd ≠ 7) :
    Calls Tryz.prog 30 #[.pointer (some ⟨X.s, 0, none⟩), .agg #[vv, ev, .int .i64 g.rd, .int .i64 g.wr], .agg #[.int .i64 kd, .int .i64 A, .int .i64 B, .int .i64 E, .int .u32 b]] w fun e w' => Hid (PlayAns (n + 1) w X e w') := by
  obtain ⟨hP0, hG0⟩ := PM.start h (oOp kd A B E b); obtain ⟨va, vc, hvv, -⟩ := brow_shape h.vrow; obtain ⟨vn, hvv'⟩ : ∃ vn, vv = .slice va vn vc := ⟨_, hvv⟩; obtain ⟨ea, en, ec, hev⟩ := grow_shape h.erow; clear hvv; subst hvv' hev; have C1 : Calls Tryz.prog 28 #[.pointer (some ⟨X.s, 0, none⟩), .agg #[.slice va vn vc, .slice ea en ec, .int .i64 g.rd, .int .i64 g.wr]] (((w.alloc (oG (.slice va vn vc) (.slice ea en ec) g.rd g.wr)).alloc (oOp kd A B E b)).alloc oZ) fun e w3 => e = .returned (.bool true) ∧ Hid (ES (n + 1) w X w.heap.size g (.slice va vn vc) (.slice ea en ec) w3) := by
    refine (tellsS hG0).mono ?_
    rintro e w3 ⟨rfl, hh⟩
    exact ⟨rfl, (es_same hP0 hG0 hn).below (unhide hh)⟩
  obtain ⟨k1, k2, k3, k4, k5, k6, k7⟩ := hk; have e1 : (kd == 1) = false := by simpa using k1
  have e2 : (kd == 2) = false := by simpa using k2
  have e3 : (kd == 3) = false := by simpa using k3
  have e4 : (kd == 4) = false := by simpa using k4
  have e5 : (kd == 5) = false := by simpa using k5
  have e6 : (kd == 6) = false := by simpa using k6
  have e7 : (kd == 7) = false := by simpa using k7
  have HP0 := hide hP0; obtain ⟨s, hs⟩ : ∃ s, s = X.s := ⟨_, rfl⟩; obtain ⟨rd, hrd⟩ : ∃ rd, rd = g.rd := ⟨_, rfl⟩; obtain ⟨wr_0, hwr⟩ : ∃ wr_0, wr_0 = g.wr := ⟨_, rfl⟩; obtain ⟨bb, hbb⟩ : ∃ bb, bb = w.heap.size := ⟨_, rfl⟩; obtain ⟨c0, c1, c2, c3, -⟩ := cellsG hP0.b0; obtain ⟨o0, o1, o2, o3, o4⟩ := cellsOp hP0.b1; rw [← hs, ← hrd, ← hwr]; rw [← hbb, ← hrd, ← hwr] at c0 c1 c2 c3 o0 o1 o2 o3 o4; have HBB := hide hbb; have HSS := hide hs; have HRW := hide (And.intro hrd hwr); rw [← hs, ← hrd, ← hwr, ← hbb] at C1; have HC1 := hide C1; clear C1; clear hP0 hG0 h hs hrd hwr hbb hn
  go_enter Tryz.func30, Tryz.ntmps30
  go_upto_region 1 with fail
  change Code.wp _ _ _ _ (((w.alloc (oG (.slice va vn vc) (.slice ea en ec) rd wr_0)).alloc (oOp kd A B E b)).alloc oZ); rw [show w.heap.size + 2 = bb + 2 by rw [unhide HBB], show w.heap.size + 1 = bb + 1 by rw [unhide HBB], ← unhide HBB]
  generalize ((w.alloc (oG (.slice va vn vc) (.slice ea en ec) rd wr_0)).alloc (oOp kd A B E b)).alloc oZ = wb at *
  go_wp2_with fail
  refine (unhide HC1).mono ?_
  rintro e w3 ⟨rfl, HES⟩
  clear c0 c1 c2 c3 o0 o1 o2 o3 o4 HC1
  go_upto_region 37 with fail
  have HED := hide ((unhide HES).below (Below.refl w3.heap.size w3).drew); obtain ⟨rd', hrd'⟩ : ∃ rd', rd' = g.rd := ⟨_, rfl⟩; obtain ⟨wr', hwr'⟩ : ∃ wr', wr' = g.wr := ⟨_, rfl⟩; have hc0 := (unhide HED).cells; rw [← hrd', ← hwr'] at hc0; have CR := hide (unhide HED).reads; have CW := hide (unhide HED).writes; rw [← unhide HSS, ← hrd'] at CR; rw [← unhide HSS, ← hwr'] at CW; have hres := (unhide HES).res; obtain ⟨d0, d1, d2, d3, df⟩ := cellsG (vv := .slice none 0 0) (ev := .slice none 0 0) (rd := 0) (wr := 0) hres; have hc3 := (unhide HES).cells; rw [← hrd', ← hwr'] at hc3; have HE1 := hide (drewAt (set4G_at hres (.slice va vn vc) (.slice ea en ec) (.int .i64 rd') (.int .i64 wr'))); have hS21 : ((set4 w3 (bb + 2) (.slice va vn vc) (.slice ea en ec) (.int .i64 rd') (.int .i64 wr')).drew.cell? ⟨bb, 0, none⟩ = some (.slice va vn vc) ∧ (set4 w3 (bb + 2) (.slice va vn vc) (.slice ea en ec) (.int .i64 rd') (.int .i64 wr')).drew.cell? ⟨bb, 1, none⟩ = some (.slice ea en ec) ∧ (set4 w3 (bb + 2) (.slice va vn vc) (.slice ea en ec) (.int .i64 rd') (.int .i64 wr')).drew.cell? ⟨bb, 2, none⟩ = some (.int .i64 rd') ∧ (set4 w3 (bb + 2) (.slice va vn vc) (.slice ea en ec) (.int .i64 rd') (.int .i64 wr')).drew.cell? ⟨bb, 3, none⟩ = some (.int .i64 wr')) := box_set4 hc3 (show bb ≠ bb + 2 by omega) (.slice va vn vc) (.slice ea en ec) (.int .i64 rd') (.int .i64 wr')
  have HFIN : Hid (PlayAns (n + 1) w X (.returned (.tuple #[.agg #[.slice va vn vc, .slice ea en ec, .int .i64 rd', .int .i64 wr'], .bool true])) (set4 w3 (bb + 2) (.slice va vn vc) (.slice ea en ec) (.int .i64 rd') (.int .i64 wr')).drew) := by
    obtain ⟨X', vs', es', f1, f2, f3⟩ := (unhide HES).fin (.slice va vn vc) (.slice ea en ec) (.int .i64 rd') (.int .i64 wr'); have hbd := (Below.refl (set4 w3 (bb + 2) (.slice va vn vc) (.slice ea en ec) (.int .i64 rd') (.int .i64 wr')).heap.size (set4 w3 (bb + 2) (.slice va vn vc) (.slice ea en ec) (.int .i64 rd') (.int .i64 wr'))).drew; refine ⟨_, _, _, _, _, _, g, by rw [hrd', hwr'], X', vs', es', f1.below hbd, f2, f3.trans (Foots.below _ hbd)⟩
  unfold set4 at hS21; clear hrd' hwr' HES HED hres hc3; refine wp_region_noPanic ?_; refine regionL [] (fun y => (y.cell? ⟨bb, 0, none⟩ = some (.slice va vn vc) ∧ y.cell? ⟨bb, 1, none⟩ = some (.slice ea en ec) ∧ y.cell? ⟨bb, 2, none⟩ = some (.int .i64 rd') ∧ y.cell? ⟨bb, 3, none⟩ = some (.int .i64 wr'))) (by kernel_rfl) hc0 (fun hHeld => ?_)
  refine takeN 0 172 rfl ?_
  (try simp only [sl])
  refine takeN 1 173 rfl ?_
  (try simp only [sl])
  refine takeN 2 174 rfl ?_
  (try simp only [sl])
  refine takeN 3 175 rfl ?_
  (try simp only [sl])
  refine takeN 4 176 rfl ?_
  (try simp only [sl])
  refine takeN 5 177 rfl ?_
  (try simp only [sl])
  refine takeN 6 178 rfl ?_
  (try simp only [sl])
  refine takeN 7 179 rfl ?_
  (try simp only [sl])
  refine takeN 8 180 rfl ?_
  (try simp only [sl])
  refine takeN 10 182 rfl ?_
  (try simp only [sl])
  refine takeN 11 183 rfl ?_
  (try simp only [sl])
  refine readyL (i := 9) (by kernel_rfl) rfl (fun K hK => ?_)
  go_simp
  refine (unhide CR).mono ?_
  rintro e w4 ⟨rfl, rfl⟩
  (try dsimp only)
  refine hK.out _ _ (fun _ => hc0) ?_
  clear hK K
  (try simp only [sl])
  have hH4 := hc0; refine takeN 12 184 rfl ?_
  (try simp only [sl])
  refine takeN 13 185 rfl ?_
  (try simp only [sl])
  refine takeN 14 186 rfl ?_
  (try simp only [sl])
  refine takeN 15 187 rfl ?_
  (try simp only [sl])
  refine takeN 17 189 rfl ?_
  (try simp only [sl])
  refine takeN 18 190 rfl ?_
  (try simp only [sl])
  refine readyL (i := 16) (by kernel_rfl) rfl (fun K hK => ?_)
  go_simp
  refine (unhide CW).mono ?_
  rintro e w5 ⟨rfl, rfl⟩
  (try dsimp only)
  refine hK.out _ _ (fun _ => hc0) ?_
  clear hK K
  (try simp only [sl])
  have hH7 := hc0; refine takeN 19 191 rfl ?_
  (try simp only [sl])
  refine takeN 20 192 rfl ?_
  (try simp only [sl])
  refine readyL (i := 21) (by kernel_rfl) rfl (fun K hK => ?_)
  go_simp
  refine hK.out _ _ (fun _ => hS21) ?_
  clear hK K
  (try simp only [sl])
  have hH10 := hS21; refine takeN 22 7 rfl ?_
  (try simp only [sl])
  refine doneL (by kernel_rfl) ?_ _
  refine NoPanic.normal ?_
  go_wp2_with fail
  (try simp only [Exit.inBlock, Exit.then])
  change bodyPost _ _ _ _ _ (set4 w3 (bb + 2) (.slice va vn vc) (.slice ea en ec) (.int .i64 rd') (.int .i64 wr')).drew; have e1 := unhide HE1; generalize (set4 w3 (bb + 2) (.slice va vn vc) (.slice ea en ec) (.int .i64 rd') (.int .i64 wr')).drew = w9 at *; clear HE1 hS21 hc0 d0 d1 d2 d3 df; refine bodyPost_ret (resG rfl _ _ (bb + 2) _ _ _ _ rfl e1) rfl ?_; exact unhide HFIN
end

end Go.Proofs.YtagibmgbjhemkaaGreat
