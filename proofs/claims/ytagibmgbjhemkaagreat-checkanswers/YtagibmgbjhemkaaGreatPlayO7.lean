/- Play: DropEdge and Edge, whose records lie in boxes. -/
import Derived.Test.YtagibmgbjhemkaaGreatPlayN7
namespace Go.Proofs.YtagibmgbjhemkaaGreat
open Go.RowKit Go.Maps

theorem grow_lt_ne {w : World} {B : Nat} {v : Value} {gs : List EdgeV} (h : GRow B w v gs) {p : Nat} (hp : w.heap.size ≤ p) : v.ownBlock ≠ some p := fun e => by have := (h.lt p e).2; omega
theorem nrow_lt_ne {w : World} {v : Value} {gs : List Int} (h : NRow w v gs) {p : Nat} (hp : w.heap.size ≤ p) : v.ownBlock ≠ some p := fun e => by have := (h.lt p e).2; omega
section
variable [Inhabited EntI] {n : Nat} {w wb W W' w1 : World} {X Y : Sto} {g g' : Gr} {vv ev : Value} {vs vs' : List Int} {es es' : List EdgeV} {bb kp : Nat} {o ko : Obj}

theorem AS.set (h : AS w X bb o g vv ev vs es kp ko g' Y W) (h0 : Game n X g vv ev vs es w) {p : Nat} (hp : Y.L p = none) (hge : bb + 2 < p) (hk : p ≠ kp) (hbb : w.heap.size ≤ bb) (a b c d : Value) : AS w X bb o g vv ev vs es kp ko g' Y (set4 W p a b c d) := by
  have ot : ∀ k, k ≠ p → (set4 W p a b c d).heap[k]? = W.heap[k]? := fun k hk => set4_other hk _ _ _ _
  refine ⟨⟨(ot _ (by omega)).trans h.pm.b0, (ot _ (by omega)).trans h.pm.b1, (ot _ (by omega)).trans h.pm.b2, h.pm.l0, h.pm.l1, h.pm.l2, h.pm.s, foots_put h.pm.ft (p := p) (by omega) ot rfl rfl rfl (by rw [set4_size]; exact Nat.le_refl _), h.pm.ge⟩, h.st.kept (fun k hk => ot k (fun e => hk (by rw [e]; exact hp))) (by rw [set4_size]; exact Nat.le_refl _), h.sh, nrow_kept h.vrow (fun k hk => ot k (fun e => nrow_lt_ne h0.vrow (p := p) (by omega) (by rw [← e]; exact hk))), grow_kept h.erow (fun k hk => ot k (fun e => grow_lt_ne h0.erow (p := p) (by omega) (by rw [← e]; exact hk))), h.vfr, h.efr, (ot _ (fun e => hk e.symm)).trans h.kb, h.kl⟩
/-- Ahead of the last region, with a block beside. -/
def ES2 (n : Nat) (w : World) (X : Sto) (bb : Nat) (g' : Gr) (vv' ev' : Value) (kp : Nat) (W : World) : Prop :=
  ∃ Y vs' es', Game n Y g' vv' ev' vs' es' W ∧ Y.s = X.s ∧ Foots w X.L W Y.L ∧ W.heap[bb]? = some (oG vv' ev' g'.rd g'.wr) ∧ W.heap[bb + 2]? = some oZ ∧ Y.L (bb + 2) = none ∧ w.heap.size ≤ bb ∧ Y.L kp = none
theorem es_of2 {vv' ev' : Value} (hP : PM w X bb o (oG vv ev g.rd g.wr) Y W) (hn : n + 1 ≤ 1000) (hst : StAt W Y) (hsh : Shows Y g') (hvf : ∀ b, vv.ownBlock = some b → Y.L b = none) (hef : ∀ b, ev.ownBlock = some b → Y.L b = none)
    (hN : Nx (n + 1) g' vs' es') (r1 : NRow W' vv' vs') (r2 : GRow 0 W' ev' es') (hb : Below W.heap.size W W') (p1 : Apt W vv vv') (p2 : Apt W ev ev') (hk : Y.L kp = none) :
    ES2 (n + 1) w X bb g' vv' ev' kp (set4 W' bb vv' ev' (.int .i64 g'.rd) (.int .i64 g'.wr)) := by
  have hP2 := hP.below hb
  refine ⟨Y, vs', es', ?_, hP2.s, foots_put hP2.ft hP2.ge (fun b hb => set4_other hb _ _ _ _) rfl rfl rfl (by rw [set4_size]; exact Nat.le_refl _), set4G_at hP2.b0 _ _ _ _, (set4_other (by omega) _ _ _ _).trans hP2.b2, hP2.l2, hP2.ge, hk⟩
  have g1 : Game (n + 1) Y g' vv' ev' vs' es' W' := by
    refine ⟨hst.below hb, hsh, hN.1, hN.2, (by omega), r1, r2, fun b hb' => ?_, fun b hb' => ?_⟩
    · rcases p1 b hb' with e | e
      · exact hvf b e
      · exact hst.mem.new e
    · rcases p2 b hb' with e | e
      · exact hef b e
      · exact hst.mem.new e
  exact g1.put hP2.l0 (nrow_ne r1 hP2.b0) (grow_ne r2 hP2.b0) (fun b hb => set4_other hb _ _ _ _) (by rw [set4_size]; exact Nat.le_refl _)
theorem es_put2 {vv' ev' : Value} {p : Nat} (hE : ES2 n w X bb g' vv' ev' p W) (hv : vv'.ownBlock ≠ some p) (he : ev'.ownBlock ≠ some p) (hge : bb + 2 < p) (a b c d : Value) : ES n w X bb g' vv' ev' (set4 W p a b c d) := by
  obtain ⟨Y, vs', es', h1, h2, h3, h4, h5, h6, h7, h8⟩ := hE
  have ot : ∀ k, k ≠ p → (set4 W p a b c d).heap[k]? = W.heap[k]? := fun k hk => set4_other hk _ _ _ _
  exact ⟨Y, vs', es', h1.put h8 hv he ot (by rw [set4_size]; exact Nat.le_refl _), h2, foots_put h3 (p := p) (by omega) ot rfl rfl rfl (by rw [set4_size]; exact Nat.le_refl _), (ot _ (by omega)).trans h4, (ot _ (by omega)).trans h5, h6, h7⟩

theorem cDropE {kd A B E b : Int} (h0 : Game n X g vv ev vs es w) (hP : PM w X bb (oOp kd A B E b) (oG vv ev g.rd g.wr) X wb) (hG : Game n X g vv ev vs es wb) (hn : n + 1 ≤ 1000) (p : Nat) (hp : p = wb.heap.size) :
    ∃ (x : EdgeV) (c : Int) (g' : Gr), Calls Tryz.prog 26 #[.pointer (some ⟨X.s, 0, none⟩), .int .i64 E] ((wb.alloc o34).alloc o34) fun e w1 => e = .returned (.tuple #[.agg #[.int .i64 x.1, .int .i64 x.2.1, .int .i64 x.2.2.1, .int .u32 x.2.2.2], .int .i64 c]) ∧ (w1.cell? ⟨p, 0, none⟩ = some (.int .i64 0) ∧ w1.cell? ⟨p, 1, none⟩ = some (.int .i64 0) ∧ w1.cell? ⟨p, 2, none⟩ = some (.int .i64 0) ∧ w1.cell? ⟨p, 3, none⟩ = some (.int .u32 0) ∧ ∀ o, w1.frozen? ⟨p, o, none⟩ = false) ∧ (((set4 w1 p (.int .i64 x.1) (.int .i64 x.2.1) (.int .i64 x.2.2.1) (.int .u32 x.2.2.2)).cell? ⟨bb, 0, none⟩ = some vv ∧ (set4 w1 p (.int .i64 x.1) (.int .i64 x.2.1) (.int .i64 x.2.2.1) (.int .u32 x.2.2.2)).cell? ⟨bb, 1, none⟩ = some ev ∧ (set4 w1 p (.int .i64 x.1) (.int .i64 x.2.1) (.int .i64 x.2.2.1) (.int .u32 x.2.2.2)).cell? ⟨bb, 2, none⟩ = some (.int .i64 g.rd) ∧ (set4 w1 p (.int .i64 x.1) (.int .i64 x.2.1) (.int .i64 x.2.2.1) (.int .u32 x.2.2.2)).cell? ⟨bb, 3, none⟩ = some (.int .i64 g.wr)) ∧ ((set4 w1 p (.int .i64 x.1) (.int .i64 x.2.1) (.int .i64 x.2.2.1) (.int .u32 x.2.2.2)).cell? ⟨bb + 1, 0, none⟩ = some (.int .i64 kd) ∧ (set4 w1 p (.int .i64 x.1) (.int .i64 x.2.1) (.int .i64 x.2.2.1) (.int .u32 x.2.2.2)).cell? ⟨bb + 1, 1, none⟩ = some (.int .i64 A) ∧ (set4 w1 p (.int .i64 x.1) (.int .i64 x.2.1) (.int .i64 x.2.2.1) (.int .u32 x.2.2.2)).cell? ⟨bb + 1, 2, none⟩ = some (.int .i64 B) ∧ (set4 w1 p (.int .i64 x.1) (.int .i64 x.2.1) (.int .i64 x.2.2.1) (.int .u32 x.2.2.2)).cell? ⟨bb + 1, 3, none⟩ = some (.int .i64 E) ∧ (set4 w1 p (.int .i64 x.1) (.int .i64 x.2.1) (.int .i64 x.2.2.1) (.int .u32 x.2.2.2)).cell? ⟨bb + 1, 4, none⟩ = some (.int .u32 b)) ∧ bb + 2 < p) ∧ Hid (Calls Tryz.prog 70 #[.agg #[vv, ev, .int .i64 g.rd, .int .i64 g.wr], .int .i64 E] (set4 w1 p (.int .i64 x.1) (.int .i64 x.2.1) (.int .i64 x.2.2.1) (.int .u32 x.2.2.2)) fun e w2 => ∃ (a1 : Option Addr) (m1 q1 : Nat) (a2 : Option Addr) (m2 q2 : Nat), e = .returned (.tuple #[.agg #[.slice a1 m1 q1, .slice a2 m2 q2, .int .i64 g'.rd, .int .i64 g'.wr], .agg #[.int .i64 x.1, .int .i64 x.2.1, .int .i64 x.2.2.1, .int .u32 x.2.2.2], .int .i64 c]) ∧ (w2.cell? ⟨bb, 0, none⟩ = some vv ∧ w2.cell? ⟨bb, 1, none⟩ = some ev ∧ w2.cell? ⟨bb, 2, none⟩ = some (.int .i64 g.rd) ∧ w2.cell? ⟨bb, 3, none⟩ = some (.int .i64 g.wr) ∧ ∀ o, w2.frozen? ⟨bb, o, none⟩ = false) ∧ (w2.cell? ⟨p + 1, 0, none⟩ = some (.int .i64 0) ∧ w2.cell? ⟨p + 1, 1, none⟩ = some (.int .i64 0) ∧ w2.cell? ⟨p + 1, 2, none⟩ = some (.int .i64 0) ∧ w2.cell? ⟨p + 1, 3, none⟩ = some (.int .u32 0) ∧ ∀ o, w2.frozen? ⟨p + 1, o, none⟩ = false) ∧ Hid (ES (n + 1) w X bb g' (.slice a1 m1 q1) (.slice a2 m2 q2) (set4 (set4 w2 bb (.slice a1 m1 q1) (.slice a2 m2 q2) (.int .i64 g'.rd) (.int .i64 g'.wr)) (p + 1) (.int .i64 x.1) (.int .i64 x.2.1) (.int .i64 x.2.2.1) (.int .u32 x.2.2.2)) ∧ ((set4 (set4 w2 bb (.slice a1 m1 q1) (.slice a2 m2 q2) (.int .i64 g'.rd) (.int .i64 g'.wr)) (p + 1) (.int .i64 x.1) (.int .i64 x.2.1) (.int .i64 x.2.2.1) (.int .u32 x.2.2.2)).cell? ⟨p, 0, none⟩ = some (.int .i64 x.1) ∧ (set4 (set4 w2 bb (.slice a1 m1 q1) (.slice a2 m2 q2) (.int .i64 g'.rd) (.int .i64 g'.wr)) (p + 1) (.int .i64 x.1) (.int .i64 x.2.1) (.int .i64 x.2.2.1) (.int .u32 x.2.2.2)).cell? ⟨p, 1, none⟩ = some (.int .i64 x.2.1) ∧ (set4 (set4 w2 bb (.slice a1 m1 q1) (.slice a2 m2 q2) (.int .i64 g'.rd) (.int .i64 g'.wr)) (p + 1) (.int .i64 x.1) (.int .i64 x.2.1) (.int .i64 x.2.2.1) (.int .u32 x.2.2.2)).cell? ⟨p, 2, none⟩ = some (.int .i64 x.2.2.1) ∧ (set4 (set4 w2 bb (.slice a1 m1 q1) (.slice a2 m2 q2) (.int .i64 g'.rd) (.int .i64 g'.wr)) (p + 1) (.int .i64 x.1) (.int .i64 x.2.1) (.int .i64 x.2.2.1) (.int .u32 x.2.2.2)).cell? ⟨p, 3, none⟩ = some (.int .u32 x.2.2.2)) ∧ ((set4 (set4 w2 bb (.slice a1 m1 q1) (.slice a2 m2 q2) (.int .i64 g'.rd) (.int .i64 g'.wr)) (p + 1) (.int .i64 x.1) (.int .i64 x.2.1) (.int .i64 x.2.2.1) (.int .u32 x.2.2.2)).cell? ⟨p + 1, 0, none⟩ = some (.int .i64 x.1) ∧ (set4 (set4 w2 bb (.slice a1 m1 q1) (.slice a2 m2 q2) (.int .i64 g'.rd) (.int .i64 g'.wr)) (p + 1) (.int .i64 x.1) (.int .i64 x.2.1) (.int .i64 x.2.2.1) (.int .u32 x.2.2.2)).cell? ⟨p + 1, 1, none⟩ = some (.int .i64 x.2.1) ∧ (set4 (set4 w2 bb (.slice a1 m1 q1) (.slice a2 m2 q2) (.int .i64 g'.rd) (.int .i64 g'.wr)) (p + 1) (.int .i64 x.1) (.int .i64 x.2.1) (.int .i64 x.2.2.1) (.int .u32 x.2.2.2)).cell? ⟨p + 1, 2, none⟩ = some (.int .i64 x.2.2.1) ∧ (set4 (set4 w2 bb (.slice a1 m1 q1) (.slice a2 m2 q2) (.int .i64 g'.rd) (.int .i64 g'.wr)) (p + 1) (.int .i64 x.1) (.int .i64 x.2.1) (.int .i64 x.2.2.1) (.int .u32 x.2.2.2)).cell? ⟨p + 1, 3, none⟩ = some (.int .u32 x.2.2.2)))) := by
  have hs0 : (wb.alloc o34).heap.size = wb.heap.size + 1 := by simp
  have hb1 : Below wb.heap.size wb ((wb.alloc o34).alloc o34) := (below_new wb _).trans ((below_new _ _).mono (by omega))
  have hP1 := hP.below hb1
  have hG1 := hG.below hb1
  have e0 : ((wb.alloc o34).alloc o34).heap[p]? = some o34 := by rw [hp]; exact (heap_alloc_old _ _ (by omega)).trans (heap_alloc_new _ _)
  have e1 : ((wb.alloc o34).alloc o34).heap[p + 1]? = some o34 := by
    have := heap_alloc_new (wb.alloc o34) o34
    rw [hs0] at this; rw [hp]; exact this
  have l0 : X.L p = none := hG.st.mem.new (by omega)
  have l1 : X.L (p + 1) = none := hG.st.mem.new (by omega)
  have hbp : bb + 2 < p := by have := (Array.getElem?_eq_some_iff.1 hP.b2).1; omega
  obtain ⟨x, c, g', hS, hR⟩ := pairDropE hG1 E
  refine ⟨x, c, g', hS.mono ?_⟩
  rintro e w1 ⟨rfl, hh⟩
  obtain ⟨Y, hst, hsh⟩ := unhide hh
  have hA := AS.of (kp := p + 1) hP1 hG1 e1 l1 hst hsh
  have k0 := hst.2.2.old (Array.getElem?_eq_some_iff.1 e0).1 l0
  have hx0 := k0.1.trans e0
  have hA1 := hA.set h0 (p := p) k0.2 hbp (by omega) hP.ge (.int .i64 x.1) (.int .i64 x.2.1) (.int .i64 x.2.2.1) (.int .u32 x.2.2.2)
  have hbx : (set4 w1 p (.int .i64 x.1) (.int .i64 x.2.1) (.int .i64 x.2.2.1) (.int .u32 x.2.2.2)).heap[p]? = some (oX x) := set4_at hx0 _ _ _ _
  refine ⟨rfl, cells34 hx0, ⟨hA1.boxG, cellsOp hA1.pm.b1, hbp⟩, (hR (set4 w1 p (.int .i64 x.1) (.int .i64 x.2.1) (.int .i64 x.2.2.1) (.int .u32 x.2.2.2)) hA1.vrow hA1.erow).mono ?_⟩
  rintro e w2 hh2
  obtain ⟨vs', es', hN, vv', ev', rfl, r1, r2, hb, p1, p2⟩ := unhide hh2
  obtain ⟨a1, m1, q1, rfl⟩ := tSlice r1
  obtain ⟨a2, m2, q2, rfl⟩ := grow_shape r2
  obtain ⟨z1, z2⟩ := hA1.ans hG hn hN r1 r2 hb p1 p2
  have f1 : w2.heap[p + 1]? = some o34 := (hb.block _ (Array.getElem?_eq_some_iff.1 hA1.kb).1).trans hA1.kb
  have f0 : w2.heap[p]? = some (oX x) := (hb.block _ (Array.getElem?_eq_some_iff.1 hbx).1).trans hbx
  have g1 : (set4 w2 bb (.slice a1 m1 q1) (.slice a2 m2 q2) (.int .i64 g'.rd) (.int .i64 g'.wr)).heap[p + 1]? = some o34 := (set4_other (by omega) _ _ _ _).trans f1
  have g0 : (set4 w2 bb (.slice a1 m1 q1) (.slice a2 m2 q2) (.int .i64 g'.rd) (.int .i64 g'.wr)).heap[p]? = some (oX x) := (set4_other (by omega) _ _ _ _).trans f0
  have h0' : (set4 (set4 w2 bb (.slice a1 m1 q1) (.slice a2 m2 q2) (.int .i64 g'.rd) (.int .i64 g'.wr)) (p + 1) (.int .i64 x.1) (.int .i64 x.2.1) (.int .i64 x.2.2.1) (.int .u32 x.2.2.2)).heap[p]? = some (oX x) := (set4_other (by omega) _ _ _ _).trans g0
  have h1' : (set4 (set4 w2 bb (.slice a1 m1 q1) (.slice a2 m2 q2) (.int .i64 g'.rd) (.int .i64 g'.wr)) (p + 1) (.int .i64 x.1) (.int .i64 x.2.1) (.int .i64 x.2.2.1) (.int .u32 x.2.2.2)).heap[p + 1]? = some (oX x) := set4_at g1 _ _ _ _
  have hlt : p + 1 < (set4 w1 p (.int .i64 x.1) (.int .i64 x.2.1) (.int .i64 x.2.2.1) (.int .u32 x.2.2.2)).heap.size := (Array.getElem?_eq_some_iff.1 hA1.kb).1
  refine ⟨a1, m1, q1, a2, m2, q2, rfl, z1, cells34 f1, ?_, ⟨(cellsX h0').1, (cellsX h0').2.1, (cellsX h0').2.2.1, (cellsX h0').2.2.2.1⟩, ⟨(cellsX h1').1, (cellsX h1').2.1, (cellsX h1').2.2.1, (cellsX h1').2.2.2.1⟩⟩
  have hw := h0.vrow
  refine es_put2 (es_of2 hA1.pm hn hA1.st hA1.sh hA1.vfr hA1.efr hN r1 r2 hb p1 p2 hA1.kl) (fun e => ?_) (fun e => ?_) (by omega) _ _ _ _
  · rcases p1 _ e with e2 | e2
    · exact nrow_lt_ne h0.vrow (p := p + 1) (by have := hP.ge; omega) e2
    · omega
  · rcases p2 _ e with e2 | e2
    · exact grow_lt_ne h0.erow (p := p + 1) (by have := hP.ge; omega) e2
    · omega

theorem cEdge {kd A B E b : Int} (h0 : Game n X g vv ev vs es w) (hP : PM w X bb (oOp kd A B E b) (oG vv ev g.rd g.wr) X wb) (hG : Game n X g vv ev vs es wb) (hn : n + 1 ≤ 1000) (p : Nat) (hp : p = wb.heap.size) :
    ∃ (x : EdgeV) (c : Int) (g' : Gr), Calls Tryz.prog 73 #[.pointer (some ⟨X.s, 0, none⟩), .int .i64 E] ((wb.alloc o34).alloc o34) fun e w1 => e = .returned (.tuple #[.agg #[.int .i64 x.1, .int .i64 x.2.1, .int .i64 x.2.2.1, .int .u32 x.2.2.2], .int .i64 c]) ∧ (w1.cell? ⟨p, 0, none⟩ = some (.int .i64 0) ∧ w1.cell? ⟨p, 1, none⟩ = some (.int .i64 0) ∧ w1.cell? ⟨p, 2, none⟩ = some (.int .i64 0) ∧ w1.cell? ⟨p, 3, none⟩ = some (.int .u32 0) ∧ ∀ o, w1.frozen? ⟨p, o, none⟩ = false) ∧ (((set4 w1 p (.int .i64 x.1) (.int .i64 x.2.1) (.int .i64 x.2.2.1) (.int .u32 x.2.2.2)).cell? ⟨bb, 0, none⟩ = some vv ∧ (set4 w1 p (.int .i64 x.1) (.int .i64 x.2.1) (.int .i64 x.2.2.1) (.int .u32 x.2.2.2)).cell? ⟨bb, 1, none⟩ = some ev ∧ (set4 w1 p (.int .i64 x.1) (.int .i64 x.2.1) (.int .i64 x.2.2.1) (.int .u32 x.2.2.2)).cell? ⟨bb, 2, none⟩ = some (.int .i64 g.rd) ∧ (set4 w1 p (.int .i64 x.1) (.int .i64 x.2.1) (.int .i64 x.2.2.1) (.int .u32 x.2.2.2)).cell? ⟨bb, 3, none⟩ = some (.int .i64 g.wr)) ∧ ((set4 w1 p (.int .i64 x.1) (.int .i64 x.2.1) (.int .i64 x.2.2.1) (.int .u32 x.2.2.2)).cell? ⟨bb + 1, 0, none⟩ = some (.int .i64 kd) ∧ (set4 w1 p (.int .i64 x.1) (.int .i64 x.2.1) (.int .i64 x.2.2.1) (.int .u32 x.2.2.2)).cell? ⟨bb + 1, 1, none⟩ = some (.int .i64 A) ∧ (set4 w1 p (.int .i64 x.1) (.int .i64 x.2.1) (.int .i64 x.2.2.1) (.int .u32 x.2.2.2)).cell? ⟨bb + 1, 2, none⟩ = some (.int .i64 B) ∧ (set4 w1 p (.int .i64 x.1) (.int .i64 x.2.1) (.int .i64 x.2.2.1) (.int .u32 x.2.2.2)).cell? ⟨bb + 1, 3, none⟩ = some (.int .i64 E) ∧ (set4 w1 p (.int .i64 x.1) (.int .i64 x.2.1) (.int .i64 x.2.2.1) (.int .u32 x.2.2.2)).cell? ⟨bb + 1, 4, none⟩ = some (.int .u32 b)) ∧ bb + 2 < p) ∧ Hid (Calls Tryz.prog 74 #[.agg #[vv, ev, .int .i64 g.rd, .int .i64 g.wr], .int .i64 E] (set4 w1 p (.int .i64 x.1) (.int .i64 x.2.1) (.int .i64 x.2.2.1) (.int .u32 x.2.2.2)) fun e w2 => ∃ (a1 : Option Addr) (m1 q1 : Nat) (a2 : Option Addr) (m2 q2 : Nat), e = .returned (.tuple #[.agg #[.slice a1 m1 q1, .slice a2 m2 q2, .int .i64 g'.rd, .int .i64 g'.wr], .agg #[.int .i64 x.1, .int .i64 x.2.1, .int .i64 x.2.2.1, .int .u32 x.2.2.2], .int .i64 c]) ∧ (w2.cell? ⟨bb, 0, none⟩ = some vv ∧ w2.cell? ⟨bb, 1, none⟩ = some ev ∧ w2.cell? ⟨bb, 2, none⟩ = some (.int .i64 g.rd) ∧ w2.cell? ⟨bb, 3, none⟩ = some (.int .i64 g.wr) ∧ ∀ o, w2.frozen? ⟨bb, o, none⟩ = false) ∧ (w2.cell? ⟨p + 1, 0, none⟩ = some (.int .i64 0) ∧ w2.cell? ⟨p + 1, 1, none⟩ = some (.int .i64 0) ∧ w2.cell? ⟨p + 1, 2, none⟩ = some (.int .i64 0) ∧ w2.cell? ⟨p + 1, 3, none⟩ = some (.int .u32 0) ∧ ∀ o, w2.frozen? ⟨p + 1, o, none⟩ = false) ∧ Hid (ES (n + 1) w X bb g' (.slice a1 m1 q1) (.slice a2 m2 q2) (set4 (set4 w2 bb (.slice a1 m1 q1) (.slice a2 m2 q2) (.int .i64 g'.rd) (.int .i64 g'.wr)) (p + 1) (.int .i64 x.1) (.int .i64 x.2.1) (.int .i64 x.2.2.1) (.int .u32 x.2.2.2)) ∧ ((set4 (set4 w2 bb (.slice a1 m1 q1) (.slice a2 m2 q2) (.int .i64 g'.rd) (.int .i64 g'.wr)) (p + 1) (.int .i64 x.1) (.int .i64 x.2.1) (.int .i64 x.2.2.1) (.int .u32 x.2.2.2)).cell? ⟨p, 0, none⟩ = some (.int .i64 x.1) ∧ (set4 (set4 w2 bb (.slice a1 m1 q1) (.slice a2 m2 q2) (.int .i64 g'.rd) (.int .i64 g'.wr)) (p + 1) (.int .i64 x.1) (.int .i64 x.2.1) (.int .i64 x.2.2.1) (.int .u32 x.2.2.2)).cell? ⟨p, 1, none⟩ = some (.int .i64 x.2.1) ∧ (set4 (set4 w2 bb (.slice a1 m1 q1) (.slice a2 m2 q2) (.int .i64 g'.rd) (.int .i64 g'.wr)) (p + 1) (.int .i64 x.1) (.int .i64 x.2.1) (.int .i64 x.2.2.1) (.int .u32 x.2.2.2)).cell? ⟨p, 2, none⟩ = some (.int .i64 x.2.2.1) ∧ (set4 (set4 w2 bb (.slice a1 m1 q1) (.slice a2 m2 q2) (.int .i64 g'.rd) (.int .i64 g'.wr)) (p + 1) (.int .i64 x.1) (.int .i64 x.2.1) (.int .i64 x.2.2.1) (.int .u32 x.2.2.2)).cell? ⟨p, 3, none⟩ = some (.int .u32 x.2.2.2)) ∧ ((set4 (set4 w2 bb (.slice a1 m1 q1) (.slice a2 m2 q2) (.int .i64 g'.rd) (.int .i64 g'.wr)) (p + 1) (.int .i64 x.1) (.int .i64 x.2.1) (.int .i64 x.2.2.1) (.int .u32 x.2.2.2)).cell? ⟨p + 1, 0, none⟩ = some (.int .i64 x.1) ∧ (set4 (set4 w2 bb (.slice a1 m1 q1) (.slice a2 m2 q2) (.int .i64 g'.rd) (.int .i64 g'.wr)) (p + 1) (.int .i64 x.1) (.int .i64 x.2.1) (.int .i64 x.2.2.1) (.int .u32 x.2.2.2)).cell? ⟨p + 1, 1, none⟩ = some (.int .i64 x.2.1) ∧ (set4 (set4 w2 bb (.slice a1 m1 q1) (.slice a2 m2 q2) (.int .i64 g'.rd) (.int .i64 g'.wr)) (p + 1) (.int .i64 x.1) (.int .i64 x.2.1) (.int .i64 x.2.2.1) (.int .u32 x.2.2.2)).cell? ⟨p + 1, 2, none⟩ = some (.int .i64 x.2.2.1) ∧ (set4 (set4 w2 bb (.slice a1 m1 q1) (.slice a2 m2 q2) (.int .i64 g'.rd) (.int .i64 g'.wr)) (p + 1) (.int .i64 x.1) (.int .i64 x.2.1) (.int .i64 x.2.2.1) (.int .u32 x.2.2.2)).cell? ⟨p + 1, 3, none⟩ = some (.int .u32 x.2.2.2)))) := by
  have hs0 : (wb.alloc o34).heap.size = wb.heap.size + 1 := by simp
  have hb1 : Below wb.heap.size wb ((wb.alloc o34).alloc o34) := (below_new wb _).trans ((below_new _ _).mono (by omega))
  have hP1 := hP.below hb1
  have hG1 := hG.below hb1
  have e0 : ((wb.alloc o34).alloc o34).heap[p]? = some o34 := by rw [hp]; exact (heap_alloc_old _ _ (by omega)).trans (heap_alloc_new _ _)
  have e1 : ((wb.alloc o34).alloc o34).heap[p + 1]? = some o34 := by
    have := heap_alloc_new (wb.alloc o34) o34
    rw [hs0] at this; rw [hp]; exact this
  have l0 : X.L p = none := hG.st.mem.new (by omega)
  have l1 : X.L (p + 1) = none := hG.st.mem.new (by omega)
  have hbp : bb + 2 < p := by have := (Array.getElem?_eq_some_iff.1 hP.b2).1; omega
  obtain ⟨x, c, g', hS, hR⟩ := pairEdge hG1 E
  refine ⟨x, c, g', hS.mono ?_⟩
  rintro e w1 ⟨rfl, hh⟩
  obtain ⟨Y, hst, hsh⟩ := unhide hh
  have hA := AS.of (kp := p + 1) hP1 hG1 e1 l1 hst hsh
  have k0 := hst.2.2.old (Array.getElem?_eq_some_iff.1 e0).1 l0
  have hx0 := k0.1.trans e0
  have hA1 := hA.set h0 (p := p) k0.2 hbp (by omega) hP.ge (.int .i64 x.1) (.int .i64 x.2.1) (.int .i64 x.2.2.1) (.int .u32 x.2.2.2)
  have hbx : (set4 w1 p (.int .i64 x.1) (.int .i64 x.2.1) (.int .i64 x.2.2.1) (.int .u32 x.2.2.2)).heap[p]? = some (oX x) := set4_at hx0 _ _ _ _
  refine ⟨rfl, cells34 hx0, ⟨hA1.boxG, cellsOp hA1.pm.b1, hbp⟩, (hR (set4 w1 p (.int .i64 x.1) (.int .i64 x.2.1) (.int .i64 x.2.2.1) (.int .u32 x.2.2.2)) hA1.vrow hA1.erow).mono ?_⟩
  rintro e w2 hh2
  obtain ⟨vs', es', hN, vv', ev', rfl, r1, r2, hb, p1, p2⟩ := unhide hh2
  obtain ⟨a1, m1, q1, rfl⟩ := tSlice r1
  obtain ⟨a2, m2, q2, rfl⟩ := grow_shape r2
  obtain ⟨z1, z2⟩ := hA1.ans hG hn hN r1 r2 hb p1 p2
  have f1 : w2.heap[p + 1]? = some o34 := (hb.block _ (Array.getElem?_eq_some_iff.1 hA1.kb).1).trans hA1.kb
  have f0 : w2.heap[p]? = some (oX x) := (hb.block _ (Array.getElem?_eq_some_iff.1 hbx).1).trans hbx
  have g1 : (set4 w2 bb (.slice a1 m1 q1) (.slice a2 m2 q2) (.int .i64 g'.rd) (.int .i64 g'.wr)).heap[p + 1]? = some o34 := (set4_other (by omega) _ _ _ _).trans f1
  have g0 : (set4 w2 bb (.slice a1 m1 q1) (.slice a2 m2 q2) (.int .i64 g'.rd) (.int .i64 g'.wr)).heap[p]? = some (oX x) := (set4_other (by omega) _ _ _ _).trans f0
  have h0' : (set4 (set4 w2 bb (.slice a1 m1 q1) (.slice a2 m2 q2) (.int .i64 g'.rd) (.int .i64 g'.wr)) (p + 1) (.int .i64 x.1) (.int .i64 x.2.1) (.int .i64 x.2.2.1) (.int .u32 x.2.2.2)).heap[p]? = some (oX x) := (set4_other (by omega) _ _ _ _).trans g0
  have h1' : (set4 (set4 w2 bb (.slice a1 m1 q1) (.slice a2 m2 q2) (.int .i64 g'.rd) (.int .i64 g'.wr)) (p + 1) (.int .i64 x.1) (.int .i64 x.2.1) (.int .i64 x.2.2.1) (.int .u32 x.2.2.2)).heap[p + 1]? = some (oX x) := set4_at g1 _ _ _ _
  have hlt : p + 1 < (set4 w1 p (.int .i64 x.1) (.int .i64 x.2.1) (.int .i64 x.2.2.1) (.int .u32 x.2.2.2)).heap.size := (Array.getElem?_eq_some_iff.1 hA1.kb).1
  refine ⟨a1, m1, q1, a2, m2, q2, rfl, z1, cells34 f1, ?_, ⟨(cellsX h0').1, (cellsX h0').2.1, (cellsX h0').2.2.1, (cellsX h0').2.2.2.1⟩, ⟨(cellsX h1').1, (cellsX h1').2.1, (cellsX h1').2.2.1, (cellsX h1').2.2.2.1⟩⟩
  have hw := h0.vrow
  refine es_put2 (es_of2 hA1.pm hn hA1.st hA1.sh hA1.vfr hA1.efr hN r1 r2 hb p1 p2 hA1.kl) (fun e => ?_) (fun e => ?_) (by omega) _ _ _ _
  · rcases p1 _ e with e2 | e2
    · exact nrow_lt_ne h0.vrow (p := p + 1) (by have := hP.ge; omega) e2
    · omega
  · rcases p2 _ e with e2 | e2
    · exact grow_lt_ne h0.erow (p := p + 1) (by have := hP.ge; omega) e2
    · omega

end
end Go.Proofs.YtagibmgbjhemkaaGreat
