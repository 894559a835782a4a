/- Play: DropEdge. -/
import Derived.Test.YtagibmgbjhemkaaGreatPlay70
namespace Go.Proofs.YtagibmgbjhemkaaGreat

section
open Go.RowKit Go.Maps
theorem grow_lt_ne {w : World} {B : Nat} {v : Value} {gs : List EdgeV} (h : GRow B w v gs) {p : Nat} (hp : w.heap.size ≤ p) : v.ownBlock ≠ some p := fun e => by have := (h.lt p e).2; omega
theorem nrow_lt_ne {w : World} {v : Value} {gs : List Int} (h : NRow w v gs) {p : Nat} (hp : w.heap.size ≤ p) : v.ownBlock ≠ some p := fun e => by have := (h.lt p e).2; omega
section
variable [Inhabited EntI] {n : Nat} {w wb W W' w1 : World} {X Y : Sto} {g g' : Gr} {vv ev : Value} {vs vs' : List Int} {es es' : List EdgeV} {bb kp : Nat} {o ko : Obj}
theorem AS.set (h : AS w X bb o g vv ev vs es kp ko g' Y W) (h0 : Game n X g vv ev vs es w) {p : Nat} (hp : Y.L p = none) (hge : bb + 2 < p) (hk : p ≠ kp) (hbb : w.heap.size ≤ bb) (a b c d : Value) : AS w X bb o g vv ev vs es kp ko g' Y (set4 W p a b c d) := by
  have ot : ∀ k, k ≠ p → (set4 W p a b c d).heap[k]? = W.heap[k]? := fun k hk => set4_other hk _ _ _ _
  refine ⟨⟨(ot _ (by omega)).trans h.pm.b0, (ot _ (by omega)).trans h.pm.b1, (ot _ (by omega)).trans h.pm.b2, h.pm.l0, h.pm.l1, h.pm.l2, h.pm.s, foots_put h.pm.ft (p := p) (by omega) ot rfl rfl rfl (by rw [set4_size]; exact Nat.le_refl _), h.pm.ge⟩, h.st.kept (fun k hk => ot k (fun e => hk (by rw [e]; exact hp))) (by rw [set4_size]; exact Nat.le_refl _), h.sh, nrow_kept h.vrow (fun k hk => ot k (fun e => nrow_lt_ne h0.vrow (p := p) (by omega) (by rw [← e]; exact hk))), grow_kept h.erow (fun k hk => ot k (fun e => grow_lt_ne h0.erow (p := p) (by omega) (by rw [← e]; exact hk))), h.vfr, h.efr, (ot _ (fun e => hk e.symm)).trans h.kb, h.kl⟩
def ES2 (n : Nat) (w : World) (X : Sto) (bb : Nat) (g' : Gr) (vv' ev' : Value) (kp : Nat) (W : World) : Prop :=
  ∃ Y vs' es', Game n Y g' vv' ev' vs' es' W ∧ Y.s = X.s ∧ Foots w X.L W Y.L ∧ W.heap[bb]? = some (oG vv' ev' g'.rd g'.wr) ∧ W.heap[bb + 2]? = some oZ ∧ Y.L (bb + 2) = none ∧ w.heap.size ≤ bb ∧ Y.L kp = none
theorem es_of2 {vv' ev' : Value} (hP : PM w X bb o (oG vv ev g.rd g.wr) Y W) (hn : n + 1 ≤ 1000) (hst : StAt W Y) (hsh : Shows Y g') (hvf : ∀ b, vv.ownBlock = some b → Y.L b = none) (hef : ∀ b, ev.ownBlock = some b → Y.L b = none)
    (hN : Nx (n + 1) g' vs' es') (r1 : NRow W' vv' vs') (r2 : GRow 0 W' ev' es') (hb : Below W.heap.size W W') (p1 : Apt W vv vv') (p2 : Apt W ev ev') (hk : Y.L kp = none) :
    ES2 (n + 1) w X bb g' vv' ev' kp (set4 W' bb vv' ev' (.int .i64 g'.rd) (.int .i64 g'.wr)) := by
  have hP2 := hP.below hb; refine ⟨Y, vs', es', ?_, hP2.s, foots_put hP2.ft hP2.ge (fun b hb => set4_other hb _ _ _ _) rfl rfl rfl (by rw [set4_size]; exact Nat.le_refl _), set4G_at hP2.b0 _ _ _ _, (set4_other (by omega) _ _ _ _).trans hP2.b2, hP2.l2, hP2.ge, hk⟩
  have g1 : Game (n + 1) Y g' vv' ev' vs' es' W' := by
    refine ⟨hst.below hb, hsh, hN.1, hN.2, (by omega), r1, r2, fun b hb' => ?_, fun b hb' => ?_⟩
    · rcases p1 b hb' with e | e
      · exact hvf b e
      · exact hst.mem.new e
    · rcases p2 b hb' with e | e
      · exact hef b e
      · exact hst.mem.new e
  exact g1.put hP2.l0 (nrow_ne r1 hP2.b0) (grow_ne r2 hP2.b0) (fun b hb => set4_other hb _ _ _ _) (by rw [set4_size]; exact Nat.le_refl _)
theorem es_put2 {vv' ev' : Value} {p : Nat} (hE : ES2 n w X bb g' vv' ev' p W) (hv : vv'.ownBlock ≠ some p) (he : ev'.ownBlock ≠ some p) (hge : bb + 2 < p) (a b c d : Value) : ES n w X bb g' vv' ev' (set4 W p a b c d) := by
  obtain ⟨Y, vs', es', h1, h2, h3, h4, h5, h6, h7, h8⟩ := hE; have ot : ∀ k, k ≠ p → (set4 W p a b c d).heap[k]? = W.heap[k]? := fun k hk => set4_other hk _ _ _ _
  exact ⟨Y, vs', es', h1.put h8 hv he ot (by rw [set4_size]; exact Nat.le_refl _), h2, foots_put h3 (p := p) (by omega) ot rfl rfl rfl (by rw [set4_size]; exact Nat.le_refl _), (ot _ (by omega)).trans h4, (ot _ (by omega)).trans h5, h6, h7⟩
theorem cDropE {kd A B E b : Int} (h0 : Game n X g vv ev vs es w) (hP : PM w X bb (oOp kd A B E b) (oG vv ev g.rd g.wr) X wb) (hG : Game n X g vv ev vs es wb) (hn : n + 1 ≤ 1000) (p : Nat) (hp : p = wb.heap.size) :
    ∃ (x : EdgeV) (c : Int) (g' : Gr), Calls Tryz.prog 26 #[.pointer (some ⟨X.s, 0, none⟩), .int .i64 E] ((wb.alloc o34).alloc o34) fun e w1 => e = .returned (.tuple #[.agg #[.int .i64 x.1, .int .i64 x.2.1, .int .i64 x.2.2.1, .int .u32 x.2.2.2], .int .i64 c]) ∧ (w1.cell? ⟨p, 0, none⟩ = some (.int .i64 0) ∧ w1.cell? ⟨p, 1, none⟩ = some (.int .i64 0) ∧ w1.cell? ⟨p, 2, none⟩ = some (.int .i64 0) ∧ w1.cell? ⟨p, 3, none⟩ = some (.int .u32 0) ∧ ∀ o, w1.frozen? ⟨p, o, none⟩ = false) ∧ (((set4 w1 p (.int .i64 x.1) (.int .i64 x.2.1) (.int .i64 x.2.2.1) (.int .u32 x.2.2.2)).cell? ⟨bb, 0, none⟩ = some vv ∧ (set4 w1 p (.int .i64 x.1) (.int .i64 x.2.1) (.int .i64 x.2.2.1) (.int .u32 x.2.2.2)).cell? ⟨bb, 1, none⟩ = some ev ∧ (set4 w1 p (.int .i64 x.1) (.int .i64 x.2.1) (.int .i64 x.2.2.1) (.int .u32 x.2.2.2)).cell? ⟨bb, 2, none⟩ = some (.int .i64 g.rd) ∧ (set4 w1 p (.int .i64 x.1) (.int .i64 x.2.1) (.int .i64 x.2.2.1) (.int .u32 x.2.2.2)).cell? ⟨bb, 3, none⟩ = some (.int .i64 g.wr)) ∧ ((set4 w1 p (.int .i64 x.1) (.int .i64 x.2.1) (.int .i64 x.2.2.1) (.int .u32 x.2.2.2)).cell? ⟨bb + 1, 0, none⟩ = some (.int .i64 kd) ∧ (set4 w1 p (.int .i64 x.1) (.int .i64 x.2.1) (.int .i64 x.2.2.1) (.int .u32 x.2.2.2)).cell? ⟨bb + 1, 1, none⟩ = some (.int .i64 A) ∧ (set4 w1 p (.int .i64 x.1) (.int .i64 x.2.1) (.int .i64 x.2.2.1) (.int .u32 x.2.2.2)).cell? ⟨bb + 1, 2, none⟩ = some (.int .i64 B) ∧ (set4 w1 p (.int .i64 x.1) (.int .i64 x.2.1) (.int .i64 x.2.2.1) (.int .u32 x.2.2.2)).cell? ⟨bb + 1, 3, none⟩ = some (.int .i64 E) ∧ (set4 w1 p (.int .i64 x.1) (.int .i64 x.2.1) (.int .i64 x.2.2.1) (.int .u32 x.2.2.2)).cell? ⟨bb + 1, 4, none⟩ = some (.int .u32 b)) ∧ bb + 2 < p) ∧ Hid (Calls Tryz.prog 70 #[.agg #[vv, ev, .int .i64 g.rd, .int .i64 g.wr], .int .i64 E] (set4 w1 p (.int .i64 x.1) (.int .i64 x.2.1) (.int .i64 x.2.2.1) (.int .u32 x.2.2.2)) fun e w2 => ∃ (a1 : Option Addr) (m1 q1 : Nat) (a2 : Option Addr) (m2 q2 : Nat), e = .returned (.tuple #[.agg #[.slice a1 m1 q1, .slice a2 m2 q2, .int .i64 g'.rd, .int .i64 g'.wr], .agg #[.int .i64 x.1, .int .i64 x.2.1, .int .i64 x.2.2.1, .int .u32 x.2.2.2], .int .i64 c]) ∧ (w2.cell? ⟨bb, 0, none⟩ = some vv ∧ w2.cell? ⟨bb, 1, none⟩ = some ev ∧ w2.cell? ⟨bb, 2, none⟩ = some (.int .i64 g.rd) ∧ w2.cell? ⟨bb, 3, none⟩ = some (.int .i64 g.wr) ∧ ∀ o, w2.frozen? ⟨bb, o, none⟩ = false) ∧ (w2.cell? ⟨p + 1, 0, none⟩ = some (.int .i64 0) ∧ w2.cell? ⟨p + 1, 1, none⟩ = some (.int .i64 0) ∧ w2.cell? ⟨p + 1, 2, none⟩ = some (.int .i64 0) ∧ w2.cell? ⟨p + 1, 3, none⟩ = some (.int .u32 0) ∧ ∀ o, w2.frozen? ⟨p + 1, o, none⟩ = false) ∧ Hid (ES (n + 1) w X bb g' (.slice a1 m1 q1) (.slice a2 m2 q2) (set4 (set4 w2 bb (.slice a1 m1 q1) (.slice a2 m2 q2) (.int .i64 g'.rd) (.int .i64 g'.wr)) (p + 1) (.int .i64 x.1) (.int .i64 x.2.1) (.int .i64 x.2.2.1) (.int .u32 x.2.2.2)) ∧ ((set4 (set4 w2 bb (.slice a1 m1 q1) (.slice a2 m2 q2) (.int .i64 g'.rd) (.int .i64 g'.wr)) (p + 1) (.int .i64 x.1) (.int .i64 x.2.1) (.int .i64 x.2.2.1) (.int .u32 x.2.2.2)).cell? ⟨p, 0, none⟩ = some (.int .i64 x.1) ∧ (set4 (set4 w2 bb (.slice a1 m1 q1) (.slice a2 m2 q2) (.int .i64 g'.rd) (.int .i64 g'.wr)) (p + 1) (.int .i64 x.1) (.int .i64 x.2.1) (.int .i64 x.2.2.1) (.int .u32 x.2.2.2)).cell? ⟨p, 1, none⟩ = some (.int .i64 x.2.1) ∧ (set4 (set4 w2 bb (.slice a1 m1 q1) (.slice a2 m2 q2) (.int .i64 g'.rd) (.int .i64 g'.wr)) (p + 1) (.int .i64 x.1) (.int .i64 x.2.1) (.int .i64 x.2.2.1) (.int .u32 x.2.2.2)).cell? ⟨p, 2, none⟩ = some (.int .i64 x.2.2.1) ∧ (set4 (set4 w2 bb (.slice a1 m1 q1) (.slice a2 m2 q2) (.int .i64 g'.rd) (.int .i64 g'.wr)) (p + 1) (.int .i64 x.1) (.int .i64 x.2.1) (.int .i64 x.2.2.1) (.int .u32 x.2.2.2)).cell? ⟨p, 3, none⟩ = some (.int .u32 x.2.2.2)) ∧ ((set4 (set4 w2 bb (.slice a1 m1 q1) (.slice a2 m2 q2) (.int .i64 g'.rd) (.int .i64 g'.wr)) (p + 1) (.int .i64 x.1) (.int .i64 x.2.1) (.int .i64 x.2.2.1) (.int .u32 x.2.2.2)).cell? ⟨p + 1, 0, none⟩ = some (.int .i64 x.1) ∧ (set4 (set4 w2 bb (.slice a1 m1 q1) (.slice a2 m2 q2) (.int .i64 g'.rd) (.int .i64 g'.wr)) (p + 1) (.int .i64 x.1) (.int .i64 x.2.1) (.int .i64 x.2.2.1) (.int .u32 x.2.2.2)).cell? ⟨p + 1, 1, none⟩ = some (.int .i64 x.2.1) ∧ (set4 (set4 w2 bb (.slice a1 m1 q1) (.slice a2 m2 q2) (.int .i64 g'.rd) (.int .i64 g'.wr)) (p + 1) (.int .i64 x.1) (.int .i64 x.2.1) (.int .i64 x.2.2.1) (.int .u32 x.2.2.2)).cell? ⟨p + 1, 2, none⟩ = some (.int .i64 x.2.2.1) ∧ (set4 (set4 w2 bb (.slice a1 m1 q1) (.slice a2 m2 q2) (.int .i64 g'.rd) (.int .i64 g'.wr)) (p + 1) (.int .i64 x.1) (.int .i64 x.2.1) (.int .i64 x.2.2.1) (.int .u32 x.2.2.2)).cell? ⟨p + 1, 3, none⟩ = some (.int .u32 x.2.2.2)))) := by
  have hs0 : (wb.alloc o34).heap.size = wb.heap.size + 1 := by simp
  have hb1 : Below wb.heap.size wb ((wb.alloc o34).alloc o34) := (below_new wb _).trans ((below_new _ _).mono (by omega))
  have hP1 := hP.below hb1; have hG1 := hG.below hb1; have e0 : ((wb.alloc o34).alloc o34).heap[p]? = some o34 := by rw [hp]; exact (heap_alloc_old _ _ (by omega)).trans (heap_alloc_new _ _)
  have e1 : ((wb.alloc o34).alloc o34).heap[p + 1]? = some o34 := by
    have := heap_alloc_new (wb.alloc o34) o34; rw [hs0] at this; rw [hp]; exact this
  have l0 : X.L p = none := hG.st.mem.new (by omega)
  have l1 : X.L (p + 1) = none := hG.st.mem.new (by omega)
  have hbp : bb + 2 < p := by have := (Array.getElem?_eq_some_iff.1 hP.b2).1; omega
  obtain ⟨x, c, g', hS, hR⟩ := pairDropE hG1 E; refine ⟨x, c, g', hS.mono ?_⟩
  rintro e w1 ⟨rfl, hh⟩
  obtain ⟨Y, hst, hsh⟩ := unhide hh; have hA := AS.of (kp := p + 1) hP1 hG1 e1 l1 hst hsh; have k0 := hst.2.2.old (Array.getElem?_eq_some_iff.1 e0).1 l0; have hx0 := k0.1.trans e0; have hA1 := hA.set h0 (p := p) k0.2 hbp (by omega) hP.ge (.int .i64 x.1) (.int .i64 x.2.1) (.int .i64 x.2.2.1) (.int .u32 x.2.2.2)
  have hbx : (set4 w1 p (.int .i64 x.1) (.int .i64 x.2.1) (.int .i64 x.2.2.1) (.int .u32 x.2.2.2)).heap[p]? = some (oX x) := set4_at hx0 _ _ _ _; refine ⟨rfl, cells34 hx0, ⟨hA1.boxG, cellsOp hA1.pm.b1, hbp⟩, (hR (set4 w1 p (.int .i64 x.1) (.int .i64 x.2.1) (.int .i64 x.2.2.1) (.int .u32 x.2.2.2)) hA1.vrow hA1.erow).mono ?_⟩
  rintro e w2 hh2
  obtain ⟨vs', es', hN, vv', ev', rfl, r1, r2, hb, p1, p2⟩ := unhide hh2; obtain ⟨a1, m1, q1, rfl⟩ := tSlice r1; obtain ⟨a2, m2, q2, rfl⟩ := grow_shape r2; obtain ⟨z1, z2⟩ := hA1.ans hG hn hN r1 r2 hb p1 p2; have f1 : w2.heap[p + 1]? = some o34 := (hb.block _ (Array.getElem?_eq_some_iff.1 hA1.kb).1).trans hA1.kb; have f0 : w2.heap[p]? = some (oX x) := (hb.block _ (Array.getElem?_eq_some_iff.1 hbx).1).trans hbx; have g1 : (set4 w2 bb (.slice a1 m1 q1) (.slice a2 m2 q2) (.int .i64 g'.rd) (.int .i64 g'.wr)).heap[p + 1]? = some o34 := (set4_other (by omega) _ _ _ _).trans f1
  have g0 : (set4 w2 bb (.slice a1 m1 q1) (.slice a2 m2 q2) (.int .i64 g'.rd) (.int .i64 g'.wr)).heap[p]? = some (oX x) := (set4_other (by omega) _ _ _ _).trans f0
  have h0' : (set4 (set4 w2 bb (.slice a1 m1 q1) (.slice a2 m2 q2) (.int .i64 g'.rd) (.int .i64 g'.wr)) (p + 1) (.int .i64 x.1) (.int .i64 x.2.1) (.int .i64 x.2.2.1) (.int .u32 x.2.2.2)).heap[p]? = some (oX x) := (set4_other (by omega) _ _ _ _).trans g0
  have h1' : (set4 (set4 w2 bb (.slice a1 m1 q1) (.slice a2 m2 q2) (.int .i64 g'.rd) (.int .i64 g'.wr)) (p + 1) (.int .i64 x.1) (.int .i64 x.2.1) (.int .i64 x.2.2.1) (.int .u32 x.2.2.2)).heap[p + 1]? = some (oX x) := set4_at g1 _ _ _ _; have hlt : p + 1 < (set4 w1 p (.int .i64 x.1) (.int .i64 x.2.1) (.int .i64 x.2.2.1) (.int .u32 x.2.2.2)).heap.size := (Array.getElem?_eq_some_iff.1 hA1.kb).1; refine ⟨a1, m1, q1, a2, m2, q2, rfl, z1, cells34 f1, ?_, ⟨(cellsX h0').1, (cellsX h0').2.1, (cellsX h0').2.2.1, (cellsX h0').2.2.2.1⟩, ⟨(cellsX h1').1, (cellsX h1').2.1, (cellsX h1').2.2.1, (cellsX h1').2.2.2.1⟩⟩; have hw := h0.vrow; refine es_put2 (es_of2 hA1.pm hn hA1.st hA1.sh hA1.vfr hA1.efr hN r1 r2 hb p1 p2 hA1.kl) (fun e => ?_) (fun e => ?_) (by omega) _ _ _ _
  · rcases p1 _ e with e2 | e2
    · exact nrow_lt_ne h0.vrow (p := p + 1) (by have := hP.ge; omega) e2
    · omega
  · rcases p2 _ e with e2 | e2
    · exact grow_lt_ne h0.erow (p := p + 1) (by have := hP.ge; omega) e2
    · omega
theorem cEdge {kd A B E b : Int} (h0 : Game n X g vv ev vs es w) (hP : PM w X bb (oOp kd A B E b) (oG vv ev g.rd g.wr) X wb) (hG : Game n X g vv ev vs es wb) (hn : n + 1 ≤ 1000) (p : Nat) (hp : p = wb.heap.size) :
    ∃ (x : EdgeV) (c : Int) (g' : Gr), Calls Tryz.prog 73 #[.pointer (some ⟨X.s, 0, none⟩), .int .i64 E] ((wb.alloc o34).alloc o34) fun e w1 => e = .returned (.tuple #[.agg #[.int .i64 x.1, .int .i64 x.2.1, .int .i64 x.2.2.1, .int .u32 x.2.2.2], .int .i64 c]) ∧ (w1.cell? ⟨p, 0, none⟩ = some (.int .i64 0) ∧ w1.cell? ⟨p, 1, none⟩ = some (.int .i64 0) ∧ w1.cell? ⟨p, 2, none⟩ = some (.int .i64 0) ∧ w1.cell? ⟨p, 3, none⟩ = some (.int .u32 0) ∧ ∀ o, w1.frozen? ⟨p, o, none⟩ = false) ∧ (((set4 w1 p (.int .i64 x.1) (.int .i64 x.2.1) (.int .i64 x.2.2.1) (.int .u32 x.2.2.2)).cell? ⟨bb, 0, none⟩ = some vv ∧ (set4 w1 p (.int .i64 x.1) (.int .i64 x.2.1) (.int .i64 x.2.2.1) (.int .u32 x.2.2.2)).cell? ⟨bb, 1, none⟩ = some ev ∧ (set4 w1 p (.int .i64 x.1) (.int .i64 x.2.1) (.int .i64 x.2.2.1) (.int .u32 x.2.2.2)).cell? ⟨bb, 2, none⟩ = some (.int .i64 g.rd) ∧ (set4 w1 p (.int .i64 x.1) (.int .i64 x.2.1) (.int .i64 x.2.2.1) (.int .u32 x.2.2.2)).cell? ⟨bb, 3, none⟩ = some (.int .i64 g.wr)) ∧ ((set4 w1 p (.int .i64 x.1) (.int .i64 x.2.1) (.int .i64 x.2.2.1) (.int .u32 x.2.2.2)).cell? ⟨bb + 1, 0, none⟩ = some (.int .i64 kd) ∧ (set4 w1 p (.int .i64 x.1) (.int .i64 x.2.1) (.int .i64 x.2.2.1) (.int .u32 x.2.2.2)).cell? ⟨bb + 1, 1, none⟩ = some (.int .i64 A) ∧ (set4 w1 p (.int .i64 x.1) (.int .i64 x.2.1) (.int .i64 x.2.2.1) (.int .u32 x.2.2.2)).cell? ⟨bb + 1, 2, none⟩ = some (.int .i64 B) ∧ (set4 w1 p (.int .i64 x.1) (.int .i64 x.2.1) (.int .i64 x.2.2.1) (.int .u32 x.2.2.2)).cell? ⟨bb + 1, 3, none⟩ = some (.int .i64 E) ∧ (set4 w1 p (.int .i64 x.1) (.int .i64 x.2.1) (.int .i64 x.2.2.1) (.int .u32 x.2.2.2)).cell? ⟨bb + 1, 4, none⟩ = some (.int .u32 b)) ∧ bb + 2 < p) ∧ Hid (Calls Tryz.prog 74 #[.agg #[vv, ev, .int .i64 g.rd, .int .i64 g.wr], .int .i64 E] (set4 w1 p (.int .i64 x.1) (.int .i64 x.2.1) (.int .i64 x.2.2.1) (.int .u32 x.2.2.2)) fun e w2 => ∃ (a1 : Option Addr) (m1 q1 : Nat) (a2 : Option Addr) (m2 q2 : Nat), e = .returned (.tuple #[.agg #[.slice a1 m1 q1, .slice a2 m2 q2, .int .i64 g'.rd, .int .i64 g'.wr], .agg #[.int .i64 x.1, .int .i64 x.2.1, .int .i64 x.2.2.1, .int .u32 x.2.2.2], .int .i64 c]) ∧ (w2.cell? ⟨bb, 0, none⟩ = some vv ∧ w2.cell? ⟨bb, 1, none⟩ = some ev ∧ w2.cell? ⟨bb, 2, none⟩ = some (.int .i64 g.rd) ∧ w2.cell? ⟨bb, 3, none⟩ = some (.int .i64 g.wr) ∧ ∀ o, w2.frozen? ⟨bb, o, none⟩ = false) ∧ (w2.cell? ⟨p + 1, 0, none⟩ = some (.int .i64 0) ∧ w2.cell? ⟨p + 1, 1, none⟩ = some (.int .i64 0) ∧ w2.cell? ⟨p + 1, 2, none⟩ = some (.int .i64 0) ∧ w2.cell? ⟨p + 1, 3, none⟩ = some (.int .u32 0) ∧ ∀ o, w2.frozen? ⟨p + 1, o, none⟩ = false) ∧ Hid (ES (n + 1) w X bb g' (.slice a1 m1 q1) (.slice a2 m2 q2) (set4 (set4 w2 bb (.slice a1 m1 q1) (.slice a2 m2 q2) (.int .i64 g'.rd) (.int .i64 g'.wr)) (p + 1) (.int .i64 x.1) (.int .i64 x.2.1) (.int .i64 x.2.2.1) (.int .u32 x.2.2.2)) ∧ ((set4 (set4 w2 bb (.slice a1 m1 q1) (.slice a2 m2 q2) (.int .i64 g'.rd) (.int .i64 g'.wr)) (p + 1) (.int .i64 x.1) (.int .i64 x.2.1) (.int .i64 x.2.2.1) (.int .u32 x.2.2.2)).cell? ⟨p, 0, none⟩ = some (.int .i64 x.1) ∧ (set4 (set4 w2 bb (.slice a1 m1 q1) (.slice a2 m2 q2) (.int .i64 g'.rd) (.int .i64 g'.wr)) (p + 1) (.int .i64 x.1) (.int .i64 x.2.1) (.int .i64 x.2.2.1) (.int .u32 x.2.2.2)).cell? ⟨p, 1, none⟩ = some (.int .i64 x.2.1) ∧ (set4 (set4 w2 bb (.slice a1 m1 q1) (.slice a2 m2 q2) (.int .i64 g'.rd) (.int .i64 g'.wr)) (p + 1) (.int .i64 x.1) (.int .i64 x.2.1) (.int .i64 x.2.2.1) (.int .u32 x.2.2.2)).cell? ⟨p, 2, none⟩ = some (.int .i64 x.2.2.1) ∧ (set4 (set4 w2 bb (.slice a1 m1 q1) (.slice a2 m2 q2) (.int .i64 g'.rd) (.int .i64 g'.wr)) (p + 1) (.int .i64 x.1) (.int .i64 x.2.1) (.int .i64 x.2.2.1) (.int .u32 x.2.2.2)).cell? ⟨p, 3, none⟩ = some (.int .u32 x.2.2.2)) ∧ ((set4 (set4 w2 bb (.slice a1 m1 q1) (.slice a2 m2 q2) (.int .i64 g'.rd) (.int .i64 g'.wr)) (p + 1) (.int .i64 x.1) (.int .i64 x.2.1) (.int .i64 x.2.2.1) (.int .u32 x.2.2.2)).cell? ⟨p + 1, 0, none⟩ = some (.int .i64 x.1) ∧ (set4 (set4 w2 bb (.slice a1 m1 q1) (.slice a2 m2 q2) (.int .i64 g'.rd) (.int .i64 g'.wr)) (p + 1) (.int .i64 x.1) (.int .i64 x.2.1) (.int .i64 x.2.2.1) (.int .u32 x.2.2.2)).cell? ⟨p + 1, 1, none⟩ = some (.int .i64 x.2.1) ∧ (set4 (set4 w2 bb (.slice a1 m1 q1) (.slice a2 m2 q2) (.int .i64 g'.rd) (.int .i64 g'.wr)) (p + 1) (.int .i64 x.1) (.int .i64 x.2.1) (.int .i64 x.2.2.1) (.int .u32 x.2.2.2)).cell? ⟨p + 1, 2, none⟩ = some (.int .i64 x.2.2.1) ∧ (set4 (set4 w2 bb (.slice a1 m1 q1) (.slice a2 m2 q2) (.int .i64 g'.rd) (.int .i64 g'.wr)) (p + 1) (.int .i64 x.1) (.int .i64 x.2.1) (.int .i64 x.2.2.1) (.int .u32 x.2.2.2)).cell? ⟨p + 1, 3, none⟩ = some (.int .u32 x.2.2.2)))) := by
  have hs0 : (wb.alloc o34).heap.size = wb.heap.size + 1 := by simp
  have hb1 : Below wb.heap.size wb ((wb.alloc o34).alloc o34) := (below_new wb _).trans ((below_new _ _).mono (by omega))
  have hP1 := hP.below hb1; have hG1 := hG.below hb1; have e0 : ((wb.alloc o34).alloc o34).heap[p]? = some o34 := by rw [hp]; exact (heap_alloc_old _ _ (by omega)).trans (heap_alloc_new _ _)
  have e1 : ((wb.alloc o34).alloc o34).heap[p + 1]? = some o34 := by
    have := heap_alloc_new (wb.alloc o34) o34; rw [hs0] at this; rw [hp]; exact this
  have l0 : X.L p = none := hG.st.mem.new (by omega)
  have l1 : X.L (p + 1) = none := hG.st.mem.new (by omega)
  have hbp : bb + 2 < p := by have := (Array.getElem?_eq_some_iff.1 hP.b2).1; omega
  obtain ⟨x, c, g', hS, hR⟩ := pairEdge hG1 E; refine ⟨x, c, g', hS.mono ?_⟩
  rintro e w1 ⟨rfl, hh⟩
  obtain ⟨Y, hst, hsh⟩ := unhide hh; have hA := AS.of (kp := p + 1) hP1 hG1 e1 l1 hst hsh; have k0 := hst.2.2.old (Array.getElem?_eq_some_iff.1 e0).1 l0; have hx0 := k0.1.trans e0; have hA1 := hA.set h0 (p := p) k0.2 hbp (by omega) hP.ge (.int .i64 x.1) (.int .i64 x.2.1) (.int .i64 x.2.2.1) (.int .u32 x.2.2.2)
  have hbx : (set4 w1 p (.int .i64 x.1) (.int .i64 x.2.1) (.int .i64 x.2.2.1) (.int .u32 x.2.2.2)).heap[p]? = some (oX x) := set4_at hx0 _ _ _ _; refine ⟨rfl, cells34 hx0, ⟨hA1.boxG, cellsOp hA1.pm.b1, hbp⟩, (hR (set4 w1 p (.int .i64 x.1) (.int .i64 x.2.1) (.int .i64 x.2.2.1) (.int .u32 x.2.2.2)) hA1.vrow hA1.erow).mono ?_⟩
  rintro e w2 hh2
  obtain ⟨vs', es', hN, vv', ev', rfl, r1, r2, hb, p1, p2⟩ := unhide hh2; obtain ⟨a1, m1, q1, rfl⟩ := tSlice r1; obtain ⟨a2, m2, q2, rfl⟩ := grow_shape r2; obtain ⟨z1, z2⟩ := hA1.ans hG hn hN r1 r2 hb p1 p2; have f1 : w2.heap[p + 1]? = some o34 := (hb.block _ (Array.getElem?_eq_some_iff.1 hA1.kb).1).trans hA1.kb; have f0 : w2.heap[p]? = some (oX x) := (hb.block _ (Array.getElem?_eq_some_iff.1 hbx).1).trans hbx; have g1 : (set4 w2 bb (.slice a1 m1 q1) (.slice a2 m2 q2) (.int .i64 g'.rd) (.int .i64 g'.wr)).heap[p + 1]? = some o34 := (set4_other (by omega) _ _ _ _).trans f1
  have g0 : (set4 w2 bb (.slice a1 m1 q1) (.slice a2 m2 q2) (.int .i64 g'.rd) (.int .i64 g'.wr)).heap[p]? = some (oX x) := (set4_other (by omega) _ _ _ _).trans f0
  have h0' : (set4 (set4 w2 bb (.slice a1 m1 q1) (.slice a2 m2 q2) (.int .i64 g'.rd) (.int .i64 g'.wr)) (p + 1) (.int .i64 x.1) (.int .i64 x.2.1) (.int .i64 x.2.2.1) (.int .u32 x.2.2.2)).heap[p]? = some (oX x) := (set4_other (by omega) _ _ _ _).trans g0
  have h1' : (set4 (set4 w2 bb (.slice a1 m1 q1) (.slice a2 m2 q2) (.int .i64 g'.rd) (.int .i64 g'.wr)) (p + 1) (.int .i64 x.1) (.int .i64 x.2.1) (.int .i64 x.2.2.1) (.int .u32 x.2.2.2)).heap[p + 1]? = some (oX x) := set4_at g1 _ _ _ _; have hlt : p + 1 < (set4 w1 p (.int .i64 x.1) (.int .i64 x.2.1) (.int .i64 x.2.2.1) (.int .u32 x.2.2.2)).heap.size := (Array.getElem?_eq_some_iff.1 hA1.kb).1; refine ⟨a1, m1, q1, a2, m2, q2, rfl, z1, cells34 f1, ?_, ⟨(cellsX h0').1, (cellsX h0').2.1, (cellsX h0').2.2.1, (cellsX h0').2.2.2.1⟩, ⟨(cellsX h1').1, (cellsX h1').2.1, (cellsX h1').2.2.1, (cellsX h1').2.2.2.1⟩⟩; have hw := h0.vrow; refine es_put2 (es_of2 hA1.pm hn hA1.st hA1.sh hA1.vfr hA1.efr hN r1 r2 hb p1 p2 hA1.kl) (fun e => ?_) (fun e => ?_) (by omega) _ _ _ _
  · rcases p1 _ e with e2 | e2
    · exact nrow_lt_ne h0.vrow (p := p + 1) (by have := hP.ge; omega) e2
    · omega
  · rcases p2 _ e with e2 | e2
    · exact grow_lt_ne h0.erow (p := p + 1) (by have := hP.ge; omega) e2
    · omega
end
end

section
open Go.RowKit Go.Maps
set_option maxHeartbeats 4000000 in
set_option maxRecDepth 100000 in
theorem play5 [Inhabited EntI] {n : Nat} {w : World} {X : Sto} {g : Gr} {vv ev : Value} {vs : List Int} {es : List EdgeV} (h : Game n X g vv ev vs es w) (hn : n + 1 ≤ 1000) (A B E b : Int) (_hA : okN A) (_hB : okN B) (_hb0 : 0 ≤ b) :
    Calls Tryz.prog 30 #[.pointer (some ⟨X.s, 0, none⟩), .agg #[vv, ev, .int .i64 g.rd, .int .i64 g.wr], .agg #[.int .i64 5, .int .i64 A, .int .i64 B, .int .i64 E, .int .u32 b]] w fun e w' => Hid (PlayAns (n + 1) w X e w') := by
  obtain ⟨hP0, hG0⟩ := PM.start h (oOp 5 A B E b); obtain ⟨va, vc, hvv, -⟩ := brow_shape h.vrow; obtain ⟨vn, hvv'⟩ : ∃ vn, vv = .slice va vn vc := ⟨_, hvv⟩; obtain ⟨ea, en, ec, hev⟩ := grow_shape h.erow; clear hvv; subst hvv' hev; obtain ⟨p, hp⟩ : ∃ p, p = (((w.alloc (oG (.slice va vn vc) (.slice ea en ec) g.rd g.wr)).alloc (oOp 5 A B E b)).alloc oZ).heap.size := ⟨_, rfl⟩; obtain ⟨x, c, g', C1⟩ := cDropE h hP0 hG0 hn p hp; have hbc := (below_new (((w.alloc (oG (.slice va vn vc) (.slice ea en ec) g.rd g.wr)).alloc (oOp 5 A B E b)).alloc oZ) o34).trans ((below_new ((((w.alloc (oG (.slice va vn vc) (.slice ea en ec) g.rd g.wr)).alloc (oOp 5 A B E b)).alloc oZ).alloc o34) o34).mono (by simp))
  obtain ⟨-, -, -, o3c, -⟩ := cellsOp (hP0.below hbc).b1; have HP0 := hide hP0; obtain ⟨s, hs⟩ : ∃ s, s = X.s := ⟨_, rfl⟩; obtain ⟨rd, hrd⟩ : ∃ rd, rd = g.rd := ⟨_, rfl⟩; obtain ⟨wr_0, hwr⟩ : ∃ wr_0, wr_0 = g.wr := ⟨_, rfl⟩; obtain ⟨bb, hbb⟩ : ∃ bb, bb = w.heap.size := ⟨_, rfl⟩; obtain ⟨c0, c1, c2, c3, -⟩ := cellsG hP0.b0; obtain ⟨o0, o1, o2, o3, o4⟩ := cellsOp hP0.b1; rw [← hs, ← hrd, ← hwr]; rw [← hbb, ← hrd, ← hwr] at c0 c1 c2 c3 o0 o1 o2 o3 o4; have HBB := hide hbb; have HSS := hide hs; have HRW := hide (And.intro hrd hwr); rw [← hs, ← hrd, ← hwr, ← hbb] at C1; rw [← hrd, ← hwr, ← hbb] at o3c; rw [← hrd, ← hwr] at hp; have HC1 := hide C1; have HO3 := hide o3c; have HPP := hide hp; clear C1 o3c hp hbc; clear hP0 hG0 h hs hrd hwr hbb hn
  go_enter Tryz.func30, Tryz.ntmps30
  go_upto_region 1 with fail
  change Code.wp _ _ _ _ (((w.alloc (oG (.slice va vn vc) (.slice ea en ec) rd wr_0)).alloc (oOp 5 A B E b)).alloc oZ); rw [show w.heap.size + 2 = bb + 2 by rw [unhide HBB], show w.heap.size + 1 = bb + 1 by rw [unhide HBB], ← unhide HBB]
  generalize ((w.alloc (oG (.slice va vn vc) (.slice ea en ec) rd wr_0)).alloc (oOp 5 A B E b)).alloc oZ = wb at *
  go_upto_region 24 with fail
  change Code.wp _ _ _ _ ((wb.alloc o34).alloc o34); rw [show wb.heap.size + 1 = p + 1 by rw [unhide HPP], ← unhide HPP]
  clear HPP c0 c1 c2 c3 o0 o1 o2 o3 o4; have o3c := unhide HO3; clear HO3; generalize (wb.alloc o34).alloc o34 = wc at *
  go_wp2_with fail
  refine (unhide HC1).mono ?_
  rintro e w1 ⟨rfl, ⟨z0, z1, z2, z3, zf⟩, ⟨⟨c0', c1', c2', c3'⟩, ⟨o0', o1', o2', o3', o4'⟩, hbp⟩, h1⟩
  clear o3c HC1
  go_upto_region 25 with fail
  change Code.wp _ _ _ _ (set4 w1 p (.int .i64 x.1) (.int .i64 x.2.1) (.int .i64 x.2.2.1) (.int .u32 x.2.2.2)); generalize (set4 w1 p (.int .i64 x.1) (.int .i64 x.2.1) (.int .i64 x.2.2.1) (.int .u32 x.2.2.2)) = w1' at *; clear z0 z1 z2 z3 zf
  go_wp2_with fail
  refine (unhide h1).mono ?_
  rintro e w2 ⟨a1, m1, q1, a2, m2, q2, rfl, ⟨d0, d1, d2, d3, df⟩, ⟨y0, y1, y2, y3, yf⟩, h2⟩
  clear c0' c1' c2' c3' o0' o1' o2' o3' o4' h1; have n1 : ¬ bb = p + 1 := by omega
  have n2 : ¬ p + 1 = bb := by omega
  go_upto_region 26 with fail
  change Code.wp _ _ _ _ (set4 (set4 w2 bb (.slice a1 m1 q1) (.slice a2 m2 q2) (.int .i64 g'.rd) (.int .i64 g'.wr)) (p + 1) (.int .i64 x.1) (.int .i64 x.2.1) (.int .i64 x.2.2.1) (.int .u32 x.2.2.2)); generalize (set4 (set4 w2 bb (.slice a1 m1 q1) (.slice a2 m2 q2) (.int .i64 g'.rd) (.int .i64 g'.wr)) (p + 1) (.int .i64 x.1) (.int .i64 x.2.1) (.int .i64 x.2.2.1) (.int .u32 x.2.2.2)) = w3 at *; clear d0 d1 d2 d3 df y0 y1 y2 y3 yf n1 n2 hbp; have HES := hide (unhide h2).1; obtain ⟨-, ⟨x0, x1, x2, x3⟩, ⟨y0, y1, y2, y3⟩⟩ := unhide h2; clear h2; have hq : ∀ W : World, (Op.equalIn 10000 64 (.agg #[.int .i64 x.1, .int .i64 x.2.1, .int .i64 x.2.2.1, .int .u32 x.2.2.2]) (.agg #[.int .i64 x.1, .int .i64 x.2.1, .int .i64 x.2.2.1, .int .u32 x.2.2.2])).run Tryz.prog W = .ok true W := fun W => by rw [eqE x x W, decide_eq_true rfl]
  go_upto_region 37 with fail
  clear x0 x1 x2 x3 y0 y1 y2 y3 hq; have HED := hide ((unhide HES).below (Below.refl w3.heap.size w3).drew); obtain ⟨rd', hrd'⟩ : ∃ rd', rd' = g'.rd := ⟨_, rfl⟩; obtain ⟨wr', hwr'⟩ : ∃ wr', wr' = g'.wr := ⟨_, rfl⟩; have hc0 := (unhide HED).cells; rw [← hrd', ← hwr'] at hc0; have CR := hide (unhide HED).reads; have CW := hide (unhide HED).writes; rw [← unhide HSS, ← hrd'] at CR; rw [← unhide HSS, ← hwr'] at CW; have hres := (unhide HES).res; obtain ⟨d0, d1, d2, d3, df⟩ := cellsG (vv := .slice none 0 0) (ev := .slice none 0 0) (rd := 0) (wr := 0) hres; have hc3 := (unhide HES).cells; rw [← hrd', ← hwr'] at hc3; have HE1 := hide (drewAt (set4G_at hres (.slice a1 m1 q1) (.slice a2 m2 q2) (.int .i64 rd') (.int .i64 wr'))); have hS21 : ((set4 w3 (bb + 2) (.slice a1 m1 q1) (.slice a2 m2 q2) (.int .i64 rd') (.int .i64 wr')).drew.cell? ⟨bb, 0, none⟩ = some (.slice a1 m1 q1) ∧ (set4 w3 (bb + 2) (.slice a1 m1 q1) (.slice a2 m2 q2) (.int .i64 rd') (.int .i64 wr')).drew.cell? ⟨bb, 1, none⟩ = some (.slice a2 m2 q2) ∧ (set4 w3 (bb + 2) (.slice a1 m1 q1) (.slice a2 m2 q2) (.int .i64 rd') (.int .i64 wr')).drew.cell? ⟨bb, 2, none⟩ = some (.int .i64 rd') ∧ (set4 w3 (bb + 2) (.slice a1 m1 q1) (.slice a2 m2 q2) (.int .i64 rd') (.int .i64 wr')).drew.cell? ⟨bb, 3, none⟩ = some (.int .i64 wr')) := box_set4 hc3 (show bb ≠ bb + 2 by omega) (.slice a1 m1 q1) (.slice a2 m2 q2) (.int .i64 rd') (.int .i64 wr')
  have HFIN : Hid (PlayAns (n + 1) w X (.returned (.tuple #[.agg #[.slice a1 m1 q1, .slice a2 m2 q2, .int .i64 rd', .int .i64 wr'], .bool true])) (set4 w3 (bb + 2) (.slice a1 m1 q1) (.slice a2 m2 q2) (.int .i64 rd') (.int .i64 wr')).drew) := by
    obtain ⟨X', vs', es', f1, f2, f3⟩ := (unhide HES).fin (.slice a1 m1 q1) (.slice a2 m2 q2) (.int .i64 rd') (.int .i64 wr'); have hbd := (Below.refl (set4 w3 (bb + 2) (.slice a1 m1 q1) (.slice a2 m2 q2) (.int .i64 rd') (.int .i64 wr')).heap.size (set4 w3 (bb + 2) (.slice a1 m1 q1) (.slice a2 m2 q2) (.int .i64 rd') (.int .i64 wr'))).drew; refine ⟨_, _, _, _, _, _, g', by rw [hrd', hwr'], X', vs', es', f1.below hbd, f2, f3.trans (Foots.below _ hbd)⟩
  unfold set4 at hS21; clear hrd' hwr' HES HED hres hc3; refine wp_region_noPanic ?_; refine regionL [] (fun y => (y.cell? ⟨bb, 0, none⟩ = some (.slice a1 m1 q1) ∧ y.cell? ⟨bb, 1, none⟩ = some (.slice a2 m2 q2) ∧ y.cell? ⟨bb, 2, none⟩ = some (.int .i64 rd') ∧ y.cell? ⟨bb, 3, none⟩ = some (.int .i64 wr'))) (by kernel_rfl) hc0 (fun hHeld => ?_)
  refine takeN 0 172 rfl ?_
  (try simp only [sl])
  refine takeN 1 173 rfl ?_
  (try simp only [sl])
  refine takeN 2 174 rfl ?_
  (try simp only [sl])
  refine takeN 3 175 rfl ?_
  (try simp only [sl])
  refine takeN 4 176 rfl ?_
  (try simp only [sl])
  refine takeN 5 177 rfl ?_
  (try simp only [sl])
  refine takeN 6 178 rfl ?_
  (try simp only [sl])
  refine takeN 7 179 rfl ?_
  (try simp only [sl])
  refine takeN 8 180 rfl ?_
  (try simp only [sl])
  refine takeN 10 182 rfl ?_
  (try simp only [sl])
  refine takeN 11 183 rfl ?_
  (try simp only [sl])
  refine readyL (i := 9) (by kernel_rfl) rfl (fun K hK => ?_)
  go_simp
  refine (unhide CR).mono ?_
  rintro e w4 ⟨rfl, rfl⟩
  (try dsimp only)
  refine hK.out _ _ (fun _ => hc0) ?_
  clear hK K
  (try simp only [sl])
  have hH4 := hc0; refine takeN 12 184 rfl ?_
  (try simp only [sl])
  refine takeN 13 185 rfl ?_
  (try simp only [sl])
  refine takeN 14 186 rfl ?_
  (try simp only [sl])
  refine takeN 15 187 rfl ?_
  (try simp only [sl])
  refine takeN 17 189 rfl ?_
  (try simp only [sl])
  refine takeN 18 190 rfl ?_
  (try simp only [sl])
  refine readyL (i := 16) (by kernel_rfl) rfl (fun K hK => ?_)
  go_simp
  refine (unhide CW).mono ?_
  rintro e w5 ⟨rfl, rfl⟩
  (try dsimp only)
  refine hK.out _ _ (fun _ => hc0) ?_
  clear hK K
  (try simp only [sl])
  have hH7 := hc0; refine takeN 19 191 rfl ?_
  (try simp only [sl])
  refine takeN 20 192 rfl ?_
  (try simp only [sl])
  refine readyL (i := 21) (by kernel_rfl) rfl (fun K hK => ?_)
  go_simp
  refine hK.out _ _ (fun _ => hS21) ?_
  clear hK K
  (try simp only [sl])
  have hH10 := hS21; refine takeN 22 7 rfl ?_
  (try simp only [sl])
  refine doneL (by kernel_rfl) ?_ _
  refine NoPanic.normal ?_
  go_wp2_with fail
  (try simp only [Exit.inBlock, Exit.then])
  change bodyPost _ _ _ _ _ (set4 w3 (bb + 2) (.slice a1 m1 q1) (.slice a2 m2 q2) (.int .i64 rd') (.int .i64 wr')).drew; have e1 := unhide HE1; generalize (set4 w3 (bb + 2) (.slice a1 m1 q1) (.slice a2 m2 q2) (.int .i64 rd') (.int .i64 wr')).drew = w9 at *; clear HE1 hS21 hc0 d0 d1 d2 d3 df; refine bodyPost_ret (resG rfl _ _ (bb + 2) _ _ _ _ rfl e1) rfl ?_; exact unhide HFIN
end

end Go.Proofs.YtagibmgbjhemkaaGreat
