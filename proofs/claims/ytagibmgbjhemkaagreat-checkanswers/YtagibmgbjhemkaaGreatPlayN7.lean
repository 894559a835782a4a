/- Play: what the store's call and the reference's leave, a kind at a time. -/
import Derived.Test.YtagibmgbjhemkaaGreatPlayM7
namespace Go.Proofs.YtagibmgbjhemkaaGreat
open Go.RowKit Go.Maps

/-- Behind the store's call; ko: a block beside. -/
structure AS [Inhabited EntI] (w : World) (X : Sto) (bb : Nat) (o : Obj) (g : Gr) (vv ev : Value) (vs : List Int) (es : List EdgeV) (kp : Nat) (ko : Obj) (g' : Gr) (Y : Sto) (W : World) : Prop where
  pm : PM w X bb o (oG vv ev g.rd g.wr) Y W
  st : StAt W Y
  sh : Shows Y g'
  vrow : NRow W vv vs
  erow : GRow 0 W ev es
  vfr : ∀ b, vv.ownBlock = some b → Y.L b = none
  efr : ∀ b, ev.ownBlock = some b → Y.L b = none
  kb : W.heap[kp]? = some ko
  kl : Y.L kp = none
section
variable [Inhabited EntI] {n : Nat} {w wb W W' w1 : World} {X Y : Sto} {g g' : Gr} {vv ev : Value} {vs vs' : List Int} {es es' : List EdgeV} {bb kp : Nat} {o ko : Obj}

theorem AS.of (hP : PM w X bb o (oG vv ev g.rd g.wr) X wb) (hG : Game n X g vv ev vs es wb) (hk : wb.heap[kp]? = some ko) (hl : X.L kp = none) {Y : Sto} (hS : Step wb X w1 Y) (hsh : Shows Y g') : AS w X bb o g vv ev vs es kp ko g' Y w1 := by
  obtain ⟨r1, r2, r3, r4⟩ := hG.store hS
  have hk2 := hS.2.2.old (Array.getElem?_eq_some_iff.1 hk).1 hl
  exact ⟨hP.step hS, hS.1, hsh, r1, r2, r3, r4, hk2.1.trans hk, hk2.2⟩
theorem AS.boxG (h : AS w X bb o g vv ev vs es kp ko g' Y w1) : (w1.cell? ⟨bb, 0, none⟩ = some vv ∧ w1.cell? ⟨bb, 1, none⟩ = some ev ∧ w1.cell? ⟨bb, 2, none⟩ = some (.int .i64 g.rd) ∧ w1.cell? ⟨bb, 3, none⟩ = some (.int .i64 g.wr)) := by
  obtain ⟨c0, c1, c2, c3, -⟩ := cellsG h.pm.b0
  exact ⟨c0, c1, c2, c3⟩
/-- The reference's answer on top of it. -/
theorem AS.ans (h : AS w X bb o g vv ev vs es kp ko g' Y W) (_hG : Game n X g vv ev vs es wb) (hn : n + 1 ≤ 1000) (hN : Nx (n + 1) g' vs' es') {vv' ev' : Value} (r1 : NRow W' vv' vs') (r2 : GRow 0 W' ev' es') (hb : Below W.heap.size W W') (p1 : Apt W vv vv') (p2 : Apt W ev ev') :
    (W'.cell? ⟨bb, 0, none⟩ = some vv ∧ W'.cell? ⟨bb, 1, none⟩ = some ev ∧ W'.cell? ⟨bb, 2, none⟩ = some (.int .i64 g.rd) ∧ W'.cell? ⟨bb, 3, none⟩ = some (.int .i64 g.wr) ∧ ∀ o, W'.frozen? ⟨bb, o, none⟩ = false) ∧ ES (n + 1) w X bb g' vv' ev' (set4 W' bb vv' ev' (.int .i64 g'.rd) (.int .i64 g'.wr)) :=
  es_of h.pm hn h.st h.sh h.vfr h.efr hN r1 r2 hb p1 p2

theorem cAddV {kd A B E b : Int} (hP : PM w X bb (oOp kd A B E b) (oG vv ev g.rd g.wr) X wb) (hG : Game n X g vv ev vs es wb) (hn : n + 1 ≤ 1000) :
    ∃ (c : Int) (g' : Gr), Calls Tryz.prog 31 #[.pointer (some ⟨X.s, 0, none⟩), .int .i64 A] wb fun e w1 => e = .returned (.int .i64 c) ∧ (w1.cell? ⟨bb, 0, none⟩ = some vv ∧ w1.cell? ⟨bb, 1, none⟩ = some ev ∧ w1.cell? ⟨bb, 2, none⟩ = some (.int .i64 g.rd) ∧ w1.cell? ⟨bb, 3, none⟩ = some (.int .i64 g.wr)) ∧ (w1.cell? ⟨bb + 1, 0, none⟩ = some (.int .i64 kd) ∧ w1.cell? ⟨bb + 1, 1, none⟩ = some (.int .i64 A) ∧ w1.cell? ⟨bb + 1, 2, none⟩ = some (.int .i64 B) ∧ w1.cell? ⟨bb + 1, 3, none⟩ = some (.int .i64 E) ∧ w1.cell? ⟨bb + 1, 4, none⟩ = some (.int .u32 b)) ∧ Hid (Calls Tryz.prog 63 #[.agg #[vv, ev, .int .i64 g.rd, .int .i64 g.wr], .int .i64 A] w1 fun e w2 => ∃ (a1 : Option Addr) (m1 q1 : Nat) (a2 : Option Addr) (m2 q2 : Nat), e = .returned (.tuple #[.agg #[.slice a1 m1 q1, .slice a2 m2 q2, .int .i64 g'.rd, .int .i64 g'.wr], .int .i64 c]) ∧ (w2.cell? ⟨bb, 0, none⟩ = some vv ∧ w2.cell? ⟨bb, 1, none⟩ = some ev ∧ w2.cell? ⟨bb, 2, none⟩ = some (.int .i64 g.rd) ∧ w2.cell? ⟨bb, 3, none⟩ = some (.int .i64 g.wr) ∧ ∀ o, w2.frozen? ⟨bb, o, none⟩ = false) ∧ Hid (ES (n + 1) w X bb g' (.slice a1 m1 q1) (.slice a2 m2 q2) (set4 w2 bb (.slice a1 m1 q1) (.slice a2 m2 q2) (.int .i64 g'.rd) (.int .i64 g'.wr)))) := by
  obtain ⟨c, g', hS, hR⟩ := pairAddV hG A
  refine ⟨c, g', hS.mono ?_⟩
  rintro e w1 ⟨rfl, hh⟩
  obtain ⟨Y, hst, hsh⟩ := unhide hh
  have hA := AS.of hP hG hP.b1 hP.l1 hst hsh
  refine ⟨rfl, hA.boxG, cellsOp hA.pm.b1, (hR w1 hA.vrow hA.erow).mono ?_⟩
  rintro e w2 hh2
  obtain ⟨vs', es', hN, vv', ev', rfl, r1, r2, hb, p1, p2⟩ := unhide hh2
  obtain ⟨a1, m1, q1, rfl⟩ := tSlice r1
  obtain ⟨a2, m2, q2, rfl⟩ := grow_shape r2
  obtain ⟨z1, z2⟩ := hA.ans hG hn hN r1 r2 hb p1 p2
  exact ⟨a1, m1, q1, a2, m2, q2, rfl, z1, z2⟩
theorem cAddE {kd A B E b : Int} (hP : PM w X bb (oOp kd A B E b) (oG vv ev g.rd g.wr) X wb) (hG : Game n X g vv ev vs es wb) (hn : n + 1 ≤ 1000) (hA : okN A) (hB : okN B) (hb0 : 0 ≤ b) :
    ∃ (m c : Int) (g' : Gr), Calls Tryz.prog 67 #[.pointer (some ⟨X.s, 0, none⟩), .int .i64 A, .int .i64 B, .int .u32 b] wb fun e w1 => e = .returned (.tuple #[.int .i64 m, .int .i64 c]) ∧ (w1.cell? ⟨bb, 0, none⟩ = some vv ∧ w1.cell? ⟨bb, 1, none⟩ = some ev ∧ w1.cell? ⟨bb, 2, none⟩ = some (.int .i64 g.rd) ∧ w1.cell? ⟨bb, 3, none⟩ = some (.int .i64 g.wr)) ∧ (w1.cell? ⟨bb + 1, 0, none⟩ = some (.int .i64 kd) ∧ w1.cell? ⟨bb + 1, 1, none⟩ = some (.int .i64 A) ∧ w1.cell? ⟨bb + 1, 2, none⟩ = some (.int .i64 B) ∧ w1.cell? ⟨bb + 1, 3, none⟩ = some (.int .i64 E) ∧ w1.cell? ⟨bb + 1, 4, none⟩ = some (.int .u32 b)) ∧ Hid (Calls Tryz.prog 68 #[.agg #[vv, ev, .int .i64 g.rd, .int .i64 g.wr], .int .i64 A, .int .i64 B, .int .u32 b] w1 fun e w2 => ∃ (a1 : Option Addr) (m1 q1 : Nat) (a2 : Option Addr) (m2 q2 : Nat), e = .returned (.tuple #[.agg #[.slice a1 m1 q1, .slice a2 m2 q2, .int .i64 g'.rd, .int .i64 g'.wr], .int .i64 m, .int .i64 c]) ∧ (w2.cell? ⟨bb, 0, none⟩ = some vv ∧ w2.cell? ⟨bb, 1, none⟩ = some ev ∧ w2.cell? ⟨bb, 2, none⟩ = some (.int .i64 g.rd) ∧ w2.cell? ⟨bb, 3, none⟩ = some (.int .i64 g.wr) ∧ ∀ o, w2.frozen? ⟨bb, o, none⟩ = false) ∧ Hid (ES (n + 1) w X bb g' (.slice a1 m1 q1) (.slice a2 m2 q2) (set4 w2 bb (.slice a1 m1 q1) (.slice a2 m2 q2) (.int .i64 g'.rd) (.int .i64 g'.wr)))) := by
  obtain ⟨m, c, g', hS, hR⟩ := pairAddE hG A B b hA hB hb0
  refine ⟨m, c, g', hS.mono ?_⟩
  rintro e w1 ⟨rfl, hh⟩
  obtain ⟨Y, hst, hsh⟩ := unhide hh
  have hA := AS.of hP hG hP.b1 hP.l1 hst hsh
  refine ⟨rfl, hA.boxG, cellsOp hA.pm.b1, (hR w1 hA.vrow hA.erow).mono ?_⟩
  rintro e w2 hh2
  obtain ⟨vs', es', hN, vv', ev', rfl, r1, r2, hb, p1, p2⟩ := unhide hh2
  obtain ⟨a1, m1, q1, rfl⟩ := tSlice r1
  obtain ⟨a2, m2, q2, rfl⟩ := grow_shape r2
  obtain ⟨z1, z2⟩ := hA.ans hG hn hN r1 r2 hb p1 p2
  exact ⟨a1, m1, q1, a2, m2, q2, rfl, z1, z2⟩
theorem cRew {kd A B E b : Int} (hP : PM w X bb (oOp kd A B E b) (oG vv ev g.rd g.wr) X wb) (hG : Game n X g vv ev vs es wb) (hn : n + 1 ≤ 1000) (hb0 : 0 ≤ b) :
    ∃ (m c : Int) (g' : Gr), Calls Tryz.prog 71 #[.pointer (some ⟨X.s, 0, none⟩), .int .i64 E, .int .u32 b] wb fun e w1 => e = .returned (.tuple #[.int .u32 m, .int .i64 c]) ∧ (w1.cell? ⟨bb, 0, none⟩ = some vv ∧ w1.cell? ⟨bb, 1, none⟩ = some ev ∧ w1.cell? ⟨bb, 2, none⟩ = some (.int .i64 g.rd) ∧ w1.cell? ⟨bb, 3, none⟩ = some (.int .i64 g.wr)) ∧ (w1.cell? ⟨bb + 1, 0, none⟩ = some (.int .i64 kd) ∧ w1.cell? ⟨bb + 1, 1, none⟩ = some (.int .i64 A) ∧ w1.cell? ⟨bb + 1, 2, none⟩ = some (.int .i64 B) ∧ w1.cell? ⟨bb + 1, 3, none⟩ = some (.int .i64 E) ∧ w1.cell? ⟨bb + 1, 4, none⟩ = some (.int .u32 b)) ∧ Hid (Calls Tryz.prog 72 #[.agg #[vv, ev, .int .i64 g.rd, .int .i64 g.wr], .int .i64 E, .int .u32 b] w1 fun e w2 => ∃ (a1 : Option Addr) (m1 q1 : Nat) (a2 : Option Addr) (m2 q2 : Nat), e = .returned (.tuple #[.agg #[.slice a1 m1 q1, .slice a2 m2 q2, .int .i64 g'.rd, .int .i64 g'.wr], .int .u32 m, .int .i64 c]) ∧ (w2.cell? ⟨bb, 0, none⟩ = some vv ∧ w2.cell? ⟨bb, 1, none⟩ = some ev ∧ w2.cell? ⟨bb, 2, none⟩ = some (.int .i64 g.rd) ∧ w2.cell? ⟨bb, 3, none⟩ = some (.int .i64 g.wr) ∧ ∀ o, w2.frozen? ⟨bb, o, none⟩ = false) ∧ Hid (ES (n + 1) w X bb g' (.slice a1 m1 q1) (.slice a2 m2 q2) (set4 w2 bb (.slice a1 m1 q1) (.slice a2 m2 q2) (.int .i64 g'.rd) (.int .i64 g'.wr)))) := by
  obtain ⟨m, c, g', hS, hR⟩ := pairRew hG E b hb0
  refine ⟨m, c, g', hS.mono ?_⟩
  rintro e w1 ⟨rfl, hh⟩
  obtain ⟨Y, hst, hsh⟩ := unhide hh
  have hA := AS.of hP hG hP.b1 hP.l1 hst hsh
  refine ⟨rfl, hA.boxG, cellsOp hA.pm.b1, (hR w1 hA.vrow hA.erow).mono ?_⟩
  rintro e w2 hh2
  obtain ⟨vs', es', hN, vv', ev', rfl, r1, r2, hb, p1, p2⟩ := unhide hh2
  obtain ⟨a1, m1, q1, rfl⟩ := tSlice r1
  obtain ⟨a2, m2, q2, rfl⟩ := grow_shape r2
  obtain ⟨z1, z2⟩ := hA.ans hG hn hN r1 r2 hb p1 p2
  exact ⟨a1, m1, q1, a2, m2, q2, rfl, z1, z2⟩
/-- PutEdge's record lies in a box of its own. -/
theorem cPutE {kd A B E b : Int} (hP : PM w X bb (oOp kd A B E b) (oG vv ev g.rd g.wr) X wb) (hG : Game n X g vv ev vs es wb) (hn : n + 1 ≤ 1000) (hA : okN A) (hB : okN B) (hb0 : 0 ≤ b) :
    ∃ (c : Int) (g' : Gr), Calls Tryz.prog 32 #[.pointer (some ⟨X.s, 0, none⟩), .agg #[.int .i64 E, .int .i64 A, .int .i64 B, .int .u32 b]] (wb.alloc (oX (E, A, B, b))) fun e w1 => e = .returned (.int .i64 c) ∧ (w1.cell? ⟨bb, 0, none⟩ = some vv ∧ w1.cell? ⟨bb, 1, none⟩ = some ev ∧ w1.cell? ⟨bb, 2, none⟩ = some (.int .i64 g.rd) ∧ w1.cell? ⟨bb, 3, none⟩ = some (.int .i64 g.wr)) ∧ (w1.cell? ⟨wb.heap.size, 0, none⟩ = some (.int .i64 E) ∧ w1.cell? ⟨wb.heap.size, 1, none⟩ = some (.int .i64 A) ∧ w1.cell? ⟨wb.heap.size, 2, none⟩ = some (.int .i64 B) ∧ w1.cell? ⟨wb.heap.size, 3, none⟩ = some (.int .u32 b)) ∧ Hid (Calls Tryz.prog 69 #[.agg #[vv, ev, .int .i64 g.rd, .int .i64 g.wr], .agg #[.int .i64 E, .int .i64 A, .int .i64 B, .int .u32 b]] w1 fun e w2 => ∃ (a1 : Option Addr) (m1 q1 : Nat) (a2 : Option Addr) (m2 q2 : Nat), e = .returned (.tuple #[.agg #[.slice a1 m1 q1, .slice a2 m2 q2, .int .i64 g'.rd, .int .i64 g'.wr], .int .i64 c]) ∧ (w2.cell? ⟨bb, 0, none⟩ = some vv ∧ w2.cell? ⟨bb, 1, none⟩ = some ev ∧ w2.cell? ⟨bb, 2, none⟩ = some (.int .i64 g.rd) ∧ w2.cell? ⟨bb, 3, none⟩ = some (.int .i64 g.wr) ∧ ∀ o, w2.frozen? ⟨bb, o, none⟩ = false) ∧ Hid (ES (n + 1) w X bb g' (.slice a1 m1 q1) (.slice a2 m2 q2) (set4 w2 bb (.slice a1 m1 q1) (.slice a2 m2 q2) (.int .i64 g'.rd) (.int .i64 g'.wr)))) := by
  have hb1 := below_new wb (oX (E, A, B, b))
  have hP1 := hP.below hb1
  have hG1 := hG.below hb1
  obtain ⟨c, g', hS, hR⟩ := pairPutE hG1 E A B b hA hB hb0
  refine ⟨c, g', hS.mono ?_⟩
  rintro e w1 ⟨rfl, hh⟩
  obtain ⟨Y, hst, hsh⟩ := unhide hh
  have hA := AS.of (kp := wb.heap.size) hP1 hG1 (heap_alloc_new wb (oX (E, A, B, b))) (hG.st.mem.new (Nat.le_refl _)) hst hsh
  obtain ⟨k0, k1, k2, k3, -⟩ := cellsX hA.kb
  refine ⟨rfl, hA.boxG, ⟨k0, k1, k2, k3⟩, (hR w1 hA.vrow hA.erow).mono ?_⟩
  rintro e w2 hh2
  obtain ⟨vs', es', hN, vv', ev', rfl, r1, r2, hb, p1, p2⟩ := unhide hh2
  obtain ⟨a1, m1, q1, rfl⟩ := tSlice r1
  obtain ⟨a2, m2, q2, rfl⟩ := grow_shape r2
  obtain ⟨z1, z2⟩ := hA.ans hG hn hN r1 r2 hb p1 p2
  exact ⟨a1, m1, q1, a2, m2, q2, rfl, z1, z2⟩
/-- DropVertex: the lists of what went are held against each other. -/
theorem cDropV {kd A B E b : Int} (hP : PM w X bb (oOp kd A B E b) (oG vv ev g.rd g.wr) X wb) (hG : Game n X g vv ev vs es wb) (hn : n + 1 ≤ 1000) (hA : okN A) :
    ∃ (c : Int) (g' : Gr), Calls Tryz.prog 64 #[.pointer (some ⟨X.s, 0, none⟩), .int .i64 A] wb fun e w1 => ∃ (a0 : Option Addr) (m0 q0 : Nat), e = .returned (.tuple #[.slice a0 m0 q0, .int .i64 c]) ∧ (w1.cell? ⟨bb, 0, none⟩ = some vv ∧ w1.cell? ⟨bb, 1, none⟩ = some ev ∧ w1.cell? ⟨bb, 2, none⟩ = some (.int .i64 g.rd) ∧ w1.cell? ⟨bb, 3, none⟩ = some (.int .i64 g.wr)) ∧ (w1.cell? ⟨bb + 1, 0, none⟩ = some (.int .i64 kd) ∧ w1.cell? ⟨bb + 1, 1, none⟩ = some (.int .i64 A) ∧ w1.cell? ⟨bb + 1, 2, none⟩ = some (.int .i64 B) ∧ w1.cell? ⟨bb + 1, 3, none⟩ = some (.int .i64 E) ∧ w1.cell? ⟨bb + 1, 4, none⟩ = some (.int .u32 b)) ∧ Hid (Calls Tryz.prog 65 #[.agg #[vv, ev, .int .i64 g.rd, .int .i64 g.wr], .int .i64 A] w1 fun e w2 => ∃ (a3 : Option Addr) (m3 q3 : Nat), ∃ (a1 : Option Addr) (m1 q1 : Nat) (a2 : Option Addr) (m2 q2 : Nat), e = .returned (.tuple #[.agg #[.slice a1 m1 q1, .slice a2 m2 q2, .int .i64 g'.rd, .int .i64 g'.wr], .slice a3 m3 q3, .int .i64 c]) ∧ (w2.cell? ⟨bb, 0, none⟩ = some vv ∧ w2.cell? ⟨bb, 1, none⟩ = some ev ∧ w2.cell? ⟨bb, 2, none⟩ = some (.int .i64 g.rd) ∧ w2.cell? ⟨bb, 3, none⟩ = some (.int .i64 g.wr) ∧ ∀ o, w2.frozen? ⟨bb, o, none⟩ = false) ∧ Hid (ES (n + 1) w X bb g' (.slice a1 m1 q1) (.slice a2 m2 q2) (set4 w2 bb (.slice a1 m1 q1) (.slice a2 m2 q2) (.int .i64 g'.rd) (.int .i64 g'.wr)) ∧ Calls Tryz.prog 66 #[.slice a0 m0 q0, .slice a3 m3 q3] (set4 w2 bb (.slice a1 m1 q1) (.slice a2 m2 q2) (.int .i64 g'.rd) (.int .i64 g'.wr)) fun e w4 => e = .returned (.bool true) ∧ Hid (ES (n + 1) w X bb g' (.slice a1 m1 q1) (.slice a2 m2 q2) w4))) := by
  obtain ⟨c, g', gs, hgl, hS, hR⟩ := pairDropV hG A hA
  refine ⟨c, g', hS.mono ?_⟩
  rintro e w1 ⟨a0, m0, q0, rfl, hh⟩
  obtain ⟨⟨Y, hst, hsh, hlv⟩, hgone⟩ := unhide hh
  have hA := AS.of hP hG hP.b1 hP.l1 hst hsh
  refine ⟨a0, m0, q0, rfl, hA.boxG, cellsOp hA.pm.b1, (hR w1 hA.vrow hA.erow).mono ?_⟩
  rintro e w2 hh2
  obtain ⟨vs', es', hN, vv', ev', lv, rfl, r1, r2, r3, hb, p1, p2, p3⟩ := unhide hh2
  obtain ⟨a1, m1, q1, rfl⟩ := tSlice r1
  obtain ⟨a2, m2, q2, rfl⟩ := grow_shape r2
  obtain ⟨a3, m3, q3, rfl⟩ := grow_shape r3
  obtain ⟨z1, z2⟩ := hA.ans hG hn hN r1 r2 hb p1 p2
  refine ⟨a3, m3, q3, a1, m1, q1, a2, m2, q2, rfl, z1, z2, ?_⟩
  have hPb := (hA.pm.below hb).b0
  have k1 : GRow 0 w2 (.slice a0 m0 q0) gs := grow_below (grow_at0 hgone) hb
  have s1 : GRow 0 (set4 w2 bb (.slice a1 m1 q1) (.slice a2 m2 q2) (.int .i64 g'.rd) (.int .i64 g'.wr)) (.slice a0 m0 q0) gs := grow_kept k1 (fun b hb' => set4_other (fun e => grow_ne k1 hPb (by rw [← e]; exact hb')) _ _ _ _)
  have s2 : GRow 0 (set4 w2 bb (.slice a1 m1 q1) (.slice a2 m2 q2) (.int .i64 g'.rd) (.int .i64 g'.wr)) (.slice a3 m3 q3) gs := grow_kept r3 (fun b hb' => set4_other (fun e => grow_ne r3 hPb (by rw [← e]; exact hb')) _ _ _ _)
  refine (refSameE s1 s2 (by omega)).mono ?_
  rintro e w4 ⟨rfl, hl⟩
  exact ⟨by rw [decide_eq_true rfl], z2.below (like_below (unhide hl))⟩
end
end Go.Proofs.YtagibmgbjhemkaaGreat
