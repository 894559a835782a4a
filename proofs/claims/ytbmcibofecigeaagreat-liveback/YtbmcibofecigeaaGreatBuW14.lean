/- built, walked. -/
import Derived.Test.YtbmcibofecigeaaGreatPl14
import Derived.Test.YtbmcibofecigeaaGreatLaws2
import Derived.ProofKit
import Derived.OpenShut
import Derived.SizedLaws
import Derived.Below
import Derived.ChangeOld
import Derived.Deep.Slices
import Derived.Deep.Strs
namespace Go.Proofs.YtbmcibofecigeaaGreat

section
open Go.RowKit Go.Maps
/-- A live tree in memory of its own. -/
def LA (w : World) (p : Nat) (s tc : Int) (vs : List Int) (gs : List EdV) (T : L14.Tr) (N : Nat) (W : World) : Prop := ∃ L, LvK L W p s tc vs gs T N ∧ (∀ b, b < w.heap.size → L b = none) ∧ Below w.heap.size w W
theorem LA.go {w W W' : World} {p : Nat} {s tc' : Int} {vs' : List Int} {gs' : List EdV} {T' : L14.Tr} {N' : Nat} {L : Lab} (h2 : ∀ b, b < w.heap.size → L b = none) (h3 : Below w.heap.size w W) (h : LvGo L W p s tc' vs' gs' T' N' W') : LA w p s tc' vs' gs' T' N' W' := by
  obtain ⟨L', k, ch⟩ := h
  have hs := h3.size
  exact ⟨L', k, fun b hb => (ch.lab_ b (by omega)).trans (h2 b hb), h3.trans ⟨ch.tur.os, ch.tur.tape, ch.tur.output, ch.tur.size, fun b hb => ch.tur.block b (by omega) (fun z => z (h2 b hb))⟩⟩
theorem okL (k : Int) (h : (Lit.int .i64 k).wf = true) : okN k := h
theorem wlk_one {c : Int} : ∀ {ms : List EdV}, Wlk [(1, 1, 2, c)] 1 ms → Ends 1 2 ms → ms = [(1, 1, 2, c)]
  | [], _, h => by
    have := h.2
    simp [stops] at this
  | [x], h, _ => by
    have := List.mem_singleton.1 h.1
    rw [this]
  | x :: y :: ms, h, _ => by
    have h1 := List.mem_singleton.1 h.1
    have h2 := List.mem_singleton.1 h.2.2.1
    have h3 := h.2.2.2.1
    rw [h1, h2] at h3
    exact absurd h3 (by show ¬ ((1 : Int) = 2); omega)
theorem keptA : kept 1065353216 = some ((1065353216 : Nat) : Int) := by unfold kept; rw [if_neg (by omega), if_neg (by omega)]; rfl
theorem costA : costE [(1, 1, 2, ((1065353216 : Nat) : Int))] = 1065353216 := by
  have h := costE_app [] (1, 1, 2, ((1065353216 : Nat) : Int)) (by show ((1065353216 : Nat) : Int).toNat ≤ _; omega)
  have h0 : costE [] = 0 := rfl
  rw [h0] at h
  have h1 : M.addC 0 1065353216 = 1065353216 := by rw [M.addC_comm (by omega) (by omega), M.addC_zero (by omega)]
  exact h.trans h1
set_option maxHeartbeats 4000000 in
set_option maxRecDepth 100000 in
theorem awakeT [Inhabited EntF] (w : World) : Calls Tryz.prog 9 #[] w fun e w' => e = .returned (.bool true) ∧ Hid (Below w.heap.size w w') := by
  go_enter Tryz.func9, Tryz.ntmps9
  go_wp2_with fail
  refine (vNewT w (okL 1 rfl)).mono ?_
  rintro e w1 ⟨p, rfl, HN⟩
  obtain ⟨k3, L0, k1, k2⟩ := unhide HN
  have C1 := hide (vAddVNew (v := 2) (vs' := [1, 2]) k1 (by omega) (by simp) (okL 2 rfl) (by simp) (by intro x; simp; omega) (by simp))
  have HA : Hid ((∀ b, b < w.heap.size → L0 b = none) ∧ Below w.heap.size w w1) := ⟨k2, k3⟩
  clear HN k1 k2 k3
  go_wp2_with fail
  refine (unhide C1).mono ?_
  rintro e w2 ⟨rfl, HQ⟩
  obtain ⟨L2, K2, j1, j2⟩ := LA.go (unhide HA).1 (unhide HA).2 (unhide HQ)
  have C2 := hide (vAddVIn (v := 1) K2 (by simp))
  have C3 := hide (vInsYes (e := 1) (u := 1) (v := 2) K2 (by omega) (okL 1 rfl) (by simp) (by simp) (by simp) keptA (by omega))
  replace HA : Hid ((∀ b, b < w.heap.size → L2 b = none) ∧ Below w.heap.size w w2) := ⟨j1, j2⟩
  clear C1 HQ K2 j1 j2
  go_wp2_with fail
  refine (unhide C2).mono ?_
  rintro e w' ⟨rfl, hw'⟩
  rw [hw']
  clear C2 hw' w'
  go_wp2_with fail
  refine (unhide C3).mono ?_
  rintro e w4 ⟨rfl, HQ⟩
  obtain ⟨tc, T', HQ2, -⟩ := unhide HQ
  obtain ⟨L4, K4, j1, j2⟩ := LA.go (unhide HA).1 (unhide HA).2 HQ2
  obtain ⟨c, d, e, A⟩ := K4.ask (by omega) (v := 2) (okL 2 rfl)
  obtain ⟨mv, me, V, nv, E, ne, O, I, h1, -, -, hR, hE, -⟩ := id K4
  have hf : L14.fnd T' 2 = true := (hR.clo 1 1 2 1065353216 ((hE.ed 1 1 2 1065353216).2 (by simp)) hR.src.1 (fun z => z.elim) (by simp)).1
  obtain ⟨rfl, -, -⟩ := A.near (by simp) hf
  have C4 := hide (A.dist w4 (Below.refl _ _))
  have C5 := hide (A.path w4 (Below.refl _ _))
  have C6 : Hid (∀ W, Below w4.heap.size w4 W → Calls Tryz.prog 25 #[.pointer (some ⟨p, 0, none⟩)] W fun e w' => e = .returned (.int .i64 1) ∧ w' = W) := fun W hW => vsourceT (h1.at_.below hW)
  have HB := hide j2
  clear C3 HQ HQ2 K4 j1 j2 A h1 hR hE hf HA
  go_wp2_with fail
  refine (unhide C4).mono ?_
  rintro e w' ⟨rfl, hw'⟩
  rw [hw']
  clear C4 hw' w'
  go_wp2_with fail
  refine (unhide C5).mono ?_
  rintro e w5 ⟨a, n, k, rfl, H5⟩
  obtain ⟨b1, -, b3⟩ := unhide H5
  obtain ⟨ms, m1, m2, m3, m4, m5⟩ := b3 (by trivial)
  have hms := wlk_one m2 m4
  subst hms
  have hd : d = 1065353216 := by rw [← m5]; exact costA
  subst hd
  obtain ⟨a', c', hs, -⟩ := brow_shape m1
  injection hs with e1 e2 e3
  subst e1 e2 e3
  obtain ⟨g, rfl⟩ := brow_some m1 (by simp)
  have k0 := brow_at m1 (j := 0) (e := 1) rfl
  have C7 := hide (unhide C6 w5 b1)
  have HE : Hid (Below w.heap.size w w5) := (unhide HB).trans (b1.mono (unhide HB).size)
  clear C5 C6 H5 b1 b3 m1 m2 m3 m4 m5 HB
  go_wp2_with fail
  refine (unhide C7).mono ?_
  rintro e w' ⟨rfl, hw'⟩
  rw [hw']
  clear C7 hw' w'
  go_wp2_with fail
  go_ret
  exact ⟨rfl, HE⟩
end

section
theorem own : ownKnob Tryz.prog.godebug = none := by kernel_rfl
theorem laidOut : laidOutB Tryz.prog = true := by kernel_rfl
end

section
open Go.ChangeShapes Go.WideShapes Go.ChangeAt Go.RowKit
theorem bytes38 : Tryz.prog.bytesOf 38 = 40 := by kernel_rfl
theorem cellsOf38 : Tryz.prog.cellsOf 38 = 5 := by kernel_rfl
theorem cellsOf3 : Tryz.prog.cellsOf 3 = 1 := by kernel_rfl
theorem cellsOfU : Tryz.prog.cellsOf 36 = 1 := by kernel_rfl
theorem addr_none {w : World} {x : Addr} {k : Nat} {v : Value} (h : w.cell? (x.add (0 * k)) = some v) : x.spot = none := by
  have := World.cell?_spot h
  simpa [Addr.add] using this
theorem add_off (b off j : Nat) : (⟨b, off, none⟩ : Addr).add j = ⟨b, off + j, none⟩ := by
  unfold Addr.add; split <;> simp_all
theorem trod_struct5 {H : Type} {enc : TypeId × Value → H} {P : Program} {w : World} {base : Nat} {spare : Nat → Bool} {held : Bool} {t : TypeId} {f0 f1 f2 f3 f4 : Field} {fuel : Nat} {cs : List Value} {x : DataW H × List MemPlace} (ht : P.underlying t = some (.struct #[f0, f1, f2, f3, f4])) (h : DataW.trod enc P w base spare held fuel t cs = some x) :
    ∃ y0 y1 y2 y3 y4 n, DataW.trod enc P w base spare held n f0.type ((cs.drop f0.offset).take (P.cellsOf f0.type)) = some y0 ∧
      DataW.trod enc P w base spare held n f1.type ((cs.drop f1.offset).take (P.cellsOf f1.type)) = some y1 ∧ DataW.trod enc P w base spare held n f2.type ((cs.drop f2.offset).take (P.cellsOf f2.type)) = some y2 ∧
      DataW.trod enc P w base spare held n f3.type ((cs.drop f3.offset).take (P.cellsOf f3.type)) = some y3 ∧ DataW.trod enc P w base spare held n f4.type ((cs.drop f4.offset).take (P.cellsOf f4.type)) = some y4 := by
  obtain ⟨xs, n, _, rfl, hl, hlen, hf⟩ := DataW.trod_struct ht h
  match xs, hlen with
  | [y0, y1, y2, y3, y4], _ => exact ⟨y0, y1, y2, y3, y4, n, by simpa using hf 0 f0 rfl, by simpa using hf 1 f1 rfl, by simpa using hf 2 f2 rfl, by simpa using hf 3 f3 rfl, by simpa using hf 4 f4 rfl⟩

/-- A call: kind, E, U, V, bits. -/
abbrev OpV := Int × Int × Int × Int × Int
def okOp (o : OpV) : Prop := (Lit.int .i64 o.1).wf = true ∧ (Lit.int .i64 o.2.1).wf = true ∧ (Lit.int .i64 o.2.2.1).wf = true ∧ (Lit.int .i64 o.2.2.2.1).wf = true ∧ (Lit.int .u32 o.2.2.2.2).wf = true
def OpAt (w : World) (b off : Nat) (o : OpV) : Prop := w.cell? ⟨b, off, none⟩ = some (.int .i64 o.1) ∧ w.cell? ⟨b, off + 1, none⟩ = some (.int .i64 o.2.1) ∧ w.cell? ⟨b, off + 2, none⟩ = some (.int .i64 o.2.2.1) ∧ w.cell? ⟨b, off + 3, none⟩ = some (.int .i64 o.2.2.2.1) ∧ w.cell? ⟨b, off + 4, none⟩ = some (.int .u32 o.2.2.2.2)
/-- It is empty; or its cells are these calls. -/
def IsOps (w : World) (a : Option Addr) (len : Nat) (o : Nat → OpV) : Prop :=
  len = 0 ∨ ∃ b off, a = some ⟨b, off, none⟩ ∧ 0 < len ∧ ∀ i, i < len → OpAt w b (off + i * 5) (o i) ∧ okOp (o i)

theorem open_ops {H : Type} {enc : TypeId × Value → H} {W : World} {spare : Nat → Bool} {held : Bool} {a : Option Addr} {len cap : Nat} {d : DataW H} {p : List MemPlace}
    (h : DataW.Trod enc Tryz.prog W 0 spare held 22 (.slice a len cap) d p) : ∃ o, IsOps W a len o ∧ (d = .nil ∧ len = 0 ∨ ∃ es sp, d = .slice es sp ∧ len ≤ es.length) := by
  obtain ⟨fuel, hf⟩ := h
  rcases Deep.open_slice Tryz.underlying22 hf with ⟨hcs, hx⟩ | ⟨x, l, c, m, n, D, Pl, hcs, -, hl, hm, hmm, hx, hel⟩
  · simp [Value.cells] at hcs
    obtain ⟨rfl, rfl, rfl⟩ := hcs
    simp only [Prod.mk.injEq] at hx
    exact ⟨fun _ => (0, 0, 0, 0, 0), .inl rfl, .inl ⟨hx.1, rfl⟩⟩
  · simp [Value.cells] at hcs
    obtain ⟨rfl, rfl, rfl⟩ := hcs
    simp only [Prod.mk.injEq] at hx
    have hlm : len ≤ m := by rw [hmm]; split <;> omega
    rw [cellsOf38] at hel
    obtain ⟨o, ho⟩ := Deep.choose_lt (α := OpV) (n := len) (p := fun i o => (W.cell? (x.add (i * 5)) = some (.int .i64 o.1) ∧ W.cell? ((x.add (i * 5)).add 1) = some (.int .i64 o.2.1) ∧
        W.cell? ((x.add (i * 5)).add 2) = some (.int .i64 o.2.2.1) ∧ W.cell? ((x.add (i * 5)).add 3) = some (.int .i64 o.2.2.2.1) ∧ W.cell? ((x.add (i * 5)).add 4) = some (.int .u32 o.2.2.2.2)) ∧ okOp o) (fun i hi => by
      obtain ⟨cs', h1, h2⟩ := hel i (by omega)
      obtain ⟨-, hlen, hc⟩ := World.cells?_some h1
      match cs', hlen with
      | [c0, c1, c2, c3, c4], _ =>
        obtain ⟨y0, y1, y2, y3, y4, q, e0, e1, e2, e3, e4⟩ := trod_struct5 Tryz.underlying38 h2
        simp only [cellsOf3, cellsOfU, List.drop, List.take] at e0 e1 e2 e3 e4
        obtain ⟨k0, f0, -, w0⟩ := DataW.trod_int Tryz.underlying3 e0
        obtain ⟨k1, f1, -, w1⟩ := DataW.trod_int Tryz.underlying3 e1
        obtain ⟨k2, f2, -, w2⟩ := DataW.trod_int Tryz.underlying3 e2
        obtain ⟨k3, f3, -, w3⟩ := DataW.trod_int Tryz.underlying3 e3
        obtain ⟨k4, f4, -, w4⟩ := DataW.trod_int Tryz.underlying36 e4
        simp only [List.cons.injEq, and_true] at f0 f1 f2 f3 f4
        subst f0 f1 f2 f3 f4
        refine ⟨(k0, k1, k2, k3, k4), ⟨?_, ?_, ?_, ?_, ?_⟩, w0, w1, w2, w3, w4⟩
        · have := hc 0 (by omega); simpa [Addr.add] using this
        · have := hc 1 (by omega); simpa using this
        · have := hc 2 (by omega); simpa using this
        · have := hc 3 (by omega); simpa using this
        · have := hc 4 (by omega); simpa using this)
    refine ⟨o, ?_, .inr ⟨_, _, hx.1, by simp⟩⟩
    rcases Nat.eq_zero_or_pos len with h0 | h0
    · exact .inl h0
    · obtain ⟨b, off, spot⟩ := x
      obtain rfl : spot = none := addr_none (ho 0 h0).1.1
      refine .inr ⟨b, off, rfl, h0, fun i hi => ?_⟩
      have := ho i hi
      simp only [add_off] at this
      exact this
end

section
open Go.RowKit Go.Maps
/-- The tree and the graph's box, behind some calls. -/
structure LS (w : World) (gb p : Nat) (s tc : Int) (vs : List Int) (gs : List EdV) (T : L14.Tr) (N : Nat) (vv ev : Value) (wr : Int) (L : Lab) (W : World) : Prop where
  k : LvK L W p s tc vs gs T N
  g : GV vs gs N
  box : W.heap[gb]? = some (oG vv ev 0 wr)
  vs : NRow W vv vs
  gs : ERow 0 W ev gs
  lv : ∀ b, vv.ownBlock = some b → L b = none ∧ b ≠ gb ∧ w.heap.size ≤ b
  le : ∀ b, ev.ownBlock = some b → L b = none ∧ b ≠ gb ∧ w.heap.size ≤ b
  lg : L gb = none
  low : ∀ b, b < w.heap.size → L b = none
  bel : Below w.heap.size w W
  hg : w.heap.size ≤ gb
  wr0 : 0 ≤ wr
  wr1 : wr ≤ N
section
variable {w W W' : World} {gb p : Nat} {s tc : Int} {vs : List Int} {gs : List EdV} {T : L14.Tr} {N : Nat} {vv ev : Value} {wr : Int} {L : Lab}
theorem LS.below (h : LS w gb p s tc vs gs T N vv ev wr L W) (hb : Below W.heap.size W W') : LS w gb p s tc vs gs T N vv ev wr L W' :=
  ⟨h.k.below hb, h.g, (hb.block gb (heap_lt h.box)).trans h.box, nrow_below h.vs hb, rrow_below h.gs hb, h.lv, h.le, h.lg, h.low, h.bel.trans (hb.mono h.bel.size), h.hg, h.wr0, h.wr1⟩
/-- One call is played: the graph's box is the old one, until the answer is stored. -/
theorem LS.play {k e : Int} {r : Ending} (h : LS w gb p s tc vs gs T N vv ev wr L W) (hp : PlayAns L W p s tc vs gs T N vv ev 0 wr k e r W') :
    ∃ vv' ev' wr' vs' gs' T' tc' L', r = .returned (.tuple #[.agg #[vv', ev', .int .i64 0, .int .i64 wr'], .bool true]) ∧ W'.heap[gb]? = some (oG vv ev 0 wr) ∧ LS w gb p s tc' vs' gs' T' (N + 1) vv' ev' wr' L' (set4 W' gb vv' ev' (.int .i64 0) (.int .i64 wr')) ∧ Bd k e wr wr' gs T tc gs' T' tc' ∧ ∀ b, b < W.heap.size → L b = none → b ≠ gb → (set4 W' gb vv' ev' (.int .i64 0) (.int .i64 wr')).heap[b]? = W.heap[b]? := by
  obtain ⟨vv', ev', wr', vs', gs', T', tc', L', rfl, q1, q2, q3, q4, q5, q6, q7, q8, q9, q10⟩ := hp
  have hgl := heap_lt h.box
  have hbx := (q3.tur.block gb hgl (fun z => z h.lg)).trans h.box
  have hlg := (q3.lab_ gb hgl).trans h.lg
  have hbs := h.bel.size
  refine ⟨vv', ev', wr', vs', gs', T', tc', L', rfl, hbx, ⟨q1.set hlg _ _ _ _, q2, set4G_at hbx _ _ _ _, ?_, ?_, ?_, ?_, hlg, fun b hb => (q3.lab_ b (by omega)).trans (h.low b hb), ?_, h.hg, by have := h.wr0; omega, by have := h.wr1; omega⟩, q10, fun b hb hl hn => ?_⟩
  · exact nrow_kept q4 (fun b q => set4_other (fun z => by
      rcases (q6 b q).2 with y | y
      · exact (h.lv b y).2.1 z
      · omega) _ _ _ _)
  · exact erow_kept q5 (fun b q => set4_other (fun z => by
      rcases (q7 b q).2 with y | y
      · exact (h.le b y).2.1 z
      · omega) _ _ _ _)
  · intro b q
    refine ⟨(q6 b q).1, fun z => ?_, ?_⟩
    · rcases (q6 b q).2 with y | y
      · exact (h.lv b y).2.1 z
      · omega
    · rcases (q6 b q).2 with y | y
      · exact (h.lv b y).2.2
      · omega
  · intro b q
    refine ⟨(q7 b q).1, fun z => ?_, ?_⟩
    · rcases (q7 b q).2 with y | y
      · exact (h.le b y).2.1 z
      · omega
    · rcases (q7 b q).2 with y | y
      · exact (h.le b y).2.2
      · omega
  · exact set4_below (h.bel.trans ⟨q3.tur.os, q3.tur.tape, q3.tur.output, q3.tur.size, fun b hb => q3.tur.block b (by omega) (fun z => z (h.low b hb))⟩) h.hg _ _ _ _
  · rw [set4_other hn]; exact q3.tur.block b hb (fun z => z hl)
/-- At the beginning. -/
theorem ls_new {w1 : World} (h : NewL w s p w1) : ∃ T L, LS w (w1.heap.size + 1) p s 0 [s] [] T 1 (.slice (some ⟨w1.heap.size, 0, none⟩) 1 1) (.slice none 0 0) 0 L ((w1.alloc (.cells #[.int .i64 s] 3)).alloc (oG (.slice (some ⟨w1.heap.size, 0, none⟩) 1 1) (.slice none 0 0) 0 0)) := by
  obtain ⟨k3, L, k1, k2⟩ := h
  have hs := k3.size
  have s1 : (w1.alloc (.cells #[.int .i64 s] 3)).heap.size = w1.heap.size + 1 := by simp
  have b1 := below_new w1 (.cells #[.int .i64 s] 3)
  have b2 := below_new (w1.alloc (.cells #[.int .i64 s] 3)) (oG (.slice (some ⟨w1.heap.size, 0, none⟩) 1 1) (.slice none 0 0) 0 0)
  have n1 := row_new w1 #[.int .i64 s] [s] rfl (by simp)
  have n2 := heap_alloc_new (w1.alloc (.cells #[.int .i64 s] 3)) (oG (.slice (some ⟨w1.heap.size, 0, none⟩) 1 1) (.slice none 0 0) 0 0)
  rw [s1] at n2
  have hb := b1.trans (b2.mono (by omega))
  refine ⟨_, L, k1.below hb, ⟨by simp, Nat.zero_le _⟩, n2, nrow_below (brow_at0 n1) b2, ⟨rfl, .inl ⟨rfl, rfl⟩⟩, fun b q => ?_, fun b q => (by cases q), k1.fr _ (by omega), k2, k3.trans (hb.mono hs), by omega, Int.le_refl _, by omega⟩
  have e : w1.heap.size = b := Option.some.inj q
  subst e
  exact ⟨k1.fr _ (Nat.le_refl _), by omega, hs⟩
theorem ls_play [Inhabited EntF] (h : LS w gb p s tc vs gs T N vv ev wr L W) (hN : N ≤ 199) {k e u v b : Int} (he : okN e) (hu : okN u) (hv : okN v) (hb : 0 ≤ b) : Calls Tryz.prog 12 #[.pointer (some ⟨p, 0, none⟩), .agg #[vv, ev, .int .i64 0, .int .i64 wr], .int .i64 s, .agg #[.int .i64 k, .int .i64 e, .int .i64 u, .int .i64 v, .int .u32 b]] W fun r w' => Hid (PlayAns L W p s tc vs gs T N vv ev 0 wr k e r w') :=
  playT h.k hN h.g h.vs h.gs (fun b q => (h.lv b q).1) (fun b q => (h.le b q).1) h.wr0 (by have := h.wr1; omega) he hu hv hb
end
theorem cell_lt14 {w : World} {b o : Nat} {v : Value} (h : w.cell? ⟨b, o, none⟩ = some v) : b < w.heap.size := by
  rcases Nat.lt_or_ge b w.heap.size with q | q
  · exact q
  · unfold World.cell? at h
    rw [Array.getElem?_eq_none q] at h; cases h
theorem opAt_lt {w : World} {b off : Nat} {o : OpV} (h : OpAt w b off o) : b < w.heap.size := cell_lt14 h.1
theorem opAt_block {w W : World} {b off : Nat} {o : OpV} (hb : W.heap[b]? = w.heap[b]?) (h : OpAt w b off o) : OpAt W b off o := by
  have e : ∀ j, W.cell? ⟨b, j, none⟩ = w.cell? ⟨b, j, none⟩ := fun j => by unfold World.cell?; rw [hb]
  obtain ⟨h1, h2, h3, h4, h5⟩ := h
  exact ⟨(e _).trans h1, (e _).trans h2, (e _).trans h3, (e _).trans h4, (e _).trans h5⟩
theorem opAt_below {w W : World} {b off : Nat} {o : OpV} (h : OpAt w b off o) (hb : Below w.heap.size w W) : OpAt W b off o := opAt_block (hb.block b (opAt_lt h)) h
theorem okOp_bits {o : OpV} (h : okOp o) : 0 ≤ o.2.2.2.2 := by
  have := h.2.2.2.2
  simp [Lit.wf] at this
  first | omega | exact this.1 | skip
/-- What built leaves. -/
def BuiltA (w : World) (p : Nat) (s : Int) (vv ev : Value) (wr : Int) (W : World) : Prop :=
  ∃ L tc vs gs T N, LvK L W p s tc vs gs T N ∧ GV vs gs N ∧ N ≤ 61 ∧ NRow W vv vs ∧ ERow 0 W ev gs ∧ (∀ b, vv.ownBlock = some b → L b = none ∧ w.heap.size ≤ b) ∧ (∀ b, ev.ownBlock = some b → L b = none ∧ w.heap.size ≤ b) ∧ (∀ b, b < w.heap.size → L b = none) ∧ Below w.heap.size w W ∧ 0 ≤ wr ∧ wr ≤ 61
end

section
open Go.RowKit Go.Maps
theorem results_tmp_cell_tmp {fn : Func} {p u q : Tmp} {ty : TypeId} (h : fn.results = #[.tmp u, .cell p ty, .tmp q]) (tmps : Array Value) (P : Program) (w : World) (x : Addr) (vx : Value) (hp : tmps.getD p undef = .pointer (some x)) (hx : (loadVar ty x).run P w = .ok vx w) :
    (results fn tmps).run P w = .ok (.tuple #[tmps.getD u undef, vx, tmps.getD q undef]) w := by
  have hp' : tmps[p]?.getD undef = .pointer (some x) := by simpa using hp
  simp [results, h, hp', asAddr, hx]
theorem ls_done {w w0 W : World} {gb p rb i : Nat} {s tc : Int} {vs : List Int} {gs : List EdV} {T : L14.Tr} {vv ev : Value} {wr : Int} {L : Lab} (h : LS w0 gb p s tc vs gs T (i + 1) vv ev wr L W) (hi : i ≤ 60) (hr : w0.heap[rb]? = some oZ ∧ rb = w.heap.size ∧ w0 = w.alloc oZ) (hb : Below w.heap.size w w0) :
    BuiltA w p s vv ev wr (set4 W rb vv ev (.int .i64 0) (.int .i64 wr)).drew := by
  have hrl := heap_lt hr.1
  have hs := hb.size
  have hd := (Below.refl (set4 W rb vv ev (.int .i64 0) (.int .i64 wr)).heap.size (set4 W rb vv ev (.int .i64 0) (.int .i64 wr))).drew
  refine ⟨L, tc, vs, gs, T, i + 1, (h.k.set (h.low rb hrl) _ _ _ _).below hd, h.g, by omega, nrow_below (nrow_kept h.vs (fun b q => set4_other (by have := (h.lv b q).2.2; omega) _ _ _ _)) hd, rrow_below (erow_kept h.gs (fun b q => set4_other (by have := (h.le b q).2.2; omega) _ _ _ _)) hd, fun b q => ⟨(h.lv b q).1, by have := (h.lv b q).2.2; omega⟩, fun b q => ⟨(h.le b q).1, by have := (h.le b q).2.2; omega⟩, fun b q => h.low b (by omega), (set4_below (hb.trans (h.bel.mono hs)) (by omega) _ _ _ _).drew, h.wr0, by have := h.wr1; omega⟩
set_option maxHeartbeats 8000000 in
set_option maxRecDepth 100000 in
theorem builtT [Inhabited EntF] (a : Option Addr) (len cap : Nat) (o : Nat → OpV) (w : World) (h : IsOps w a len o) {s : Int} (os : okN s) :
    Calls Tryz.prog 8 #[.int .i64 s, .slice a len cap] w fun e w' => ∃ p va vn vc ea en ec wr, e = .returned (.tuple #[.pointer (some ⟨p, 0, none⟩), .agg #[.slice va vn vc, .slice ea en ec, .int .i64 0, .int .i64 wr], .bool true]) ∧ Hid (BuiltA w p s (.slice va vn vc) (.slice ea en ec) wr w') := by
  have hb0 := below_new w oZ
  have hr0 := heap_alloc_new w oZ
  obtain ⟨rb, hrb⟩ : ∃ rb, rb = w.heap.size := ⟨_, rfl⟩
  obtain ⟨w0, hw0⟩ : ∃ w0, w0 = w.alloc oZ := ⟨_, rfl⟩
  rw [← hw0] at hb0 hr0
  rw [← hrb] at hr0
  have HO : Hid (IsOps w a len o ∧ Below w.heap.size w w0) := ⟨h, hb0⟩
  have HR0 : Hid (w0.heap[rb]? = some oZ ∧ rb = w.heap.size ∧ w0 = w.alloc oZ) := ⟨hr0, hrb, hw0⟩
  have C0 := hide (vNewT w0 os)
  clear h hb0 hr0 hrb hw0 os
  go_enter Tryz.func8, Tryz.ntmps8
  go_upto_region 1 with fail
  change Code.wp _ _ _ _ (w.alloc oZ)
  rw [← (unhide HR0).2.2, ← (unhide HR0).2.1]
  go_wp2_with fail
  refine (unhide C0).mono ?_
  rintro e w1 ⟨p, rfl, HN⟩
  obtain ⟨T0, L0, hl0⟩ := ls_new (unhide HN)
  have HL0 := hide hl0
  clear HN hl0 C0
  go_upto_region 2 with fail
  (try simp only [Option.getD_some, heap_alloc_size])
  change Code.wp _ _ _ _ ((w1.alloc (.cells #[.int .i64 s] 3)).alloc (oG (.slice (some ⟨w1.heap.size, 0, none⟩) 1 1) (.slice none 0 0) 0 0))
  obtain ⟨gb, hgb⟩ : ∃ gb, gb = w1.heap.size + 1 := ⟨_, rfl⟩
  rw [← hgb] at HL0 ⊢
  clear hgb
  generalize (w1.alloc (.cells #[.int .i64 s] 3)).alloc (oG (.slice (some ⟨w1.heap.size, 0, none⟩) 1 1) (.slice none 0 0) 0 0) = w2 at *
  go_wp2_with fail
  go_loopw [9] (fun s9 W => ∃ i : Nat, s9 = .int .i64 i ∧ Hid (i ≤ 60 ∧ ∃ tc vs gs T vv ev wr L, LS w0 gb p s tc vs gs T (i + 1) vv ev wr L W)) (fun s9 _ => 60 - (intOf s9).toNat)
  case atStart => exact ⟨0, rfl, by omega, 0, [s], [], T0, _, _, 0, L0, unhide HL0⟩
  case round =>
    obtain ⟨i, rfl, HR⟩ := hrel
    clear HL0
    obtain ⟨hi60, tc, vs, gs, T, vv, ev, wr0, L1, hls⟩ := unhide HR
    by_cases hlt : i < len ∧ i < 60
    · obtain ⟨hl1, hl2⟩ := hlt
      obtain ⟨b, off, rfl, -, hops⟩ := (unhide HO).1.resolve_left (by omega)
      obtain ⟨hop, hok⟩ := hops i hl1
      replace hop := opAt_below hop (unhide HO).2
      have hop2 := opAt_below hop hls.bel
      clear hops
      generalize o i = oi at hop hop2 hok
      have hbi := okOp_bits hok
      obtain ⟨k, e, u, v, n⟩ := oi
      obtain ⟨ok0, ok1, ok2, ok3, ok4⟩ := hok
      obtain ⟨i1, hi1⟩ : ∃ i1, i1 = i + 1 := ⟨_, rfl⟩
      have HI : Hid (i1 = i + 1 ∧ i < 60 ∧ i ≤ 60 ∧ 60 - i1 < 60 - i) := ⟨hi1, hl2, by omega, by omega⟩
      have zw : Hid (wrap64 ((i : Int) + 1) = (i1 : Int)) := by show wrap64 ((i : Int) + 1) = (i1 : Int); unfold wrap64; omega
      have y1 : (i : Int) < (len : Int) := by omega
      have y2 : (i : Int) < 60 := by omega
      obtain ⟨va, vc, hv1, -⟩ := brow_shape hls.vs
      obtain ⟨vn, hv1'⟩ : ∃ vn, vv = .slice va vn vc := ⟨_, hv1⟩
      clear hv1
      obtain ⟨ea, ec, he1⟩ := rrow_shape hls.gs
      obtain ⟨en, he1'⟩ : ∃ en, ev = .slice ea en ec := ⟨_, he1⟩
      clear he1
      subst hv1' he1'
      obtain ⟨c0, c1, c2, c3, cf⟩ := cellsG hls.box
      have hls1 := hls.below (below_drewN (Below.refl _ wr) 1)
      have CP := hide (ls_play (k := k) hls1 (by omega) ok1 ok2 ok3 hbi)
      have HLS := hide hls1
      have HK : Hid (∀ W, Below w0.heap.size w0 W → W.cell? ⟨b, off + i * 5, none⟩ = some (.int .i64 k) ∧ W.cell? ⟨b, off + i * 5 + 1, none⟩ = some (.int .i64 e) ∧ W.cell? ⟨b, off + i * 5 + 2, none⟩ = some (.int .i64 u) ∧ W.cell? ⟨b, off + i * 5 + 3, none⟩ = some (.int .i64 v) ∧ W.cell? ⟨b, off + i * 5 + 4, none⟩ = some (.int .u32 n)) := fun W hW => opAt_below hop hW
      obtain ⟨f0, f1, f2, f3, f4⟩ := hop2
      (try dsimp only at f0 f1 f2 f3 f4)
      have hS0 : (wr.drewN 1).cell? ⟨b, off + i * 5, none⟩ = some (.int .i64 k) ∧ (wr.drewN 1).cell? ⟨b, off + i * 5 + 1, none⟩ = some (.int .i64 e) ∧ (wr.drewN 1).cell? ⟨b, off + i * 5 + 2, none⟩ = some (.int .i64 u) ∧ (wr.drewN 1).cell? ⟨b, off + i * 5 + 3, none⟩ = some (.int .i64 v) ∧ (wr.drewN 1).cell? ⟨b, off + i * 5 + 4, none⟩ = some (.int .u32 n) := ⟨f0, f1, f2, f3, f4⟩
      clear HR hls hls1 hop ok0 ok1 ok2 ok3 ok4 hbi hi60 hl1 hl2 hi1
      go_upto_region 8 with fail
      refine wp_region_noPanic ?_
      refine regionL [] (fun y => y.cell? ⟨b, off + i * 5, none⟩ = some (.int .i64 k) ∧ y.cell? ⟨b, off + i * 5 + 1, none⟩ = some (.int .i64 e) ∧ y.cell? ⟨b, off + i * 5 + 2, none⟩ = some (.int .i64 u) ∧ y.cell? ⟨b, off + i * 5 + 3, none⟩ = some (.int .i64 v) ∧ y.cell? ⟨b, off + i * 5 + 4, none⟩ = some (.int .u32 n)) (by kernel_rfl) hS0 (fun hHeld => ?_)
      refine takeL (i := 0) (v := ?t2v0) (some 30) rfl rfl (by kernel_rfl) (by kernel_rfl) (by kernel_rfl) (by kernel_rfl) (by kernel_rfl) (fun _ _ _ h => h) (Or.inl ⟨by rfl, ?t2h0⟩) (by assumption) ?t2r0
      case t2h0 => (intro y hSu; (try dsimp only at hSu); go_simp; first | done | with_reducible rfl)
      (try simp only [Act.put, List.setIfInBounds_toArray, List.set_cons_zero, List.set_cons_succ])
      refine takeL (i := 2) (v := ?t2v2) (some 32) rfl rfl (by kernel_rfl) (by kernel_rfl) (by kernel_rfl) (by kernel_rfl) (by kernel_rfl) (fun _ _ _ h => h) (Or.inl ⟨by rfl, ?t2h2⟩) (by assumption) ?t2r2
      case t2h2 => (intro y hSu; (try dsimp only at hSu); go_simp; first | done | with_reducible rfl)
      (try simp only [Act.put, List.setIfInBounds_toArray, List.set_cons_zero, List.set_cons_succ])
      refine takeL (i := 3) (v := ?t2v3) (some 33) rfl rfl (by kernel_rfl) (by kernel_rfl) (by kernel_rfl) (by kernel_rfl) (by kernel_rfl) (fun _ _ _ h => h) (Or.inl ⟨by rfl, ?t2h3⟩) (by assumption) ?t2r3
      case t2h3 => (intro y hSu; (try dsimp only at hSu); go_simp; first | done | with_reducible rfl)
      (try simp only [Act.put, List.setIfInBounds_toArray, List.set_cons_zero, List.set_cons_succ])
      refine takeL (i := 4) (v := ?t2v4) (some 34) rfl rfl (by kernel_rfl) (by kernel_rfl) (by kernel_rfl) (by kernel_rfl) (by kernel_rfl) (fun _ _ _ h => h) (Or.inl ⟨by rfl, ?t2h4⟩) (by assumption) ?t2r4
      case t2h4 => (intro y hSu; (try dsimp only at hSu); go_simp; first | done | with_reducible rfl)
      (try simp only [Act.put, List.setIfInBounds_toArray, List.set_cons_zero, List.set_cons_succ])
      refine takeL (i := 5) (v := ?t2v5) (some 35) rfl rfl (by kernel_rfl) (by kernel_rfl) (by kernel_rfl) (by kernel_rfl) (by kernel_rfl) (fun _ _ _ h => h) (Or.inl ⟨by rfl, ?t2h5⟩) (by assumption) ?t2r5
      case t2h5 => (intro y hSu; (try dsimp only at hSu); go_simp; first | done | with_reducible rfl)
      (try simp only [Act.put, List.setIfInBounds_toArray, List.set_cons_zero, List.set_cons_succ])
      refine takeL (i := 6) (v := ?t2v6) (some 36) rfl rfl (by kernel_rfl) (by kernel_rfl) (by kernel_rfl) (by kernel_rfl) (by kernel_rfl) (fun _ _ _ h => h) (Or.inl ⟨by rfl, ?t2h6⟩) (by assumption) ?t2r6
      case t2h6 => (intro y hSu; (try dsimp only at hSu); go_simp; first | done | with_reducible rfl)
      (try simp only [Act.put, List.setIfInBounds_toArray, List.set_cons_zero, List.set_cons_succ])
      refine readyL (i := 1) (by kernel_rfl) rfl (fun K hK => ?_)
      go_simp
      refine hK.out _ _ (fun _ => hS0) ?_
      clear hK K
      (try simp only [Act.put, List.setIfInBounds_toArray, List.set_cons_zero, List.set_cons_succ])
      have hH4 := hS0
      refine readyL (i := 7) (by kernel_rfl) rfl (fun K hK => ?_)
      go_simp
      refine (unhide CP).mono ?_
      intro r6 w5 hp
      obtain ⟨vv', ev', wr', vs', gs', T', tc', L', rfl, hbx, hls6, -, -⟩ := (unhide HLS).play (unhide hp)
      obtain ⟨va', vc', hv1, -⟩ := brow_shape hls6.vs
      obtain ⟨vn', hv1'⟩ : ∃ vn', vv' = .slice va' vn' vc' := ⟨_, hv1⟩
      clear hv1
      obtain ⟨ea', ec', he1⟩ := rrow_shape hls6.gs
      obtain ⟨en', he1'⟩ : ∃ en', ev' = .slice ea' en' ec' := ⟨_, he1⟩
      clear he1
      subst hv1' he1'
      have hS3 : w5.cell? ⟨b, off + i * 5, none⟩ = some (.int .i64 k) ∧ w5.cell? ⟨b, off + i * 5 + 1, none⟩ = some (.int .i64 e) ∧ w5.cell? ⟨b, off + i * 5 + 2, none⟩ = some (.int .i64 u) ∧ w5.cell? ⟨b, off + i * 5 + 3, none⟩ = some (.int .i64 v) ∧ w5.cell? ⟨b, off + i * 5 + 4, none⟩ = some (.int .u32 n) := by
        have hq : ∀ x, x < w0.heap.size → w5.heap[x]? = w0.heap[x]? := fun x hx => by
          have h1 := hls6.bel.block x hx
          rw [set4_other (show x ≠ gb by have := hls6.hg; omega)] at h1
          exact h1
        have hw := unhide HK w0 (Below.refl _ _)
        have hb0 := cell_lt14 hw.1
        exact opAt_block (o := (k, e, u, v, n)) (off := off + i * 5) (hq b hb0) hw
      have hS4 := unhide HK (set4 w5 gb (.slice va' vn' vc') (.slice ea' en' ec') (.int .i64 0) (.int .i64 wr')) hls6.bel
      unfold set4 at hS4
      have HNX : Hid (i1 ≤ 60 ∧ ∃ tc vs gs T vv ev wr L, LS w0 gb p s tc vs gs T (i1 + 1) vv ev wr L (set4 w5 gb (.slice va' vn' vc') (.slice ea' en' ec') (.int .i64 0) (.int .i64 wr'))) := by
        obtain ⟨q1, q2, q3, q4⟩ := unhide HI
        refine ⟨by omega, tc', vs', gs', T', .slice va' vn' vc', .slice ea' en' ec', wr', L', ?_⟩
        rw [q1]
        exact hls6
      obtain ⟨d0, d1, d2, d3, df⟩ := cellsG hbx
      have HLS6 := hide hls6
      clear CP hp hls6 hbx HLS
      (try dsimp only)
      refine hK.out _ _ (fun _ => hS3) ?_
      clear hK K
      (try simp only [Act.put, List.setIfInBounds_toArray, List.set_cons_zero, List.set_cons_succ])
      have hH6 := hS3
      refine takeL (i := 8) (v := ?t7v8) (some 29) rfl rfl (by kernel_rfl) (by kernel_rfl) (by kernel_rfl) (by kernel_rfl) (by kernel_rfl) (fun _ _ _ h => h) (Or.inl ⟨by rfl, ?t7h8⟩) (by assumption) ?t7r8
      case t7h8 => (intro y hSu; (try dsimp only at hSu); go_simp; first | done | with_reducible rfl)
      (try simp only [Act.put, List.setIfInBounds_toArray, List.set_cons_zero, List.set_cons_succ])
      refine takeL (i := 9) (v := ?t7v9) (some 38) rfl rfl (by kernel_rfl) (by kernel_rfl) (by kernel_rfl) (by kernel_rfl) (by kernel_rfl) (fun _ _ _ h => h) (Or.inl ⟨by rfl, ?t7h9⟩) (by assumption) ?t7r9
      case t7h9 => (intro y hSu; (try dsimp only at hSu); go_simp; first | done | with_reducible rfl)
      (try simp only [Act.put, List.setIfInBounds_toArray, List.set_cons_zero, List.set_cons_succ])
      refine takeL (i := 10) (v := ?t7v10) (some 39) rfl rfl (by kernel_rfl) (by kernel_rfl) (by kernel_rfl) (by kernel_rfl) (by kernel_rfl) (fun _ _ _ h => h) (Or.inl ⟨by rfl, ?t7h10⟩) (by assumption) ?t7r10
      case t7h10 => (intro y hSu; (try dsimp only at hSu); go_simp; first | done | with_reducible rfl)
      (try simp only [Act.put, List.setIfInBounds_toArray, List.set_cons_zero, List.set_cons_succ])
      refine readyL (i := 11) (by kernel_rfl) rfl (fun K hK => ?_)
      go_simp
      refine hK.out _ _ (fun _ => hS4) ?_
      clear hK K
      (try simp only [Act.put, List.setIfInBounds_toArray, List.set_cons_zero, List.set_cons_succ])
      have hH9 := hS4
      refine takeL (i := 12) (v := ?t10v12) (some 10) rfl rfl (by kernel_rfl) (by kernel_rfl) (by kernel_rfl) (by kernel_rfl) (by kernel_rfl) (fun _ _ _ h => h) (Or.inl ⟨by rfl, ?t10h12⟩) (by assumption) ?t10r12
      case t10h12 => (intro y hSu; (try dsimp only at hSu); go_simp; first | done | with_reducible rfl)
      (try simp only [Act.put, List.setIfInBounds_toArray, List.set_cons_zero, List.set_cons_succ])
      refine doneL (by kernel_rfl) ?_ _
      refine NoPanic.normal ?_
      change Exit.then _ _ _ _ (set4 w5 gb (.slice va' vn' vc') (.slice ea' en' ec') (.int .i64 0) (.int .i64 wr'))
      generalize set4 w5 gb (.slice va' vn' vc') (.slice ea' en' ec') (.int .i64 0) (.int .i64 wr') = w6 at *
      clear d0 d1 d2 d3 df hS0 hS3 hS4 c0 c1 c2 c3 cf f0 f1 f2 f3 f4 HK
      clear HLS6
      go_wp2_with fail
      (try rw [unhide zw])
      exact ⟨⟨i1, by first | rfl | (rw [(unhide HI).1]; rfl), unhide HNX⟩, by have := (unhide HI).2.2.2; have := (unhide HI).1; simp [intOf]; omega⟩
    · obtain ⟨va, vc, hv1, -⟩ := brow_shape hls.vs
      obtain ⟨vn, hv1'⟩ : ∃ vn, vv = .slice va vn vc := ⟨_, hv1⟩
      clear hv1
      obtain ⟨ea, ec, he1⟩ := rrow_shape hls.gs
      obtain ⟨en, he1'⟩ : ∃ en, ev = .slice ea en ec := ⟨_, he1⟩
      clear he1
      subst hv1' he1'
      obtain ⟨c0, c1, c2, c3, cf⟩ := cellsG hls.box
      have HLS := hide hls
      have HI60 := hide hi60
      clear HR hls
      by_cases hl1 : i < len
      · have y1 : (i : Int) < (len : Int) := by omega
        have y2 : ¬ (i : Int) < 60 := by omega
        clear hlt hl1 hi60
        have hres := (unhide HLS).bel.block rb (heap_lt (unhide HR0).1)
        replace hres := hres.trans (unhide HR0).1
        have hrg : rb ≠ gb := by have := (unhide HLS).hg; have := heap_lt (unhide HR0).1; omega
        obtain ⟨d0, d1, d2, d3, df⟩ := cellsG (vv := .slice none 0 0) (ev := .slice none 0 0) (rd := 0) (wr := 0) hres
        have HE1 := hide (drewAt (set4G_at hres (.slice va vn vc) (.slice ea en ec) (.int .i64 0) (.int .i64 wr0)))
        have n1 : ¬ rb = gb := hrg
        have n2 : ¬ gb = rb := fun e => hrg e.symm
        have HFIN := hide (ls_done (unhide HLS) (unhide HI60) (unhide HR0) (unhide HO).2)
        clear hres HLS HI60 HR0 HO hrg
        go_upto_region 11 with fail
        go_region
        all_goals
          go_wp2_with fail
          (try simp only [Exit.inBlock, Exit.then])
          change bodyPost _ _ _ _ _ (set4 wr rb (.slice va vn vc) (.slice ea en ec) (.int .i64 0) (.int .i64 wr0)).drew
          have e1 := unhide HE1
          generalize (set4 wr rb (.slice va vn vc) (.slice ea en ec) (.int .i64 0) (.int .i64 wr0)).drew = w9 at *
          clear HE1 c0 c1 c2 c3 cf d0 d1 d2 d3 df
          refine bodyPost_ret (results_tmp_cell_tmp rfl _ _ _ ⟨rb, 0, none⟩ _ rfl (loadG _ _ _ _ _ _ e1)) rfl ?_
          exact ⟨p, va, vn, vc, ea, en, ec, wr0, rfl, HFIN⟩
      · have y1 : ¬ (i : Int) < (len : Int) := by omega
        clear hlt hl1 hi60
        have hres := (unhide HLS).bel.block rb (heap_lt (unhide HR0).1)
        replace hres := hres.trans (unhide HR0).1
        have hrg : rb ≠ gb := by have := (unhide HLS).hg; have := heap_lt (unhide HR0).1; omega
        obtain ⟨d0, d1, d2, d3, df⟩ := cellsG (vv := .slice none 0 0) (ev := .slice none 0 0) (rd := 0) (wr := 0) hres
        have HE1 := hide (drewAt (set4G_at hres (.slice va vn vc) (.slice ea en ec) (.int .i64 0) (.int .i64 wr0)))
        have n1 : ¬ rb = gb := hrg
        have n2 : ¬ gb = rb := fun e => hrg e.symm
        have HFIN := hide (ls_done (unhide HLS) (unhide HI60) (unhide HR0) (unhide HO).2)
        clear hres HLS HI60 HR0 HO hrg
        go_upto_region 11 with fail
        go_region
        all_goals
          go_wp2_with fail
          (try simp only [Exit.inBlock, Exit.then])
          change bodyPost _ _ _ _ _ (set4 wr rb (.slice va vn vc) (.slice ea en ec) (.int .i64 0) (.int .i64 wr0)).drew
          have e1 := unhide HE1
          generalize (set4 wr rb (.slice va vn vc) (.slice ea en ec) (.int .i64 0) (.int .i64 wr0)).drew = w9 at *
          clear HE1 c0 c1 c2 c3 cf d0 d1 d2 d3 df
          refine bodyPost_ret (results_tmp_cell_tmp rfl _ _ _ ⟨rb, 0, none⟩ _ rfl (loadG _ _ _ _ _ _ e1)) rfl ?_
          exact ⟨p, va, vn, vc, ea, en, ec, wr0, rfl, HFIN⟩
end

end Go.Proofs.YtbmcibofecigeaaGreat
