/- LiveBounded: how many distances may be worked out anew. -/
import Derived.Test.YtbmcibofecigeaaPl14
import Derived.Test.YtbmcibofecigeaaLaws2
import Derived.ProofKit
import Derived.OpenShut
import Derived.SizedLaws
import Derived.Below
import Derived.ChangeOld
import Derived.Deep.Slices
import Derived.Deep.Strs
namespace Go.Proofs.Ytbmcibofecigeaa

section
open Go.RowKit Go.Maps
/-- A live tree in memory of its own. -/
def LA (w : World) (p : Nat) (s tc : Int) (vs : List Int) (gs : List EdV) (T : L14.Tr) (N : Nat) (W : World) : Prop := ∃ L, LvK L W p s tc vs gs T N ∧ (∀ b, b < w.heap.size → L b = none) ∧ Below w.heap.size w W
theorem LA.go {w W W' : World} {p : Nat} {s tc' : Int} {vs' : List Int} {gs' : List EdV} {T' : L14.Tr} {N' : Nat} {L : Lab} (h2 : ∀ b, b < w.heap.size → L b = none) (h3 : Below w.heap.size w W) (h : LvGo L W p s tc' vs' gs' T' N' W') : LA w p s tc' vs' gs' T' N' W' := by
  obtain ⟨L', k, ch⟩ := h
  have hs := h3.size
  exact ⟨L', k, fun b hb => (ch.lab_ b (by omega)).trans (h2 b hb), h3.trans ⟨ch.tur.os, ch.tur.tape, ch.tur.output, ch.tur.size, fun b hb => ch.tur.block b (by omega) (fun z => z (h2 b hb))⟩⟩
theorem okL (k : Int) (h : (Lit.int .i64 k).wf = true) : okN k := h
theorem wlk_one {c : Int} : ∀ {ms : List EdV}, Wlk [(1, 1, 2, c)] 1 ms → Ends 1 2 ms → ms = [(1, 1, 2, c)]
  | [], _, h => by
    have := h.2
    simp [stops] at this
  | [x], h, _ => by
    have := List.mem_singleton.1 h.1
    rw [this]
  | x :: y :: ms, h, _ => by
    have h1 := List.mem_singleton.1 h.1
    have h2 := List.mem_singleton.1 h.2.2.1
    have h3 := h.2.2.2.1
    rw [h1, h2] at h3
    exact absurd h3 (by show ¬ ((1 : Int) = 2); omega)
theorem keptA : kept 1065353216 = some ((1065353216 : Nat) : Int) := by unfold kept; rw [if_neg (by omega), if_neg (by omega)]; rfl
theorem costA : costE [(1, 1, 2, ((1065353216 : Nat) : Int))] = 1065353216 := by
  have h := costE_app [] (1, 1, 2, ((1065353216 : Nat) : Int)) (by show ((1065353216 : Nat) : Int).toNat ≤ _; omega)
  have h0 : costE [] = 0 := rfl
  rw [h0] at h
  have h1 : M.addC 0 1065353216 = 1065353216 := by rw [M.addC_comm (by omega) (by omega), M.addC_zero (by omega)]
  exact h.trans h1
set_option maxHeartbeats 4000000 in
set_option maxRecDepth 100000 in
theorem awakeT [Inhabited EntF] (w : World) : Calls Try.prog 5 #[] w fun e w' => e = .returned (.bool true) ∧ Hid (Below w.heap.size w w') := by
  go_enter Try.func5, Try.ntmps5
  go_wp2_with fail
  refine (vNewT w (okL 1 rfl)).mono ?_
  rintro e w1 ⟨p, rfl, HN⟩
  obtain ⟨k3, L0, k1, k2⟩ := unhide HN
  have C1 := hide (vAddVNew (v := 2) (vs' := [1, 2]) k1 (by omega) (by simp) (okL 2 rfl) (by simp) (by intro x; simp; omega) (by simp))
  have HA : Hid ((∀ b, b < w.heap.size → L0 b = none) ∧ Below w.heap.size w w1) := ⟨k2, k3⟩
  clear HN k1 k2 k3
  go_wp2_with fail
  refine (unhide C1).mono ?_
  rintro e w2 ⟨rfl, HQ⟩
  obtain ⟨L2, K2, j1, j2⟩ := LA.go (unhide HA).1 (unhide HA).2 (unhide HQ)
  have C2 := hide (vAddVIn (v := 1) K2 (by simp))
  have C3 := hide (vInsYes (e := 1) (u := 1) (v := 2) K2 (by omega) (okL 1 rfl) (by simp) (by simp) (by simp) keptA (by omega))
  replace HA : Hid ((∀ b, b < w.heap.size → L2 b = none) ∧ Below w.heap.size w w2) := ⟨j1, j2⟩
  clear C1 HQ K2 j1 j2
  go_wp2_with fail
  refine (unhide C2).mono ?_
  rintro e w' ⟨rfl, hw'⟩
  rw [hw']
  clear C2 hw' w'
  go_wp2_with fail
  refine (unhide C3).mono ?_
  rintro e w4 ⟨rfl, HQ⟩
  obtain ⟨tc, T', HQ2, -⟩ := unhide HQ
  obtain ⟨L4, K4, j1, j2⟩ := LA.go (unhide HA).1 (unhide HA).2 HQ2
  obtain ⟨c, d, e, A⟩ := K4.ask (by omega) (v := 2) (okL 2 rfl)
  obtain ⟨mv, me, V, nv, E, ne, O, I, h1, -, -, hR, hE, -⟩ := id K4
  have hf : L14.fnd T' 2 = true := (hR.clo 1 1 2 1065353216 ((hE.ed 1 1 2 1065353216).2 (by simp)) hR.src.1 (fun z => z.elim) (by simp)).1
  obtain ⟨rfl, -, -⟩ := A.near (by simp) hf
  have C4 := hide (A.dist w4 (Below.refl _ _))
  have C5 := hide (A.path w4 (Below.refl _ _))
  have C6 : Hid (∀ W, Below w4.heap.size w4 W → Calls Try.prog 16 #[.pointer (some ⟨p, 0, none⟩)] W fun e w' => e = .returned (.int .i64 1) ∧ w' = W) := fun W hW => vsourceT (h1.at_.below hW)
  have HB := hide j2
  clear C3 HQ HQ2 K4 j1 j2 A h1 hR hE hf HA
  go_wp2_with fail
  refine (unhide C4).mono ?_
  rintro e w' ⟨rfl, hw'⟩
  rw [hw']
  clear C4 hw' w'
  go_wp2_with fail
  refine (unhide C5).mono ?_
  rintro e w5 ⟨a, n, k, rfl, H5⟩
  obtain ⟨b1, -, b3⟩ := unhide H5
  obtain ⟨ms, m1, m2, m3, m4, m5⟩ := b3 (by trivial)
  have hms := wlk_one m2 m4
  subst hms
  have hd : d = 1065353216 := by rw [← m5]; exact costA
  subst hd
  obtain ⟨a', c', hs, -⟩ := brow_shape m1
  injection hs with e1 e2 e3
  subst e1 e2 e3
  obtain ⟨g, rfl⟩ := brow_some m1 (by simp)
  have k0 := brow_at m1 (j := 0) (e := 1) rfl
  have C7 := hide (unhide C6 w5 b1)
  have HE : Hid (Below w.heap.size w w5) := (unhide HB).trans (b1.mono (unhide HB).size)
  clear C5 C6 H5 b1 b3 m1 m2 m3 m4 m5 HB
  go_wp2_with fail
  refine (unhide C7).mono ?_
  rintro e w' ⟨rfl, hw'⟩
  rw [hw']
  clear C7 hw' w'
  go_wp2_with fail
  go_ret
  exact ⟨rfl, HE⟩
end

section
theorem own : ownKnob Try.prog.godebug = none := by kernel_rfl
theorem laidOut : laidOutB Try.prog = true := by kernel_rfl
end

section
open Go.ChangeShapes Go.WideShapes Go.ChangeAt Go.RowKit
theorem bytes33 : Try.prog.bytesOf 33 = 40 := by kernel_rfl
theorem cellsOf33 : Try.prog.cellsOf 33 = 5 := by kernel_rfl
theorem cellsOf3 : Try.prog.cellsOf 3 = 1 := by kernel_rfl
theorem cellsOfU : Try.prog.cellsOf 31 = 1 := by kernel_rfl
theorem addr_none {w : World} {x : Addr} {k : Nat} {v : Value} (h : w.cell? (x.add (0 * k)) = some v) : x.spot = none := by
  have := World.cell?_spot h
  simpa [Addr.add] using this
theorem add_off (b off j : Nat) : (⟨b, off, none⟩ : Addr).add j = ⟨b, off + j, none⟩ := by
  unfold Addr.add; split <;> simp_all
theorem trod_struct5 {H : Type} {enc : TypeId × Value → H} {P : Program} {w : World} {base : Nat} {spare : Nat → Bool} {held : Bool} {t : TypeId} {f0 f1 f2 f3 f4 : Field} {fuel : Nat} {cs : List Value} {x : DataW H × List MemPlace} (ht : P.underlying t = some (.struct #[f0, f1, f2, f3, f4])) (h : DataW.trod enc P w base spare held fuel t cs = some x) :
    ∃ y0 y1 y2 y3 y4 n, DataW.trod enc P w base spare held n f0.type ((cs.drop f0.offset).take (P.cellsOf f0.type)) = some y0 ∧
      DataW.trod enc P w base spare held n f1.type ((cs.drop f1.offset).take (P.cellsOf f1.type)) = some y1 ∧ DataW.trod enc P w base spare held n f2.type ((cs.drop f2.offset).take (P.cellsOf f2.type)) = some y2 ∧
      DataW.trod enc P w base spare held n f3.type ((cs.drop f3.offset).take (P.cellsOf f3.type)) = some y3 ∧ DataW.trod enc P w base spare held n f4.type ((cs.drop f4.offset).take (P.cellsOf f4.type)) = some y4 := by
  obtain ⟨xs, n, _, rfl, hl, hlen, hf⟩ := DataW.trod_struct ht h
  match xs, hlen with
  | [y0, y1, y2, y3, y4], _ => exact ⟨y0, y1, y2, y3, y4, n, by simpa using hf 0 f0 rfl, by simpa using hf 1 f1 rfl, by simpa using hf 2 f2 rfl, by simpa using hf 3 f3 rfl, by simpa using hf 4 f4 rfl⟩

/-- A call: kind, E, U, V, bits. -/
abbrev OpV := Int × Int × Int × Int × Int
def okOp (o : OpV) : Prop := (Lit.int .i64 o.1).wf = true ∧ (Lit.int .i64 o.2.1).wf = true ∧ (Lit.int .i64 o.2.2.1).wf = true ∧ (Lit.int .i64 o.2.2.2.1).wf = true ∧ (Lit.int .u32 o.2.2.2.2).wf = true
def OpAt (w : World) (b off : Nat) (o : OpV) : Prop := w.cell? ⟨b, off, none⟩ = some (.int .i64 o.1) ∧ w.cell? ⟨b, off + 1, none⟩ = some (.int .i64 o.2.1) ∧ w.cell? ⟨b, off + 2, none⟩ = some (.int .i64 o.2.2.1) ∧ w.cell? ⟨b, off + 3, none⟩ = some (.int .i64 o.2.2.2.1) ∧ w.cell? ⟨b, off + 4, none⟩ = some (.int .u32 o.2.2.2.2)
/-- It is empty; or its cells are these calls. -/
def IsOps (w : World) (a : Option Addr) (len : Nat) (o : Nat → OpV) : Prop :=
  len = 0 ∨ ∃ b off, a = some ⟨b, off, none⟩ ∧ 0 < len ∧ ∀ i, i < len → OpAt w b (off + i * 5) (o i) ∧ okOp (o i)

theorem open_ops {H : Type} {enc : TypeId × Value → H} {W : World} {spare : Nat → Bool} {held : Bool} {a : Option Addr} {len cap : Nat} {d : DataW H} {p : List MemPlace}
    (h : DataW.Trod enc Try.prog W 0 spare held 22 (.slice a len cap) d p) : ∃ o, IsOps W a len o ∧ (d = .nil ∧ len = 0 ∨ ∃ es sp, d = .slice es sp ∧ len ≤ es.length) := by
  obtain ⟨fuel, hf⟩ := h
  rcases Deep.open_slice Try.underlying22 hf with ⟨hcs, hx⟩ | ⟨x, l, c, m, n, D, Pl, hcs, -, hl, hm, hmm, hx, hel⟩
  · simp [Value.cells] at hcs
    obtain ⟨rfl, rfl, rfl⟩ := hcs
    simp only [Prod.mk.injEq] at hx
    exact ⟨fun _ => (0, 0, 0, 0, 0), .inl rfl, .inl ⟨hx.1, rfl⟩⟩
  · simp [Value.cells] at hcs
    obtain ⟨rfl, rfl, rfl⟩ := hcs
    simp only [Prod.mk.injEq] at hx
    have hlm : len ≤ m := by rw [hmm]; split <;> omega
    rw [cellsOf33] at hel
    obtain ⟨o, ho⟩ := Deep.choose_lt (α := OpV) (n := len) (p := fun i o => (W.cell? (x.add (i * 5)) = some (.int .i64 o.1) ∧ W.cell? ((x.add (i * 5)).add 1) = some (.int .i64 o.2.1) ∧
        W.cell? ((x.add (i * 5)).add 2) = some (.int .i64 o.2.2.1) ∧ W.cell? ((x.add (i * 5)).add 3) = some (.int .i64 o.2.2.2.1) ∧ W.cell? ((x.add (i * 5)).add 4) = some (.int .u32 o.2.2.2.2)) ∧ okOp o) (fun i hi => by
      obtain ⟨cs', h1, h2⟩ := hel i (by omega)
      obtain ⟨-, hlen, hc⟩ := World.cells?_some h1
      match cs', hlen with
      | [c0, c1, c2, c3, c4], _ =>
        obtain ⟨y0, y1, y2, y3, y4, q, e0, e1, e2, e3, e4⟩ := trod_struct5 Try.underlying33 h2
        simp only [cellsOf3, cellsOfU, List.drop, List.take] at e0 e1 e2 e3 e4
        obtain ⟨k0, f0, -, w0⟩ := DataW.trod_int Try.underlying3 e0
        obtain ⟨k1, f1, -, w1⟩ := DataW.trod_int Try.underlying3 e1
        obtain ⟨k2, f2, -, w2⟩ := DataW.trod_int Try.underlying3 e2
        obtain ⟨k3, f3, -, w3⟩ := DataW.trod_int Try.underlying3 e3
        obtain ⟨k4, f4, -, w4⟩ := DataW.trod_int Try.underlying31 e4
        simp only [List.cons.injEq, and_true] at f0 f1 f2 f3 f4
        subst f0 f1 f2 f3 f4
        refine ⟨(k0, k1, k2, k3, k4), ⟨?_, ?_, ?_, ?_, ?_⟩, w0, w1, w2, w3, w4⟩
        · have := hc 0 (by omega); simpa [Addr.add] using this
        · have := hc 1 (by omega); simpa using this
        · have := hc 2 (by omega); simpa using this
        · have := hc 3 (by omega); simpa using this
        · have := hc 4 (by omega); simpa using this)
    refine ⟨o, ?_, .inr ⟨_, _, hx.1, by simp⟩⟩
    rcases Nat.eq_zero_or_pos len with h0 | h0
    · exact .inl h0
    · obtain ⟨b, off, spot⟩ := x
      obtain rfl : spot = none := addr_none (ho 0 h0).1.1
      refine .inr ⟨b, off, rfl, h0, fun i hi => ?_⟩
      have := ho i hi
      simp only [add_off] at this
      exact this
end

section
open Go.RowKit Go.Maps
/-- The tree and the graph's box, behind some calls. -/
structure LS (w : World) (gb p : Nat) (s tc : Int) (vs : List Int) (gs : List EdV) (T : L14.Tr) (N : Nat) (vv ev : Value) (wr : Int) (L : Lab) (W : World) : Prop where
  k : LvK L W p s tc vs gs T N
  g : GV vs gs N
  box : W.heap[gb]? = some (oG vv ev 0 wr)
  vs : NRow W vv vs
  gs : ERow 0 W ev gs
  lv : ∀ b, vv.ownBlock = some b → L b = none ∧ b ≠ gb ∧ w.heap.size ≤ b
  le : ∀ b, ev.ownBlock = some b → L b = none ∧ b ≠ gb ∧ w.heap.size ≤ b
  lg : L gb = none
  low : ∀ b, b < w.heap.size → L b = none
  bel : Below w.heap.size w W
  hg : w.heap.size ≤ gb
  wr0 : 0 ≤ wr
  wr1 : wr ≤ N
section
variable {w W W' : World} {gb p : Nat} {s tc : Int} {vs : List Int} {gs : List EdV} {T : L14.Tr} {N : Nat} {vv ev : Value} {wr : Int} {L : Lab}
theorem LS.below (h : LS w gb p s tc vs gs T N vv ev wr L W) (hb : Below W.heap.size W W') : LS w gb p s tc vs gs T N vv ev wr L W' :=
  ⟨h.k.below hb, h.g, (hb.block gb (heap_lt h.box)).trans h.box, nrow_below h.vs hb, rrow_below h.gs hb, h.lv, h.le, h.lg, h.low, h.bel.trans (hb.mono h.bel.size), h.hg, h.wr0, h.wr1⟩
/-- One call is played: the graph's box is the old one, until the answer is stored. -/
theorem LS.play {k e : Int} {r : Ending} (h : LS w gb p s tc vs gs T N vv ev wr L W) (hp : PlayAns L W p s tc vs gs T N vv ev 0 wr k e r W') :
    ∃ vv' ev' wr' vs' gs' T' tc' L', r = .returned (.tuple #[.agg #[vv', ev', .int .i64 0, .int .i64 wr'], .bool true]) ∧ W'.heap[gb]? = some (oG vv ev 0 wr) ∧ LS w gb p s tc' vs' gs' T' (N + 1) vv' ev' wr' L' (set4 W' gb vv' ev' (.int .i64 0) (.int .i64 wr')) ∧ Bd k e wr wr' vs gs T tc vs' gs' T' tc' ∧ ∀ b, b < W.heap.size → L b = none → b ≠ gb → (set4 W' gb vv' ev' (.int .i64 0) (.int .i64 wr')).heap[b]? = W.heap[b]? := by
  obtain ⟨vv', ev', wr', vs', gs', T', tc', L', rfl, q1, q2, q3, q4, q5, q6, q7, q8, q9, q10⟩ := hp
  have hgl := heap_lt h.box
  have hbx := (q3.tur.block gb hgl (fun z => z h.lg)).trans h.box
  have hlg := (q3.lab_ gb hgl).trans h.lg
  have hbs := h.bel.size
  refine ⟨vv', ev', wr', vs', gs', T', tc', L', rfl, hbx, ⟨q1.set hlg _ _ _ _, q2, set4G_at hbx _ _ _ _, ?_, ?_, ?_, ?_, hlg, fun b hb => (q3.lab_ b (by omega)).trans (h.low b hb), ?_, h.hg, by have := h.wr0; omega, by have := h.wr1; omega⟩, q10, fun b hb hl hn => ?_⟩
  · exact nrow_kept q4 (fun b q => set4_other (fun z => by
      rcases (q6 b q).2 with y | y
      · exact (h.lv b y).2.1 z
      · omega) _ _ _ _)
  · exact erow_kept q5 (fun b q => set4_other (fun z => by
      rcases (q7 b q).2 with y | y
      · exact (h.le b y).2.1 z
      · omega) _ _ _ _)
  · intro b q
    refine ⟨(q6 b q).1, fun z => ?_, ?_⟩
    · rcases (q6 b q).2 with y | y
      · exact (h.lv b y).2.1 z
      · omega
    · rcases (q6 b q).2 with y | y
      · exact (h.lv b y).2.2
      · omega
  · intro b q
    refine ⟨(q7 b q).1, fun z => ?_, ?_⟩
    · rcases (q7 b q).2 with y | y
      · exact (h.le b y).2.1 z
      · omega
    · rcases (q7 b q).2 with y | y
      · exact (h.le b y).2.2
      · omega
  · exact set4_below (h.bel.trans ⟨q3.tur.os, q3.tur.tape, q3.tur.output, q3.tur.size, fun b hb => q3.tur.block b (by omega) (fun z => z (h.low b hb))⟩) h.hg _ _ _ _
  · rw [set4_other hn]; exact q3.tur.block b hb (fun z => z hl)
/-- At the beginning. -/
theorem ls_new {w1 : World} (h : NewL w s p w1) : ∃ T L, LS w (w1.heap.size + 1) p s 0 [s] [] T 1 (.slice (some ⟨w1.heap.size, 0, none⟩) 1 1) (.slice none 0 0) 0 L ((w1.alloc (.cells #[.int .i64 s] 3)).alloc (oG (.slice (some ⟨w1.heap.size, 0, none⟩) 1 1) (.slice none 0 0) 0 0)) := by
  obtain ⟨k3, L, k1, k2⟩ := h
  have hs := k3.size
  have s1 : (w1.alloc (.cells #[.int .i64 s] 3)).heap.size = w1.heap.size + 1 := by simp
  have b1 := below_new w1 (.cells #[.int .i64 s] 3)
  have b2 := below_new (w1.alloc (.cells #[.int .i64 s] 3)) (oG (.slice (some ⟨w1.heap.size, 0, none⟩) 1 1) (.slice none 0 0) 0 0)
  have n1 := row_new w1 #[.int .i64 s] [s] rfl (by simp)
  have n2 := heap_alloc_new (w1.alloc (.cells #[.int .i64 s] 3)) (oG (.slice (some ⟨w1.heap.size, 0, none⟩) 1 1) (.slice none 0 0) 0 0)
  rw [s1] at n2
  have hb := b1.trans (b2.mono (by omega))
  refine ⟨_, L, k1.below hb, ⟨by simp, Nat.zero_le _⟩, n2, nrow_below (brow_at0 n1) b2, ⟨rfl, .inl ⟨rfl, rfl⟩⟩, fun b q => ?_, fun b q => (by cases q), k1.fr _ (by omega), k2, k3.trans (hb.mono hs), by omega, Int.le_refl _, by omega⟩
  have e : w1.heap.size = b := Option.some.inj q
  subst e
  exact ⟨k1.fr _ (Nat.le_refl _), by omega, hs⟩
theorem ls_play [Inhabited EntF] (h : LS w gb p s tc vs gs T N vv ev wr L W) (hN : N ≤ 199) {k e u v b : Int} (he : okN e) (hu : okN u) (hv : okN v) (hb : 0 ≤ b) : Calls Try.prog 8 #[.pointer (some ⟨p, 0, none⟩), .agg #[vv, ev, .int .i64 0, .int .i64 wr], .int .i64 s, .agg #[.int .i64 k, .int .i64 e, .int .i64 u, .int .i64 v, .int .u32 b]] W fun r w' => Hid (PlayAns L W p s tc vs gs T N vv ev 0 wr k e r w') :=
  playT h.k hN h.g h.vs h.gs (fun b q => (h.lv b q).1) (fun b q => (h.le b q).1) h.wr0 (by have := h.wr1; omega) he hu hv hb
end
theorem cell_lt14 {w : World} {b o : Nat} {v : Value} (h : w.cell? ⟨b, o, none⟩ = some v) : b < w.heap.size := by
  rcases Nat.lt_or_ge b w.heap.size with q | q
  · exact q
  · unfold World.cell? at h
    rw [Array.getElem?_eq_none q] at h; cases h
theorem opAt_lt {w : World} {b off : Nat} {o : OpV} (h : OpAt w b off o) : b < w.heap.size := cell_lt14 h.1
theorem opAt_block {w W : World} {b off : Nat} {o : OpV} (hb : W.heap[b]? = w.heap[b]?) (h : OpAt w b off o) : OpAt W b off o := by
  have e : ∀ j, W.cell? ⟨b, j, none⟩ = w.cell? ⟨b, j, none⟩ := fun j => by unfold World.cell?; rw [hb]
  obtain ⟨h1, h2, h3, h4, h5⟩ := h
  exact ⟨(e _).trans h1, (e _).trans h2, (e _).trans h3, (e _).trans h4, (e _).trans h5⟩
theorem opAt_below {w W : World} {b off : Nat} {o : OpV} (h : OpAt w b off o) (hb : Below w.heap.size w W) : OpAt W b off o := opAt_block (hb.block b (opAt_lt h)) h
theorem okOp_bits {o : OpV} (h : okOp o) : 0 ≤ o.2.2.2.2 := by
  have := h.2.2.2.2
  simp [Lit.wf] at this
  first | omega | exact this.1 | skip
/-- What built leaves. -/
def BuiltA (w : World) (p : Nat) (s : Int) (vv ev : Value) (wr : Int) (W : World) : Prop :=
  ∃ L tc vs gs T N, LvK L W p s tc vs gs T N ∧ GV vs gs N ∧ N ≤ 61 ∧ NRow W vv vs ∧ ERow 0 W ev gs ∧ (∀ b, vv.ownBlock = some b → L b = none ∧ w.heap.size ≤ b) ∧ (∀ b, ev.ownBlock = some b → L b = none ∧ w.heap.size ≤ b) ∧ (∀ b, b < w.heap.size → L b = none) ∧ Below w.heap.size w W ∧ 0 ≤ wr ∧ wr ≤ 61
end

section
open Go.RowKit Go.Maps
/-- What the reference says of a vertex: its cost, or that it lies far. -/
def kL (T : L14.Tr) (v : Int) : Nat := if L14.fnd T v = true then L14.cst T v else 4294967295
theorem refD_at {vs : List Int} {T : L14.Tr} {i : Nat} {v : Int} (h : vs[i]? = some v) : (refD vs.length (farAt (dsL vs T)) (bitsAt (dsL vs T)))[i]? = some (kL T v) := by
  obtain ⟨a1, a2, -⟩ := dsL_at (T := T) h
  unfold refD kL
  rw [List.getElem?_map, List.getElem?_range (List.getElem?_eq_some_iff.1 h).1]
  show some (if farAt (dsL vs T) i = true then 4294967295 else bitsAt (dsL vs T) i) = _
  rw [a1, a2]
  cases L14.fnd T v <;> rfl
theorem refD_len {n : Nat} {far : Nat → Bool} {bits : Nat → Nat} : (refD n far bits).length = n := by unfold refD; simp
/-- How many of the first i were found, before or behind. -/
def mostB (T T' : L14.Tr) (vs : List Int) (i : Nat) : Nat := ((vs.take i).filter (fun v => decide (kL T v ≠ 4294967295 ∨ kL T' v ≠ 4294967295))).length
/-- Does a distance among the first i differ? -/
def chB (T T' : L14.Tr) (vs : List Int) (i : Nat) : Bool := (vs.take i).any (fun v => decide (kL T v ≠ kL T' v))
section
variable {T T' : L14.Tr} {vs : List Int} {i : Nat} {v : Int}
theorem take_more (h : vs[i]? = some v) : vs.take (i + 1) = vs.take i ++ [v] := by
  rw [List.take_add_one, h]; rfl
theorem mostB_yes (h : vs[i]? = some v) (hk : kL T v ≠ 4294967295 ∨ kL T' v ≠ 4294967295) : mostB T T' vs (i + 1) = mostB T T' vs i + 1 := by
  unfold mostB
  rw [take_more h, List.filter_append, List.length_append, List.filter_cons_of_pos (by simpa using hk)]; rfl
theorem mostB_no (h : vs[i]? = some v) (h1 : kL T v = 4294967295) (h2 : kL T' v = 4294967295) : mostB T T' vs (i + 1) = mostB T T' vs i := by
  unfold mostB
  rw [take_more h, List.filter_append, List.length_append, List.filter_cons_of_neg (by simp [h1, h2])]; rfl
theorem mostB_le : mostB T T' vs i ≤ i := by
  unfold mostB
  exact Nat.le_trans (List.length_filter_le _ _) (by rw [List.length_take]; omega)
theorem chB_step (h : vs[i]? = some v) : chB T T' vs (i + 1) = (chB T T' vs i || decide (kL T v ≠ kL T' v)) := by
  unfold chB
  rw [take_more h, List.any_append]; simp
theorem kL_found (hle : L14.cst T v ≤ 2139095040) (h : L14.fnd T v = true) : kL T v ≠ 4294967295 := by
  unfold kL; rw [if_pos h]; omega
/-- A list of vertices found, before or behind, without repetition: no longer than the count. -/
theorem most_ge {P : List Int} (h1 : ∀ v, L14.cst T v ≤ 2139095040) (h2 : ∀ v, L14.cst T' v ≤ 2139095040) (hv : ∀ v, L14.fnd T v = true ∨ L14.fnd T' v = true → v ∈ vs) (hn : P.Nodup) (hp : ∀ v ∈ P, L14.fnd T v = true ∨ L14.fnd T' v = true) : P.length ≤ mostB T T' vs vs.length := by
  unfold mostB
  rw [List.take_length]
  refine sub_len hn (fun v q => List.mem_filter.2 ⟨hv v (hp v q), ?_⟩)
  refine decide_eq_true ?_
  rcases hp v q with z | z
  · exact .inl (kL_found (h1 v) z)
  · exact .inr (kL_found (h2 v) z)
/-- One came nearer: a distance differs. -/
theorem gain_ch (h1 : ∀ v, L14.cst T v ≤ 2139095040) (h2 : ∀ v, L14.cst T' v ≤ 2139095040) (hv : ∀ v, L14.fnd T' v = true → v ∈ vs) (h : GainL T T') : chB T T' vs vs.length = true := by
  obtain ⟨v, q⟩ := h
  have l2 := h2 v
  have hf : L14.fnd T' v = true := by
    cases z : L14.fnd T' v with
    | true => rfl
    | false =>
      have e1 : costL T' v = 4294967296 := by unfold costL; rw [z]; rfl
      have e2 : costL T v ≤ 4294967296 := by
        unfold costL
        split
        · have := h1 v; omega
        · omega
      omega
  unfold chB
  rw [List.take_length, List.any_eq_true]
  refine ⟨v, hv v hf, decide_eq_true ?_⟩
  unfold costL at q
  unfold kL
  rw [if_pos hf] at q ⊢
  split at q
  · rename_i y; rw [if_pos y]; omega
  · rename_i y; rw [if_neg y]; omega
end
section
variable {L : Lab} {w : World} {p : Nat} {s tc : Int} {vs : List Int} {gs : List EdV} {T : L14.Tr} {N : Nat}
theorem LvK.fin (h : LvK L w p s tc vs gs T N) : (∀ v, L14.cst T v ≤ 2139095040) ∧ (∀ v, L14.fnd T v = true → v ∈ vs) ∧ ∀ v, L14.fnd T v = false → L14.lst T v = 0 := by
  obtain ⟨mv, me, V, nv, E, ne, O, I, h1, hG, hs, hR, hE, -⟩ := h
  exact ⟨hR.le_, fun v q => found_in hR hG hs q, fun v q => (hR.non v q).2⟩
end
/-- What the law asks of one call: was and now, what is told. -/
def BdOk (k e wr wr' : Int) (vs : List Int) (gs gs' : List EdV) (T T' : L14.Tr) (tc tc' : Int) : Prop :=
  ((¬ (3 ≤ k ∧ k ≤ 5) ∨ (gs'.length = gs.length ∧ wr' = wr)) ∧ tc' = tc) ∨
  ((3 ≤ k ∧ k ≤ 5) ∧ ¬ (gs'.length = gs.length ∧ wr' = wr) ∧ ∃ n : Nat, tc' = (n : Int) ∧ n ≤ mostB T T' vs vs.length ∧
    ((k = 3 ∧ (0 < n → chB T T' vs vs.length = true)) ∨
     (k = 4 ∧ (0 < n → ∃ v ∈ vs, L14.lst T v = e ∧ e ≠ 0)) ∨
     (k = 5 ∧ ∃ (i : Nat) (u v : Int) (c c2 : Nat), gs[i]? = some (e, u, v, (c : Int)) ∧ gs'[i]? = some (e, u, v, (c2 : Int)) ∧
       ((c < c2 ∧ (0 < n → ∃ v ∈ vs, L14.lst T v = e ∧ e ≠ 0)) ∨ (¬ c < c2 ∧ (0 < n → chB T T' vs vs.length = true))))))
theorem bdOk_of {L L' : Lab} {w w' : World} {p : Nat} {s tc tc' : Int} {vs vs' : List Int} {gs gs' : List EdV} {T T' : L14.Tr} {N N' : Nat} {k e wr wr' : Int} (h : LvK L w p s tc vs gs T N) (h' : LvK L' w' p s tc' vs' gs' T' N') (hb : Bd k e wr wr' vs gs T tc vs' gs' T' tc') :
    BdOk k e wr wr' vs gs gs' T T' tc tc' ∧ ((3 ≤ k ∧ k ≤ 5) ∧ ¬ (gs'.length = gs.length ∧ wr' = wr) → vs' = vs) := by
  obtain ⟨a1, a2, a3⟩ := h.fin
  obtain ⟨b1, b2, -⟩ := h'.fin
  have lo := h.lo
  have down : vs' = vs → ∀ {n : Nat}, TouD T T' e n → (∃ x ∈ gs, x.1 = e) → n ≤ mostB T T' vs vs.length ∧ (0 < n → ∃ v ∈ vs, L14.lst T v = e ∧ e ≠ 0) := by
    rintro rfl n ⟨⟨P, p1, p2, p3⟩, q⟩ ⟨x, hx, he⟩
    refine ⟨by rw [← p2]; exact most_ge a1 b1 (fun v z => z.elim (a2 v) (b2 v)) p1 p3, fun z => ?_⟩
    obtain ⟨v, v1, v2⟩ := q z
    exact ⟨v, a2 v v1, v2, by have := (lo x hx).1; omega⟩
  have up : vs' = vs → ∀ {n : Nat}, TouU T T' n → n ≤ mostB T T' vs vs.length ∧ (0 < n → chB T T' vs vs.length = true) := by
    rintro rfl n ⟨⟨P, p1, p2, p3⟩, q⟩
    exact ⟨by rw [← p2]; exact most_ge a1 b1 (fun v z => z.elim (a2 v) (b2 v)) p1 p3, fun z => gain_ch a1 b1 b2 (q z)⟩
  rcases hb with ⟨rfl, rfl, rfl, rfl⟩ | ⟨rfl, rfl, ⟨x, rfl⟩, n, rfl, ht⟩ | ⟨rfl, rfl, rfl, ⟨i, x, hi, he, rfl⟩, n, rfl, ht⟩ | ⟨rfl, rfl, rfl, i, u, v, c, c2, hi, rfl, n, rfl, ht⟩
  · exact ⟨.inl ⟨.inr ⟨rfl, rfl⟩, rfl⟩, fun z => absurd ⟨rfl, rfl⟩ z.2⟩
  · obtain ⟨u1, u2⟩ := up rfl ht
    refine ⟨.inr ⟨by omega, fun z => ?_, n, rfl, u1, .inl ⟨rfl, u2⟩⟩, fun _ => rfl⟩
    have := z.1; simp at this
  · obtain ⟨u1, u2⟩ := down rfl ht ⟨x, List.mem_of_getElem? hi, he⟩
    refine ⟨.inr ⟨by omega, fun z => ?_, n, rfl, u1, .inr (.inl ⟨rfl, u2⟩)⟩, fun _ => rfl⟩
    have := z.2; omega
  · have hil := (List.getElem?_eq_some_iff.1 hi).1
    refine ⟨.inr ⟨by omega, fun z => by have := z.2; omega, n, rfl, ?_, .inr (.inr ⟨rfl, i, u, v, c, c2, hi, by rw [List.getElem?_set_self hil], ?_⟩)⟩, fun _ => rfl⟩
    · rcases ht with ⟨-, ht⟩ | ⟨-, ht⟩
      · exact (down rfl ht ⟨_, List.mem_of_getElem? hi, rfl⟩).1
      · exact (up rfl ht).1
    · rcases ht with ⟨hc, ht⟩ | ⟨hc, ht⟩
      · exact .inl ⟨hc, (down rfl ht ⟨_, List.mem_of_getElem? hi, rfl⟩).2⟩
      · exact .inr ⟨hc, (up rfl ht).2⟩
end

end Go.Proofs.Ytbmcibofecigeaa
