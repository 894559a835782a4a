/- A store behind Built and the reference's graph, beside lists of numbers: the walks' calls. -/
import Derived.Test.YtagibmgbjhemkaaGreatPlay70
import Derived.Test.YtagibmgbjhemkaaGreatPlay74
import Derived.Test.YtagibmgbjhemkaaGreatPlay75
import Derived.Test.YtagibmgbjhemkaaGreatFrame72
import Derived.Test.YtagibmgbjhemkaaGreatRn16
import Derived.Test.YtagibmgbjhemkaaGreatRefPutD
namespace Go.Proofs.YtagibmgbjhemkaaGreat

section
open Go.RowKit Go.Maps
theorem u32_nonneg {b : Int} (h : (Lit.int .u32 b).wf = true) : 0 ≤ b := by
  have e : IntKind.u32.min = 0 := by decide
  simp [Lit.wf] at h
  omega
theorem playAny [Inhabited EntI] {n : Nat} {w : World} {X : Sto} {g : Gr} {vv ev : Value} {vs : List Int} {es : List EdgeV} (h : Game n X g vv ev vs es w) (hn : n + 1 ≤ 1000) (o : OpV) (ho : okOp o) :
    Calls Tryz.prog 30 #[.pointer (some ⟨X.s, 0, none⟩), .agg #[vv, ev, .int .i64 g.rd, .int .i64 g.wr], .agg #[.int .i64 o.1, .int .i64 o.2.1, .int .i64 o.2.2.1, .int .i64 o.2.2.2.1, .int .u32 o.2.2.2.2]] w fun e w' => Hid (PlayAns (n + 1) w X e w') := by
  obtain ⟨kd, A, B, E, b⟩ := o
  obtain ⟨-, hA, hB, -, hb⟩ := ho
  have hb0 := u32_nonneg hb
  simp only
  by_cases k1 : kd = 1
  · subst k1; exact play1 h hn A B E b hA hB hb0
  by_cases k2 : kd = 2
  · subst k2; exact play2 h hn A B E b hA hB hb0
  by_cases k3 : kd = 3
  · subst k3; exact play3 h hn A B E b hA hB hb0
  by_cases k4 : kd = 4
  · subst k4; exact play4 h hn A B E b hA hB hb0
  by_cases k5 : kd = 5
  · subst k5; exact play5 h hn A B E b hA hB hb0
  by_cases k6 : kd = 6
  · subst k6; exact play6 h hn A B E b hA hB hb0
  by_cases k7 : kd = 7
  · subst k7; exact play7 h hn A B E b hA hB hb0
  · exact play0 h hn kd A B E b hA hB hb0 ⟨k1, k2, k3, k4, k5, k6, k7⟩

/-- Built's loop: the store, the graph in its box gb, the box r of the answer. -/
def BL [Inhabited EntI] (w : World) (s r gb i : Nat) (vv ev : Value) (rd wr : Int) (W : World) : Prop :=
  ∃ X g vs es, Game i X g vv ev vs es W ∧ X.s = s ∧ W.heap[gb]? = some (oG vv ev g.rd g.wr) ∧ W.heap[r]? = some oZ ∧ X.L gb = none ∧ X.L r = none ∧ (∀ b, X.L b ≠ none → w.heap.size ≤ b) ∧ Below w.heap.size w W ∧ (g.rd = rd ∧ g.wr = wr) ∧ w.heap.size ≤ gb ∧ w.heap.size ≤ r ∧ gb ≠ r
theorem opAt_below {w W : World} {b off : Nat} {o : OpV} (h : OpAt w b off o) (hb : Below w.heap.size w W) : OpAt W b off o := by
  obtain ⟨h0, h1, h2, h3, h4⟩ := h
  have hl := World.block_lt_of_cell? _ _ h0
  have e : ∀ k, W.cell? ⟨b, k, none⟩ = w.cell? ⟨b, k, none⟩ := fun k => cell_of_heap (x := ⟨b, k, none⟩) (hb.block b hl)
  exact ⟨(e _).trans h0, (e _).trans h1, (e _).trans h2, (e _).trans h3, (e _).trans h4⟩
section
variable [Inhabited EntI] {w W W' : World} {s r gb i : Nat} {vv ev : Value} {rd wr : Int}

theorem BL.below (h : BL w s r gb i vv ev rd wr W) (hb : Below W.heap.size W W') : BL w s r gb i vv ev rd wr W' := by
  obtain ⟨X, g, vs, es, h1, h2, h3, h4, h5, h6, h7, h8, h9⟩ := h
  exact ⟨X, g, vs, es, h1.below hb, h2, (hb.block _ (Array.getElem?_eq_some_iff.1 h3).1).trans h3, (hb.block _ (Array.getElem?_eq_some_iff.1 h4).1).trans h4, h5, h6, h7, h8.trans (hb.mono h8.size), h9⟩
theorem BL.cells (h : BL w s r gb i vv ev rd wr W) : W.cell? ⟨gb, 0, none⟩ = some vv ∧ W.cell? ⟨gb, 1, none⟩ = some ev ∧ W.cell? ⟨gb, 2, none⟩ = some (.int .i64 rd) ∧ W.cell? ⟨gb, 3, none⟩ = some (.int .i64 wr) ∧ ∀ o, W.frozen? ⟨gb, o, none⟩ = false := by
  obtain ⟨X, g, vs, es, h1, h2, h3, h4, h5, h6, h7, h8, ⟨rfl, rfl⟩, h9⟩ := h
  exact cellsG h3
/-- One call of Play. -/
theorem BL.play (h : BL w s r gb i vv ev rd wr W) (hi : i + 1 ≤ 1000) (o : OpV) (ho : okOp o) :
    Calls Tryz.prog 30 #[.pointer (some ⟨s, 0, none⟩), .agg #[vv, ev, .int .i64 rd, .int .i64 wr], .agg #[.int .i64 o.1, .int .i64 o.2.1, .int .i64 o.2.2.1, .int .i64 o.2.2.2.1, .int .u32 o.2.2.2.2]] W fun e w2 => ∃ (a1 : Option Addr) (m1 q1 : Nat) (a2 : Option Addr) (m2 q2 : Nat) (rd' wr' : Int), e = .returned (.tuple #[.agg #[.slice a1 m1 q1, .slice a2 m2 q2, .int .i64 rd', .int .i64 wr'], .bool true]) ∧ (w2.cell? ⟨gb, 0, none⟩ = some vv ∧ w2.cell? ⟨gb, 1, none⟩ = some ev ∧ w2.cell? ⟨gb, 2, none⟩ = some (.int .i64 rd) ∧ w2.cell? ⟨gb, 3, none⟩ = some (.int .i64 wr) ∧ ∀ o, w2.frozen? ⟨gb, o, none⟩ = false) ∧ Hid (Below w.heap.size w w2 ∧ BL w s r gb (i + 1) (.slice a1 m1 q1) (.slice a2 m2 q2) rd' wr' (set4 w2 gb (.slice a1 m1 q1) (.slice a2 m2 q2) (.int .i64 rd') (.int .i64 wr'))) := by
  obtain ⟨X, g, vs, es, h1, rfl, h3, h4, h5, h6, h7, h8, ⟨rfl, rfl⟩, h10, h11, h12⟩ := h
  refine (playAny h1 hi o ho).mono ?_
  rintro e w2 hh
  obtain ⟨va, vn, vc, ea, en, ec, g', rfl, X', vs', es', G', hs', hF⟩ := unhide hh
  have k1 := hF.old (Array.getElem?_eq_some_iff.1 h3).1 h5
  have k2 := hF.old (Array.getElem?_eq_some_iff.1 h4).1 h6
  have b2 := k1.1.trans h3
  have hb2 : Below w.heap.size w w2 := h8.trans (hF.1.below h8.size (fun b hb => h7 b hb))
  refine ⟨va, vn, vc, ea, en, ec, g'.rd, g'.wr, rfl, cellsG b2, hb2, X', g', vs', es', ?_, hs', set4G_at b2 _ _ _ _, (set4_other (fun e => h12 e.symm) _ _ _ _).trans (k2.1.trans h4), k1.2, k2.2, fun b hb => (hF.2 b hb).elim (h7 b) (fun e => Nat.le_trans h8.size e), set4_below hb2 h10 _ _ _ _, ⟨rfl, rfl⟩, h10, h11, h12⟩
  exact G'.put k1.2 (nrow_ne G'.vrow b2) (grow_ne G'.erow b2) (fun b hb => set4_other hb _ _ _ _) (by rw [set4_size]; exact Nat.le_refl _)
/-- A new store beside an empty graph. -/
theorem bl_start {X : Sto} (hF : Fresh W W' X) (hr : W.heap[r]? = some oZ) (hw : Below w.heap.size w W) (hrw : w.heap.size ≤ r) : BL w X.s r W'.heap.size 0 (.slice none 0 0) (.slice none 0 0) 0 0 (W'.alloc oZ) := by
  obtain ⟨f1, f2, f3, f4, f5, f6, f7, f8, f9⟩ := hF
  have hrl := (Array.getElem?_eq_some_iff.1 hr).1
  have hb := below_new W' oZ
  have hs := f1.size
  have hs2 := hw.size
  have hn : ∀ b, b < W.heap.size ∨ W'.heap.size ≤ b → X.L b = none := fun b hb => by
    cases e : X.L b with
    | none => rfl
    | some l =>
      have h1 := f3 b (by rw [e]; simp)
      have h2 := f2.mem.lt b (by rw [e]; simp)
      omega
  refine ⟨X, ⟨fun _ => false, 0, [], 0, 0, 0⟩, [], [], ⟨f2.below hb, ⟨fun k => by rw [f5]; rfl, f6, f4, f7, f8, by rw [f9]; exact Nat.le_refl _⟩, RelG.start 0, ⟨by simp, Int.le_refl _, by simp, Int.le_refl _, by simp, fun x hx => by cases hx⟩, by omega, ⟨rfl, .inl ⟨rfl, rfl⟩⟩, ⟨rfl, .inl ⟨rfl, rfl⟩⟩, (fun b hb => by cases hb), (fun b hb => by cases hb)⟩, rfl, heap_alloc_new _ _, (heap_alloc_old _ _ (by omega)).trans ((f1.block _ hrl).trans hr), hn _ (.inr (Nat.le_refl _)), hn _ (.inl hrl), fun b hb => Nat.le_trans hs2 (f3 b hb), (hw.trans (f1.mono hs2)).trans (hb.mono (by omega)), ⟨rfl, rfl⟩, by omega, hrw, by omega⟩
end

/-- What Built answers. -/
def BAns [Inhabited EntI] (w : World) (e : Ending) (w' : World) : Prop :=
  ∃ s a1 m1 q1 a2 m2 q2, ∃ rd wr : Int, e = .returned (.tuple #[.pointer (some ⟨s, 0, none⟩), .agg #[.slice a1 m1 q1, .slice a2 m2 q2, .int .i64 rd, .int .i64 wr], .bool true]) ∧ ∃ n X g vs es, n ≤ 120 ∧ Game n X g (.slice a1 m1 q1) (.slice a2 m2 q2) vs es w' ∧ X.s = s ∧ (∀ b, X.L b ≠ none → w.heap.size ≤ b) ∧ Below w.heap.size w w' ∧ g.rd = rd ∧ g.wr = wr
theorem results_tmp_cell_tmp {fn : Func} {p u q : Tmp} {ty : TypeId} (h : fn.results = #[.tmp u, .cell p ty, .tmp q]) (tmps : Array Value) (P : Program) (w : World) (x : Addr) (vx : Value) (hp : tmps.getD p undef = .pointer (some x)) (hx : (loadVar ty x).run P w = .ok vx w) :
    (results fn tmps).run P w = .ok (.tuple #[tmps.getD u undef, vx, tmps.getD q undef]) w := by
  have hp' : tmps[p]?.getD undef = .pointer (some x) := by simpa using hp
  simp [results, h, hp', asAddr, hx]

theorem bl_end [Inhabited EntI] {w W : World} {s r gb i : Nat} {a1 a2 : Option Addr} {m1 q1 m2 q2 : Nat} {rd wr : Int} (h : BL w s r gb i (.slice a1 m1 q1) (.slice a2 m2 q2) rd wr W) (hi : i ≤ 120) :
    W.heap[r]? = some oZ ∧ r ≠ gb ∧ BAns w (.returned (.tuple #[.pointer (some ⟨s, 0, none⟩), .agg #[.slice a1 m1 q1, .slice a2 m2 q2, .int .i64 rd, .int .i64 wr], .bool true])) (set4 W r (.slice a1 m1 q1) (.slice a2 m2 q2) (.int .i64 rd) (.int .i64 wr)).drew := by
  obtain ⟨X, g, vs, es, h1, rfl, h3, h4, h5, h6, h7, h8, ⟨rfl, rfl⟩, h10, h11, h12⟩ := h
  have hbd := (Below.refl (set4 W r (.slice a1 m1 q1) (.slice a2 m2 q2) (.int .i64 g.rd) (.int .i64 g.wr)).heap.size (set4 W r (.slice a1 m1 q1) (.slice a2 m2 q2) (.int .i64 g.rd) (.int .i64 g.wr))).drew
  refine ⟨h4, fun e => h12 e.symm, X.s, a1, m1, q1, a2, m2, q2, g.rd, g.wr, rfl, i, X, g, vs, es, hi, Game.below ?_ hbd, rfl, h7, (set4_below h8 h11 _ _ _ _).drew, rfl, rfl⟩
  exact h1.put h6 (nrow_ne (b := r) (vv := .slice none 0 0) (ev := .slice none 0 0) (rd := 0) (wr := 0) h1.vrow h4) (grow_ne (b := r) (vv := .slice none 0 0) (ev := .slice none 0 0) (rd := 0) (wr := 0) h1.erow h4) (fun b hb => set4_other hb _ _ _ _) (by rw [set4_size]; exact Nat.le_refl _)

set_option maxHeartbeats 4000000 in
set_option maxRecDepth 100000 in
theorem builtS [Inhabited EntI] (a : Option Addr) (len cap : Nat) (o : Nat → OpV) (w : World) (h : IsOps w a len o) :
    Calls Tryz.prog 8 #[.slice a len cap] w fun e w' => Hid (BAns w e w') := by
  obtain ⟨sb, off, hop⟩ : ∃ sb off, ∀ i, i < len → a = some ⟨sb, off, none⟩ ∧ OpAt w sb (off + i * 5) (o i) ∧ okOp (o i) := by
    rcases h with rfl | ⟨sb, off, rfl, -, hc⟩
    · exact ⟨0, 0, fun i hi => absurd hi (Nat.not_lt_zero _)⟩
    · exact ⟨sb, off, fun i hi => ⟨rfl, hc i hi⟩⟩
  have HOP := hide hop
  obtain ⟨r, hr⟩ : ∃ r, r = w.heap.size := ⟨_, rfl⟩
  have hb0 := below_new w oZ
  have CN : Hid (Calls Tryz.prog 29 #[] (w.alloc oZ) fun e w1 => ∃ s, e = .returned (.pointer (some ⟨s, 0, none⟩)) ∧ Hid (BL w s r w1.heap.size 0 (.slice none 0 0) (.slice none 0 0) 0 0 (w1.alloc oZ))) := by
    refine (newS (w.alloc oZ)).mono ?_
    rintro e w1 ⟨s, rfl, hh⟩
    obtain ⟨X, rfl, hF⟩ := unhide hh
    exact ⟨X.s, rfl, bl_start hF (by rw [hr]; exact heap_alloc_new _ _) hb0 (by omega)⟩
  have HR := hide hr
  clear h hop hr hb0
  go_enter Tryz.func8, Tryz.ntmps8
  go_upto_region 1 with fail
  change Code.wp _ _ _ _ (w.alloc oZ)
  rw [← unhide HR]
  generalize w.alloc oZ = wb at *
  go_wp2_with fail
  refine (unhide CN).mono ?_
  rintro e w1 ⟨s, rfl, h1⟩
  clear CN
  go_upto_region 2 with fail
  change Code.wp _ _ _ _ (w1.alloc oZ)
  generalize w1.heap.size = gb at *
  generalize w1.alloc oZ = w2 at *
  go_wp2_with fail
  go_loopw [7] (fun s7 wr => ∃ (i : Nat) (a1 : Option Addr) (m1 q1 : Nat) (a2 : Option Addr) (m2 q2 : Nat) (rd wr0 : Int), s7 = .int .i64 i ∧ i ≤ 120 ∧ i ≤ len ∧ Hid (BL w s r gb i (.slice a1 m1 q1) (.slice a2 m2 q2) rd wr0 wr)) (fun s7 _ => len - (intOf s7).toNat)
  case atStart => exact ⟨0, none, 0, 0, none, 0, 0, 0, 0, rfl, by omega, by omega, h1⟩
  case round =>
    obtain ⟨i, a1, m1, q1, a2, m2, q2, rd, wr0, rfl, hi1, hi2, hB⟩ := hrel
    by_cases hgo : i < len ∧ i < 120
    · obtain ⟨g1, g2⟩ := hgo
      have hz1 : (i : Int) < (len : Int) := by omega
      have hz2 : (i : Int) < 120 := by omega
      obtain ⟨rfl, ho1, ho2⟩ := unhide HOP i g1
      have HO1 := hide ho1
      have hBd := (unhide hB).below (Below.refl wr.heap.size wr).drew
      have CP := hide (hBd.play (by omega) (o i) ho2)
      have hw8 : Below w.heap.size w wr := by
        obtain ⟨X, g, vs, es, -, -, -, -, -, -, -, h8, -⟩ := unhide hB
        exact h8
      have hoa : OpAt wr sb (off + i * 5) (o i) := opAt_below ho1 hw8
      obtain ⟨q0, qq1, qq2, qq3, qq4⟩ := hoa
      have hS0 : (wr.drew.cell? ⟨sb, off + i * 5, none⟩ = some (.int .i64 (o i).1) ∧ wr.drew.cell? ⟨sb, off + i * 5 + 1, none⟩ = some (.int .i64 (o i).2.1) ∧ wr.drew.cell? ⟨sb, off + i * 5 + 2, none⟩ = some (.int .i64 (o i).2.2.1) ∧ wr.drew.cell? ⟨sb, off + i * 5 + 3, none⟩ = some (.int .i64 (o i).2.2.2.1) ∧ wr.drew.cell? ⟨sb, off + i * 5 + 4, none⟩ = some (.int .u32 (o i).2.2.2.2)) := ⟨q0, qq1, qq2, qq3, qq4⟩
      obtain ⟨c0, c1, c2, c3, -⟩ := (unhide hB).cells
      have HK : Hid (∀ W, Below w.heap.size w W → (W.cell? ⟨sb, off + i * 5, none⟩ = some (.int .i64 (o i).1) ∧ W.cell? ⟨sb, off + i * 5 + 1, none⟩ = some (.int .i64 (o i).2.1) ∧ W.cell? ⟨sb, off + i * 5 + 2, none⟩ = some (.int .i64 (o i).2.2.1) ∧ W.cell? ⟨sb, off + i * 5 + 3, none⟩ = some (.int .i64 (o i).2.2.2.1) ∧ W.cell? ⟨sb, off + i * 5 + 4, none⟩ = some (.int .u32 (o i).2.2.2.2))) := fun W hW => opAt_below (unhide HO1) hW
      have hwi : wrap64 ((i : Int) + 1) = ((i + 1 : Nat) : Int) := by unfold wrap64; omega
      have HWI := hide hwi
      clear ho1 ho2 hBd hw8 h1 hB hwi q0 qq1 qq2 qq3 qq4
      go_upto_region 8 with fail
      refine wp_region_noPanic ?_
      refine regionL [] (fun y => (y.cell? ⟨sb, off + i * 5, none⟩ = some (.int .i64 (o i).1) ∧ y.cell? ⟨sb, off + i * 5 + 1, none⟩ = some (.int .i64 (o i).2.1) ∧ y.cell? ⟨sb, off + i * 5 + 2, none⟩ = some (.int .i64 (o i).2.2.1) ∧ y.cell? ⟨sb, off + i * 5 + 3, none⟩ = some (.int .i64 (o i).2.2.2.1) ∧ y.cell? ⟨sb, off + i * 5 + 4, none⟩ = some (.int .u32 (o i).2.2.2.2))) (by kernel_rfl) hS0 (fun hHeld => ?_)
      refine takeN 0 25 rfl ?_
      (try simp only [sl])
      refine takeN 2 27 rfl ?_
      (try simp only [sl])
      refine takeN 3 28 rfl ?_
      (try simp only [sl])
      refine takeN 4 29 rfl ?_
      (try simp only [sl])
      refine takeN 5 30 rfl ?_
      (try simp only [sl])
      refine readyL (i := 1) (by kernel_rfl) rfl (fun K hK => ?_)
      go_simp
      refine hK.out _ _ (fun _ => hS0) ?_
      clear hK K
      (try simp only [sl])
      have hH4 := hS0
      refine readyL (i := 6) (by kernel_rfl) rfl (fun K hK => ?_)
      go_simp
      refine (unhide CP).mono ?_
      rintro e w3 ⟨b1, n1, p1, b2, n2, p2, rd', wr', rfl, ⟨d0, d1, d2, d3, df⟩, h3⟩
      (try dsimp only)
      have hS3 := unhide HK w3 (unhide h3).1
      refine hK.out _ _ (fun _ => hS3) ?_
      clear hK K
      (try simp only [sl])
      have hH6 := hS3
      refine takeN 7 24 rfl ?_
      (try simp only [sl])
      refine takeN 8 32 rfl ?_
      (try simp only [sl])
      refine takeN 9 33 rfl ?_
      (try simp only [sl])
      have hS4 := unhide HK (set4 w3 gb (.slice b1 n1 p1) (.slice b2 n2 p2) (.int .i64 rd') (.int .i64 wr')) (by obtain ⟨X, g, vs, es, -, -, -, -, -, -, -, h8, -⟩ := (unhide h3).2; exact h8)
      unfold set4 at hS4
      refine readyL (i := 10) (by kernel_rfl) rfl (fun K hK => ?_)
      go_simp
      refine hK.out _ _ (fun _ => hS4) ?_
      clear hK K
      (try simp only [sl])
      have hH9 := hS4
      refine takeN 11 8 rfl ?_
      (try simp only [sl])
      refine doneL (by kernel_rfl) ?_ _
      refine NoPanic.normal ?_
      change Exit.then _ _ _ _ (set4 w3 gb (.slice b1 n1 p1) (.slice b2 n2 p2) (.int .i64 rd') (.int .i64 wr'))
      have HB2 := hide (unhide h3).2
      generalize set4 w3 gb (.slice b1 n1 p1) (.slice b2 n2 p2) (.int .i64 rd') (.int .i64 wr') = w4 at *
      clear d0 d1 d2 d3 df h3 hS3 hS4 hS0 c0 c1 c2 c3 CP HK
      go_wp2_with fail
      (try rw [unhide HWI])
      exact ⟨⟨i + 1, b1, n1, p1, b2, n2, p2, rd', wr', rfl, by omega, by omega, HB2⟩, by simp [intOf]; omega⟩
    · obtain ⟨c0, c1, c2, c3, -⟩ := (unhide hB).cells
      obtain ⟨hres, hrg, hFIN⟩ := bl_end (unhide hB) hi1
      have HFIN := hide hFIN
      obtain ⟨d0, d1, d2, d3, df⟩ := cellsG (vv := .slice none 0 0) (ev := .slice none 0 0) (rd := 0) (wr := 0) hres
      have HE1 := hide (drewAt (set4G_at hres (.slice a1 m1 q1) (.slice a2 m2 q2) (.int .i64 rd) (.int .i64 wr0)))
      have n1 : ¬ r = gb := hrg
      have n2 : ¬ gb = r := fun e => hrg e.symm
      clear hres hFIN h1 hB
      by_cases hlt : i < len
      · have hz1 : (i : Int) < (len : Int) := by omega
        have hz2 : ¬ (i : Int) < 120 := fun e => hgo ⟨hlt, by omega⟩
        clear hgo
        go_upto_region 11 with fail
        go_region
        all_goals
          go_wp2_with fail
          (try simp only [Exit.inBlock, Exit.then])
          change bodyPost _ _ _ _ _ (set4 wr r (.slice a1 m1 q1) (.slice a2 m2 q2) (.int .i64 rd) (.int .i64 wr0)).drew
          have e1 := unhide HE1
          generalize (set4 wr r (.slice a1 m1 q1) (.slice a2 m2 q2) (.int .i64 rd) (.int .i64 wr0)).drew = w9 at *
          clear HE1 c0 c1 c2 c3 d0 d1 d2 d3 df
          refine bodyPost_ret (results_tmp_cell_tmp rfl _ _ _ ⟨r, 0, none⟩ _ rfl (loadG _ _ _ _ _ _ e1)) rfl ?_
          exact unhide HFIN
      · have hz1 : ¬ (i : Int) < (len : Int) := by omega
        clear hgo
        go_upto_region 11 with fail
        go_region
        all_goals
          go_wp2_with fail
          (try simp only [Exit.inBlock, Exit.then])
          change bodyPost _ _ _ _ _ (set4 wr r (.slice a1 m1 q1) (.slice a2 m2 q2) (.int .i64 rd) (.int .i64 wr0)).drew
          have e1 := unhide HE1
          generalize (set4 wr r (.slice a1 m1 q1) (.slice a2 m2 q2) (.int .i64 rd) (.int .i64 wr0)).drew = w9 at *
          clear HE1 c0 c1 c2 c3 d0 d1 d2 d3 df
          refine bodyPost_ret (results_tmp_cell_tmp rfl _ _ _ ⟨r, 0, none⟩ _ rfl (loadG _ _ _ _ _ _ e1)) rfl ?_
          exact unhide HFIN
end

section
open Go.RowKit Go.Maps
theorem Game.read [Inhabited EntI] {n k : Nat} {w w' : World} {X : Sto} {g : Gr} {vv ev : Value} {vs : List Int} {es : List EdgeV} (h : Game n X g vv ev vs es w) (hR : Rd w X k w') (hn : n + k ≤ 6000) : Game (n + k) { X with rd := X.rd + (k : Int) } (g.plus k) vv ev vs es w' := by
  obtain ⟨r1, -, r3⟩ := hR
  obtain ⟨b1, b2, b3, b4, b5, b6⟩ := h.bnd
  refine ⟨r1, ⟨h.sh.V, h.sh.N, h.sh.ps, by show X.rd + (k : Int) = g.rd + (k : Int); rw [h.sh.rd], h.sh.wr, h.sh.n⟩, ⟨h.rel.rv, h.rel.V, h.rel.N, h.rel.re, h.rel.mem, h.rel.edge⟩, ⟨?_, b2, ?_, ?_, ?_, b6⟩, hn, nrow_kept h.vrow (fun b e => (r3.old (h.vrow.lt b e).2 (h.vfr b e)).1), grow_kept h.erow (fun b e => (r3.old (h.erow.lt b e).2 (h.efr b e)).1), h.vfr, h.efr⟩
  · show g.nb + 65536 * es.length ≤ 131072 * (n + k); omega
  · show g.wr + es.length ≤ 2 * ((n + k : Nat) : Int); omega
  · show 0 ≤ g.rd + (k : Int); omega
  · show g.rd + (k : Int) ≤ ((n + k : Nat) : Int); omega
theorem Game.up8 [Inhabited EntI] {n m : Nat} {w : World} {X : Sto} {g : Gr} {vv ev : Value} {vs : List Int} {es : List EdgeV} (h : Game n X g vv ev vs es w) (hm : n ≤ m) (hf : m ≤ 6000) : Game m X g vv ev vs es w := ⟨h.st, h.sh, h.rel, h.bnd.up hm, hf, h.vrow, h.erow, h.vfr, h.efr⟩
theorem kept_lt {n : Int} (h0 : 0 ≤ n) (h : kept n = some n) : n < 2139095040 := by
  unfold kept at h
  by_cases h1 : n = 2147483648
  · rw [if_pos h1] at h; injection h with h; omega
  · rw [if_neg h1] at h
    by_cases h2 : 2139095040 ≤ n
    · rw [if_pos h2] at h; cases h
    · omega
theorem Game.wt [Inhabited EntI] {n : Nat} {w : World} {X : Sto} {g : Gr} {vv ev : Value} {vs : List Int} {es : List EdgeV} (h : Game n X g vv ev vs es w) (i : Nat) (x : EdgeV) (hx : X.ps[i]? = some (x, true)) : Wt x := by
  rw [h.sh.ps] at hx
  obtain ⟨h1, h2⟩ := h.bnd.wt x ((h.rel.mem x).2 ⟨i, hx⟩)
  exact ⟨h1, kept_lt h1 h2⟩
/-- The store s and the graph behind n calls, lists beside them. -/
def KW [Inhabited EntI] (w : World) (s : Nat) (ps : List (EdgeV × Bool)) (vv ev : Value) (rd wr : Int) (n : Nat) (vs : List Int) (es : List EdgeV) (rows : List (Value × List Int)) (W : World) : Prop :=
  ∃ X g, Game n X g vv ev vs es W ∧ X.s = s ∧ (∀ b, X.L b ≠ none → w.heap.size ≤ b) ∧ Below w.heap.size w W ∧ g.ps = ps ∧ g.rd = rd ∧ g.wr = wr ∧ ∀ r ∈ rows, NRow W r.1 r.2 ∧ ∀ b, r.1.ownBlock = some b → X.L b = none
section
variable [Inhabited EntI] {w W W' : World} {s n : Nat} {ps : List (EdgeV × Bool)} {vv ev : Value} {rd wr : Int} {vs : List Int} {es : List EdgeV} {rows : List (Value × List Int)}

theorem KW.below (h : KW w s ps vv ev rd wr n vs es rows W) (hb : Below W.heap.size W W') : KW w s ps vv ev rd wr n vs es rows W' := by
  obtain ⟨X, g, h1, h2, h3, h4, h5, h6, h7, h8⟩ := h
  exact ⟨X, g, h1.below hb, h2, h3, h4.trans (hb.mono h4.size), h5, h6, h7, fun r hr => ⟨nrow_below (h8 r hr).1 hb, (h8 r hr).2⟩⟩
theorem KW.more (h : KW w s ps vv ev rd wr n vs es rows W) {v : Value} {ks : List Int} (hb : Below W.heap.size W W') (hr : BRow W.heap.size W' v ks) : KW w s ps vv ev rd wr n vs es ((v, ks) :: rows) W' := by
  obtain ⟨X, g, h1, h2, h3, h4, h5, h6, h7, h8⟩ := h
  refine ⟨X, g, h1.below hb, h2, h3, h4.trans (hb.mono h4.size), h5, h6, h7, fun r hr' => ?_⟩
  rcases List.mem_cons.1 hr' with e | e
  · subst e; exact ⟨brow_at0 hr, fun b hb' => h1.st.mem.new (hr.lt b hb').1⟩
  · exact ⟨nrow_below (h8 r e).1 hb, (h8 r e).2⟩
theorem KW.less (h : KW w s ps vv ev rd wr n vs es rows W) {rows' : List (Value × List Int)} (hs : ∀ r ∈ rows', r ∈ rows) : KW w s ps vv ev rd wr n vs es rows' W := by
  obtain ⟨X, g, h1, h2, h3, h4, h5, h6, h7, h8⟩ := h
  exact ⟨X, g, h1, h2, h3, h4, h5, h6, h7, fun r hr => h8 r (hs r hr)⟩
theorem KW.row (h : KW w s ps vv ev rd wr n vs es rows W) {v : Value} {ks : List Int} (hr : (v, ks) ∈ rows) : NRow W v ks := by
  obtain ⟨X, g, h1, h2, h3, h4, h5, h6, h7, h8⟩ := h
  exact (h8 _ hr).1
theorem KW.out (h : KW w s ps vv ev rd wr n vs es rows W) : Below w.heap.size w W := by
  obtain ⟨X, g, h1, h2, h3, h4, -⟩ := h
  exact h4
theorem KW.graph (h : KW w s ps vv ev rd wr n vs es rows W) : GRow 0 W ev es ∧ es.length ≤ 1024 ∧ Recs es ∧ (∀ x ∈ es, lk ps x.1 = some x) ∧ NRow W vv vs ∧ (∀ (i : Nat) (x : EdgeV), ps[i]? = some (x, true) → x ∈ es ∧ Wt x) := by
  obtain ⟨X, g, h1, h2, h3, h4, h5, h6, h7, h8⟩ := h
  refine ⟨h1.erow, h1.elen, h1.rel.re, fun x hx => by rw [← h5]; exact h1.rel.lk hx, h1.vrow, fun i x hx => ?_⟩
  have h9 : X.ps[i]? = some (x, true) := by rw [h1.sh.ps, h5]; exact hx
  rw [← h5] at hx
  exact ⟨(h1.rel.mem x).2 ⟨i, hx⟩, h1.wt i x h9⟩
theorem KW.up {m : Nat} (h : KW w s ps vv ev rd wr n vs es rows W) (hm : n ≤ m) (hf : m ≤ 1000) : KW w s ps vv ev rd wr m vs es rows W := by
  obtain ⟨X, g, h1, h2, h3, h4, h5⟩ := h
  exact ⟨X, g, h1.up8 hm (by omega), h2, h3, h4, h5⟩
end
end

end Go.Proofs.YtagibmgbjhemkaaGreat
