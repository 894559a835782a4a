/- all: the numbers of the edges that leave or enter a vertex. -/
import Derived.Test.YtagibmgbjhemkaaGreatStRem
namespace Go.Proofs.YtagibmgbjhemkaaGreat

section
open Go.RowKit Go.Maps
section
variable [Inhabited EntI] {w w' : World} {X X' : Sto}

theorem Step.later {w2 : World} (h : Step w X w' X') (hb : Below w'.heap.size w' w2) : Step w X w2 X' := h.trans (Step.below h.1 hb)
theorem Step.set4 {b : Nat} (h : Step w X w' X') (hL : X'.L b = none) (hb : w.heap.size ≤ b) (x0 x1 x2 x3 : Value) : Step w X (Go.Proofs.YtagibmgbjhemkaaGreat.set4 w' b x0 x1 x2 x3) X' :=
  ⟨⟨h.1.mem.set4 hL _ _ _ _, h.1.edge, h.1.size⟩, h.2.1, foots_set4 h.2.2 hb _ _ _ _⟩

set_option maxHeartbeats 1000000 in
set_option maxRecDepth 100000 in
theorem dropENo (e : Int) (h : StAt w X) (hno : ∀ (i : Nat) a, e = (i : Int) + 1 → X.ps[i]? ≠ some (a, true)) :
    Calls Tryz.prog 26 #[.pointer (some ⟨X.s, 0, none⟩), .int .i64 e] w fun r w' => r = .returned (.tuple #[.agg #[.int .i64 0, .int .i64 0, .int .i64 0, .int .u32 0], .int .i64 6]) ∧ Below w.heap.size w w' := by
  have hb0 : Below w.heap.size w (w.alloc o34) := (Below.refl _ _).alloc (Nat.le_refl _) _
  have CT := hide (removeNoS e (h.below hb0) hno)
  have hsz : (w.alloc o34).heap.size = w.heap.size + 1 := by simp
  have HG : Hid ((w.alloc o34).heap[w.heap.size]? = some o34 ∧ Below w.heap.size w (w.alloc o34) ∧ (w.alloc o34).heap.size = w.heap.size + 1) := ⟨heap_alloc_new _ _, hb0, hsz⟩
  generalize X.s = s at *
  clear h hno hb0 hsz
  go_enter Tryz.func26, Tryz.ntmps26
  go_upto_region 1 with fail
  change Code.wp _ _ _ _ (w.alloc o34)
  generalize w.alloc o34 = w1 at *
  generalize hb : w.heap.size = b at *
  go_wp2_with fail
  refine (unhide CT).mono ?_
  rintro r w2 ⟨rfl, hb2⟩
  obtain ⟨k1, k2, k3⟩ := unhide HG
  have hg2 : w2.heap[b]? = some o34 := (hb2.block b (by omega)).trans k1
  have hs2 := hb2.size
  have HB3 : Hid (Below b w (w2.alloc o34)) := (k2.trans (hb2.mono (by omega))).trans ((Below.refl _ _).alloc (by omega) _)
  have hg3 : (w2.alloc o34).heap[b]? = some o34 := (heap_alloc_old w2 o34 (by omega)).trans hg2
  have HG3 := hide hg3
  obtain ⟨g0, g1, g2, g3, gf⟩ := cells34 hg3
  clear CT hb2 hg2 HG k1 k2 k3 hs2 hg3
  go_upto_region 2 with fail
  change Code.wp _ _ _ _ (w2.alloc o34)
  generalize w2.alloc o34 = w3 at *
  go_wp2_with fail
  (try simp only [Exit.inBlock, Exit.then])
  change bodyPost _ _ _ _ _ (Go.Proofs.YtagibmgbjhemkaaGreat.set4 w3 b _ _ _ _)
  refine bodyPost_ret (resE rfl _ _ b _ _ _ _ rfl (set4_at (unhide HG3) _ _ _ _)) rfl ?_
  exact ⟨rfl, by rw [hb]; exact set4_below (unhide HB3) (Nat.le_refl _) _ _ _ _⟩

set_option maxHeartbeats 1000000 in
set_option maxRecDepth 100000 in
theorem dropES {a : EdgeV} (i : Nat) (h : StAt w X) (hi : X.ps[i]? = some (a, true)) (hn : X.n ≤ 900000000) (hw0 : 0 ≤ X.wr) (hw1 : X.wr ≤ 1000000000) :
    Calls Tryz.prog 26 #[.pointer (some ⟨X.s, 0, none⟩), .int .i64 ((i : Int) + 1)] w fun r w' => r = .returned (.tuple #[.agg #[.int .i64 a.1, .int .i64 a.2.1, .int .i64 a.2.2.1, .int .u32 a.2.2.2], .int .i64 0]) ∧ Hid (∃ X', Remd w X i w' X') := by
  have hb0 : Below w.heap.size w (w.alloc o34) := (Below.refl _ _).alloc (Nat.le_refl _) _
  have hsz : (w.alloc o34).heap.size = w.heap.size + 1 := by simp
  have hLb : X.L w.heap.size = none := h.mem.new (Nat.le_refl _)
  have CT : Hid (Calls Tryz.prog 51 #[.pointer (some ⟨X.s, 0, none⟩), .int .i64 ((i : Int) + 1)] (w.alloc o34) fun r w2 => r = .returned (.tuple #[.agg #[.int .i64 a.1, .int .i64 a.2.1, .int .i64 a.2.2.1, .int .u32 a.2.2.2], .bool true]) ∧ Hid ((∀ x0 x1 x2 x3, ∃ X', Remd w X i (Go.Proofs.YtagibmgbjhemkaaGreat.set4 (w2.alloc (oE a)) w.heap.size x0 x1 x2 x3) X') ∧ (w2.alloc (oE a)).heap[w.heap.size]? = some o34 ∧ (w2.alloc (oE a)).heap[w2.heap.size]? = some (oE a) ∧ w.heap.size < w2.heap.size)) := by
    refine (removeS i (h.below hb0) hi hn hw0 hw1).mono ?_
    rintro r w2 ⟨rfl, h2⟩
    obtain ⟨X', hS, hR⟩ := unhide h2
    obtain ⟨g5, g6⟩ := hS.2.2.old (b := w.heap.size) (by omega) hLb
    have hs2 := hS.2.2.1.size
    have hb2 : Below w2.heap.size w2 (w2.alloc (oE a)) := (Below.refl _ _).alloc (Nat.le_refl _) _
    refine ⟨rfl, fun x0 x1 x2 x3 => ⟨X', ((Step.first hb0 hS).later hb2).set4 g6 (Nat.le_refl _) _ _ _ _, hR⟩, (heap_alloc_old w2 _ (by omega)).trans (g5.trans (heap_alloc_new _ _)), heap_alloc_new _ _, by omega⟩
  generalize X.s = s at *
  clear h hi hb0 hsz hLb hn hw0 hw1
  go_enter Tryz.func26, Tryz.ntmps26
  go_upto_region 1 with fail
  change Code.wp _ _ _ _ (w.alloc o34)
  generalize w.alloc o34 = w1 at *
  generalize hb : w.heap.size = b at *
  go_wp2_with fail
  refine (unhide CT).mono ?_
  rintro r w2 ⟨rfl, h2⟩
  clear CT
  go_upto_region 2 with fail
  change Code.wp _ _ _ _ (w2.alloc (oE a))
  obtain ⟨HR, j1, j2, j3⟩ := unhide h2
  have HRR := hide HR
  have HJ := hide j1
  clear h2 HR
  generalize w2.alloc (oE a) = w3 at *
  generalize w2.heap.size = b2 at *
  obtain ⟨x0, x1, x2, x3, -⟩ := box_cells j2
  obtain ⟨g0, g1, g2, g3, gf⟩ := cells34 j1
  have hne : ¬ b = b2 := by omega
  have hne2 : ¬ b2 = b := fun e => hne e.symm
  clear j1 j2 j3
  go_wp2_with fail
  (try simp only [Exit.inBlock, Exit.then])
  change bodyPost _ _ _ _ _ (Go.Proofs.YtagibmgbjhemkaaGreat.set4 w3 b _ _ _ _)
  refine bodyPost_ret (resE rfl _ _ b _ _ _ _ rfl (set4_at (unhide HJ) _ _ _ _)) rfl ?_
  exact ⟨rfl, unhide HRR _ _ _ _⟩

set_option maxHeartbeats 1000000 in
set_option maxRecDepth 100000 in
theorem edgeNo (e : Int) (h : StAt w X) (hno : ∀ (i : Nat) a, e = (i : Int) + 1 → X.ps[i]? ≠ some (a, true)) :
    Calls Tryz.prog 73 #[.pointer (some ⟨X.s, 0, none⟩), .int .i64 e] w fun r w' => r = .returned (.tuple #[.agg #[.int .i64 0, .int .i64 0, .int .i64 0, .int .u32 0], .int .i64 6]) ∧ Below w.heap.size w w' := by
  have hb0 : Below w.heap.size w (w.alloc o34) := (Below.refl _ _).alloc (Nat.le_refl _) _
  have H0 := h.mem.below hb0
  obtain ⟨c0, -, -, -, -⟩ := H0.cells
  have CT := hide (atNoE e (w.alloc o34) H0.tab hno)
  have hsz : (w.alloc o34).heap.size = w.heap.size + 1 := by simp
  have HG : Hid ((w.alloc o34).heap[w.heap.size]? = some o34 ∧ Below w.heap.size w (w.alloc o34) ∧ (w.alloc o34).heap.size = w.heap.size + 1) := ⟨heap_alloc_new _ _, hb0, hsz⟩
  generalize X.s = s at *
  generalize X.t = t at *
  clear h hno H0 hb0 hsz
  go_enter Tryz.func73, Tryz.ntmps73
  go_upto_region 1 with fail
  change Code.wp _ _ _ _ (w.alloc o34)
  generalize w.alloc o34 = w1 at *
  generalize hb : w.heap.size = b at *
  go_wp2_with fail
  refine (unhide CT).mono ?_
  rintro r w2 ⟨rfl, hb2⟩
  obtain ⟨k1, k2, k3⟩ := unhide HG
  have hg2 : w2.heap[b]? = some o34 := (hb2.block b (by omega)).trans k1
  have hs2 := hb2.size
  have HB3 : Hid (Below b w (w2.alloc o34)) := (k2.trans (hb2.mono (by omega))).trans ((Below.refl _ _).alloc (by omega) _)
  have hg3 : (w2.alloc o34).heap[b]? = some o34 := (heap_alloc_old w2 o34 (by omega)).trans hg2
  have HG3 := hide hg3
  obtain ⟨g0, g1, g2, g3, gf⟩ := cells34 hg3
  clear CT hb2 hg2 HG k1 k2 k3 hs2 hg3
  go_upto_region 2 with fail
  change Code.wp _ _ _ _ (w2.alloc o34)
  generalize w2.alloc o34 = w3 at *
  go_wp2_with fail
  (try simp only [Exit.inBlock, Exit.then])
  change bodyPost _ _ _ _ _ (Go.Proofs.YtagibmgbjhemkaaGreat.set4 w3 b _ _ _ _)
  refine bodyPost_ret (resE rfl _ _ b _ _ _ _ rfl (set4_at (unhide HG3) _ _ _ _)) rfl ?_
  exact ⟨rfl, by rw [hb]; exact set4_below (unhide HB3) (Nat.le_refl _) _ _ _ _⟩

/-- A record was read. -/
def Readd (w : World) (X : Sto) (w' : World) : Prop := Step w X w' { X with rd := X.rd + 1 }

set_option maxHeartbeats 1000000 in
set_option maxRecDepth 100000 in
theorem edgeS {a : EdgeV} (i : Nat) (h : StAt w X) (hi : X.ps[i]? = some (a, true)) (hr0 : 0 ≤ X.rd) (hr1 : X.rd ≤ 1000000000) :
    Calls Tryz.prog 73 #[.pointer (some ⟨X.s, 0, none⟩), .int .i64 ((i : Int) + 1)] w fun r w' => r = .returned (.tuple #[.agg #[.int .i64 a.1, .int .i64 a.2.1, .int .i64 a.2.2.1, .int .u32 a.2.2.2], .int .i64 0]) ∧ Hid (Readd w X w') := by
  have hb0 : Below w.heap.size w (w.alloc o34) := (Below.refl _ _).alloc (Nat.le_refl _) _
  have H0 := h.mem.below hb0
  obtain ⟨c0, -, -, -, -⟩ := H0.cells
  have CT := hide (atYesE i (w.alloc o34) H0.tab hi)
  have hsz : (w.alloc o34).heap.size = w.heap.size + 1 := by simp
  have hLb : X.L w.heap.size = none := h.mem.new (Nat.le_refl _)
  have hwr : IntKind.i64.wrap (X.rd + 1) = X.rd + 1 := by rw [IntKind.wrap_i64]; omega
  have HW : Hid (∀ w2, Below (w.alloc o34).heap.size (w.alloc o34) w2 → (w2.alloc (oE a)).cell? ⟨X.s, 2, none⟩ = some (.int .i64 X.rd) ∧ (∀ o, (w2.alloc (oE a)).frozen? ⟨X.s, o, none⟩ = false) ∧ ((w2.alloc (oE a)).setCell ⟨X.s, 2, none⟩ (.int .i64 (X.rd + 1))).heap[w.heap.size]? = some o34 ∧ ((w2.alloc (oE a)).setCell ⟨X.s, 2, none⟩ (.int .i64 (X.rd + 1))).heap[w2.heap.size]? = some (oE a) ∧ w.heap.size < w2.heap.size ∧ ∀ x0 x1 x2 x3, Readd w X (Go.Proofs.YtagibmgbjhemkaaGreat.set4 ((w2.alloc (oE a)).setCell ⟨X.s, 2, none⟩ (.int .i64 (X.rd + 1))) w.heap.size x0 x1 x2 x3)) := fun w2 hb2 => by
    have hs2 := hb2.size
    have hb3 : Below w2.heap.size w2 (w2.alloc (oE a)) := (Below.refl _ _).alloc (Nat.le_refl _) _
    have hB : Below w.heap.size w (w2.alloc (oE a)) := (hb0.trans (hb2.mono (by omega))).trans (hb3.mono (by omega))
    have H3 := h.mem.below hB
    obtain ⟨-, -, c2, -, cf⟩ := H3.cells
    obtain ⟨z1, z2⟩ := H3.rdTurn (X.rd + 1)
    have hsl := h.mem.lt X.s (by rw [h.mem.lbox]; simp)
    refine ⟨c2, cf, ?_, ?_, by omega, fun x0 x1 x2 x3 => ?_⟩
    · rw [heap_setCell_other _ _ _ _ (by show w.heap.size ≠ X.s; omega)]
      exact (heap_alloc_old w2 _ (by omega)).trans ((hb2.block _ (by omega)).trans (heap_alloc_new _ _))
    · rw [heap_setCell_other _ _ _ _ (by show w2.heap.size ≠ X.s; omega)]
      exact heap_alloc_new _ _
    · have : Step w X ((w2.alloc (oE a)).setCell ⟨X.s, 2, none⟩ (.int .i64 (X.rd + 1))) { X with rd := X.rd + 1 } := ⟨⟨z1, h.edge, h.size⟩, rfl, (Foots.below X.L hB).trans z2⟩
      exact this.set4 hLb (Nat.le_refl _) _ _ _ _
  generalize X.s = s at *
  generalize X.t = t at *
  generalize X.rd = rd at *
  clear h hi H0 hb0 hsz hLb hr0 hr1
  go_enter Tryz.func73, Tryz.ntmps73
  go_upto_region 1 with fail
  change Code.wp _ _ _ _ (w.alloc o34)
  generalize w.alloc o34 = w1 at *
  generalize hb : w.heap.size = b at *
  go_wp2_with fail
  refine (unhide CT).mono ?_
  rintro r w2 ⟨rfl, hb2⟩
  obtain ⟨d2, df, j1, j2, j3, HR⟩ := unhide HW w2 hb2
  have HRR := hide HR
  have HJ := hide (And.intro j1 (And.intro j2 j3))
  clear CT hb2 HW HR j1 j2 j3 c0
  go_upto_region 2 with fail
  change Code.wp _ _ _ _ (w2.alloc (oE a))
  generalize w2.alloc (oE a) = w3 at *
  generalize w2.heap.size = b2 at *
  go_upto_region 5 with fail
  generalize w3.setCell ⟨s, 2, none⟩ (.int .i64 (rd + 1)) = w4 at *
  obtain ⟨j1, j2, j3⟩ := unhide HJ
  have HJ1 := hide j1
  obtain ⟨x0, x1, x2, x3, -⟩ := box_cells j2
  obtain ⟨g0, g1, g2, g3, gf⟩ := cells34 j1
  have hne : ¬ b = b2 := by omega
  have hne2 : ¬ b2 = b := fun e => hne e.symm
  clear j1 j2 j3 HJ d2 df
  go_wp2_with fail
  (try simp only [Exit.inBlock, Exit.then])
  change bodyPost _ _ _ _ _ (Go.Proofs.YtagibmgbjhemkaaGreat.set4 w4 b _ _ _ _)
  refine bodyPost_ret (resE rfl _ _ b _ _ _ _ rfl (set4_at (unhide HJ1) _ _ _ _)) rfl ?_
  exact ⟨rfl, unhide HRR _ _ _ _⟩
end
end

section
open Go.RowKit Go.Maps
/-- The record that is answered of e. -/
def lk (ps : List (EdgeV × Bool)) (e : Int) : Option EdgeV :=
  if e < 1 then none else match ps[(e - 1).toNat]? with
    | some (x, true) => some x
    | _ => none
theorem lk_yes {ps : List (EdgeV × Bool)} {i : Nat} {x : EdgeV} (h : ps[i]? = some (x, true)) : lk ps ((i : Int) + 1) = some x := by
  unfold lk
  rw [if_neg (by omega)]
  have e : ((i : Int) + 1 - 1).toNat = i := by omega
  rw [e, h]
theorem lk_some {ps : List (EdgeV × Bool)} {e : Int} {x : EdgeV} (h : lk ps e = some x) : ∃ i : Nat, e = (i : Int) + 1 ∧ ps[i]? = some (x, true) := by
  unfold lk at h
  by_cases he : e < 1
  · rw [if_pos he] at h; cases h
  · rw [if_neg he] at h
    refine ⟨(e - 1).toNat, by omega, ?_⟩
    generalize ps[(e - 1).toNat]? = o at h ⊢
    match o, h with
    | some (y, true), h => simp at h; rw [h]
theorem lk_none {ps : List (EdgeV × Bool)} {e : Int} (h : lk ps e = none) (i : Nat) (a : EdgeV) (he : e = (i : Int) + 1) : ps[i]? ≠ some (a, true) := fun hc => by
  subst he; rw [lk_yes hc] at h; cases h

/-- Along these edges from a: the records gone along, and the fault. -/
def trip (ps : List (EdgeV × Bool)) : Int → List Int → List EdgeV × Option Int
  | _, [] => ([], none)
  | a, e :: es => match lk ps e with
    | none => ([], some 6)
    | some x => if x.2.1 = a then (x :: (trip ps x.2.2.1 es).1, (trip ps x.2.2.1 es).2) else ([], some 80)
def endOf (a : Int) (d : List EdgeV) : Int := d.foldl (fun _ x => x.2.2.1) a
theorem endOf_snoc (a : Int) (d : List EdgeV) (x : EdgeV) : endOf a (d ++ [x]) = x.2.2.1 := by simp [endOf]
/-- The records of a walk. -/
def Way (ps : List (EdgeV × Bool)) : Int → List Int → List EdgeV → Prop
  | _, [], d => d = []
  | a, e :: es, d => ∃ x d', d = x :: d' ∧ lk ps e = some x ∧ x.2.1 = a ∧ Way ps x.2.2.1 es d'
theorem Way.len {ps : List (EdgeV × Bool)} : ∀ {es : List Int} {a : Int} {d : List EdgeV}, Way ps a es d → d.length = es.length
  | [], a, d, h => by have h' : d = [] := h; rw [h']; rfl
  | e :: es, a, d, h => by obtain ⟨x, d', rfl, -, -, h4⟩ := h; simp [Way.len h4]
theorem Way.trip {ps : List (EdgeV × Bool)} (es2 : List Int) : ∀ {es : List Int} {a : Int} {d : List EdgeV}, Way ps a es d → trip ps a (es ++ es2) = (d ++ (Go.Proofs.YtagibmgbjhemkaaGreat.trip ps (endOf a d) es2).1, (Go.Proofs.YtagibmgbjhemkaaGreat.trip ps (endOf a d) es2).2)
  | [], a, d, h => by have h' : d = [] := h; rw [h']; rfl
  | e :: es, a, d, h => by
    obtain ⟨x, d', rfl, h2, h3, h4⟩ := h
    have ih := Way.trip es2 h4
    show Go.Proofs.YtagibmgbjhemkaaGreat.trip ps a (e :: (es ++ es2)) = _
    rw [Go.Proofs.YtagibmgbjhemkaaGreat.trip, h2]
    simp only
    rw [if_pos h3, ih]
    rfl
theorem Way.all {ps : List (EdgeV × Bool)} {es : List Int} {a : Int} {d : List EdgeV} (h : Way ps a es d) : Go.Proofs.YtagibmgbjhemkaaGreat.trip ps a es = (d, none) := by
  have := Way.trip [] h
  rw [List.append_nil] at this
  rw [this]; simp [Go.Proofs.YtagibmgbjhemkaaGreat.trip]
theorem Way.append {ps : List (EdgeV × Bool)} {es2 : List Int} {d2 : List EdgeV} : ∀ {es : List Int} {a : Int} {d : List EdgeV}, Way ps a es d → Way ps (endOf a d) es2 d2 → Way ps a (es ++ es2) (d ++ d2)
  | [], a, d, h, h2 => by have h' : d = [] := h; rw [h'] at h2 ⊢; exact h2
  | e :: es, a, d, h, h2 => by
    obtain ⟨x, d', rfl, h3, h4, h5⟩ := h
    exact ⟨x, d' ++ d2, rfl, h3, h4, Way.append h5 h2⟩
theorem Way.snoc {ps : List (EdgeV × Bool)} {es : List Int} {a e : Int} {d : List EdgeV} {x : EdgeV} (h : Way ps a es d) (hl : lk ps e = some x) (hx : x.2.1 = endOf a d) : Way ps a (es ++ [e]) (d ++ [x]) :=
  h.append ⟨x, [], rfl, hl, hx, rfl⟩
theorem Way.split {ps : List (EdgeV × Bool)} {es2 : List Int} : ∀ {es : List Int} {a : Int} {d : List EdgeV}, Way ps a (es ++ es2) d → ∃ d1 d2, d = d1 ++ d2 ∧ Way ps a es d1 ∧ Way ps (endOf a d1) es2 d2
  | [], a, d, h => ⟨[], d, rfl, rfl, h⟩
  | e :: es, a, d, h => by
    obtain ⟨x, d', rfl, h2, h3, h4⟩ := h
    obtain ⟨d1, d2, rfl, h5, h6⟩ := Way.split h4
    exact ⟨x :: d1, d2, rfl, ⟨x, d1, rfl, h2, h3, h5⟩, h6⟩
theorem trip_len {ps : List (EdgeV × Bool)} : ∀ (es : List Int) (a : Int), (trip ps a es).1.length ≤ es.length
  | [], a => Nat.le_refl _
  | e :: es, a => by
    rw [trip]
    cases hl : lk ps e with
    | none => exact Nat.zero_le _
    | some x =>
      simp only
      by_cases hx : x.2.1 = a
      · rw [if_pos hx]; exact Nat.succ_le_succ (trip_len es _)
      · rw [if_neg hx]; exact Nat.zero_le _
/-- What is answered of it: the place, the error; how many records are read. -/
def tPlace (t : List EdgeV × Option Int) : Nat := if t.2 = none then 0 else t.1.length
def tCode (t : List EdgeV × Option Int) : Int := t.2.getD 0
def tReads (t : List EdgeV × Option Int) : Nat := t.1.length + (if t.2 = some 80 then 1 else 0)
theorem tReads_le (ps : List (EdgeV × Bool)) (es : List Int) (a : Int) : tReads (trip ps a es) ≤ es.length + 1 := by
  have := trip_len (ps := ps) es a
  unfold tReads; split <;> omega
end

section
open Go.RowKit Go.Maps
/-- Those that leave k or enter it, rising. -/
def boths (ps : List (EdgeV × Bool)) (k : Int) : List Int := numsOf (fun x => decide (x.2.1 = k) || decide (x.2.2.1 = k)) ps
theorem mem_boths {ps : List (EdgeV × Bool)} {k e : Int} : e ∈ boths ps k ↔ e ∈ outs ps k ∨ e ∈ inns ps k := by
  unfold boths outs inns
  rw [mem_numsOf, mem_numsOf, mem_numsOf]
  constructor
  · rintro ⟨j, x, h1, h2, h3⟩
    rw [Bool.or_eq_true] at h2
    rcases h2 with h2 | h2
    · exact .inl ⟨j, x, h1, h2, h3⟩
    · exact .inr ⟨j, x, h1, h2, h3⟩
  · rintro (⟨j, x, h1, h2, h3⟩ | ⟨j, x, h1, h2, h3⟩)
    · exact ⟨j, x, h1, by rw [h2]; rfl, h3⟩
    · exact ⟨j, x, h1, by rw [h2, Bool.or_true], h3⟩
theorem compact_boths {ps : List (EdgeV × Bool)} {k : Int} {ys : List Int} (hp : ys.Perm (outs ps k ++ inns ps k)) (hs : ys.Pairwise (· ≤ ·)) : Lib.compact ys = boths ps k := by
  obtain ⟨h1, h2⟩ := compact_sorted ys hs
  refine rising_ext linN h1 (rising_numsOf _ _) (fun e => ?_)
  rw [h2, hp.mem_iff, List.mem_append, mem_boths]

section
variable [Inhabited EntI] {w w' : World} {X : Sto}

set_option maxHeartbeats 2000000 in
set_option maxRecDepth 100000 in
theorem allS {k : Int} {q : Nat} (h : StAt w X) (hk : X.f k = some q) : Calls Tryz.prog 98 #[.pointer (some ⟨q, 0, none⟩)] w fun e w' => ∃ v', e = .returned v' ∧ Hid (BRow w.heap.size w' v' (boths X.ps k) ∧ Below w.heap.size w w') := by
  have lo1 : (outs X.ps k).length ≤ 1000000 := Nat.le_trans (length_numsOf _ _) (by have := h.tab.len; omega)
  have li1 : (inns X.ps k).length ≤ 1000000 := Nat.le_trans (length_numsOf _ _) (by have := h.tab.len; omega)
  obtain ⟨d0, d1, -⟩ := h.mem.ends hk
  have ho := h.mem.out k q hk
  have hi := h.mem.inn k q hk
  have CC : Hid (∀ W, Like w W → Calls Tryz.prog 116 #[.slice (some ⟨w.heap.size, 0, none⟩) 2 2] (W.alloc (.cells #[X.ro k, X.ri k] 25)) fun e w2 => ∃ a2 n2 c2, e = .returned (.slice a2 n2 c2) ∧ (w2.cell? ⟨q, 0, none⟩ = some (X.ro k) ∧ w2.cell? ⟨q, 1, none⟩ = some (X.ri k)) ∧ Hid (BRow w.heap.size w2 (.slice a2 n2 c2) (outs X.ps k ++ inns X.ps k) ∧ Below w.heap.size w w2)) := fun W hl => by
    have hb : Below w.heap.size w (W.alloc (.cells #[X.ro k, X.ri k] 25)) := (hl.below _).trans ((Below.refl _ _).alloc (by rw [hl.1]; exact Nat.le_refl _) _)
    have hn : (W.alloc (.cells #[X.ro k, X.ri k] 25)).heap[w.heap.size]? = some (.cells #[X.ro k, X.ri k] 25 (0, 0)) := by
      have := heap_alloc_new W (.cells #[X.ro k, X.ri k] 25)
      rwa [hl.1] at this
    refine (concatN w.heap.size (X.ro k) (X.ri k) _ _ _ hn (nrow_kept ho (fun b hb' => hb.block b (ho.lt b hb').2)) (nrow_kept hi (fun b hb' => hb.block b (hi.lt b hb').2)) lo1 li1).mono ?_
    rintro e w2 ⟨v2, rfl, h2⟩
    obtain ⟨g1, g2⟩ := unhide h2
    obtain ⟨a2, c2, e2, -⟩ := brow_shape g1
    obtain ⟨n2, hn2⟩ : ∃ n2, v2 = .slice a2 n2 c2 := ⟨_, e2⟩
    subst hn2
    have hbz : w.heap.size ≤ (W.alloc (.cells #[X.ro k, X.ri k] 25)).heap.size := hb.size
    have hB := hb.trans (g2.mono hbz)
    obtain ⟨z0, z1, -⟩ := (h.mem.below hB).ends hk
    refine ⟨a2, n2, c2, rfl, ⟨z0, z1⟩, ⟨g1.1, g1.2.imp id (fun ⟨g, cap, cur, e, hb', r⟩ => ⟨g, cap, cur, e, Nat.le_trans hbz hb', r⟩)⟩, hB⟩
  have HR : Hid (∀ W v ks, BRow w.heap.size W v ks → ks.length ≤ 2000000 → Calls Tryz.prog 110 #[v] W fun e w' => e = .returned (.tuple #[]) ∧ Hid (∃ ys, ys.Perm ks ∧ ys.Pairwise (· ≤ ·) ∧ BRow w.heap.size w' v ys ∧ W.grownBy w' v.ownBlock)) := fun W v ks hr hl => sortN w.heap.size v ks W (by omega) hr
  have HK : Hid (∀ W v ks, BRow w.heap.size W v ks → ks.length ≤ 2000000 → Calls Tryz.prog 117 #[v] W fun e w' => ∃ v', e = .returned v' ∧ Hid (BRow w.heap.size w' v' (Lib.compact ks) ∧ W.grownBy w' v.ownBlock)) := fun W v ks hr hl => compactN w.heap.size v ks W (by omega) hr
  have HL : Hid ((outs X.ps k).length ≤ 1000000 ∧ (inns X.ps k).length ≤ 1000000) := ⟨lo1, li1⟩
  obtain ⟨ra, rc, hro, -⟩ := brow_shape ho
  obtain ⟨sa, sc, hri, -⟩ := brow_shape hi
  obtain ⟨rn, hro'⟩ : ∃ rn, X.ro k = .slice ra rn rc := ⟨_, hro⟩
  obtain ⟨sn, hri'⟩ : ∃ sn, X.ri k = .slice sa sn sc := ⟨_, hri⟩
  rw [hro', hri'] at CC
  rw [hro'] at d0
  rw [hri'] at d1
  clear h ho hi lo1 li1 hro hri hro' hri' hk
  go_enter Tryz.func98, Tryz.ntmps98
  go_upto_region 1 with fail
  refine wp_region_noPanic ?_
  refine regionL [] (fun y => y.cell? ⟨q, 0, none⟩ = some (.slice ra rn rc) ∧ y.cell? ⟨q, 1, none⟩ = some (.slice sa sn sc)) (by kernel_rfl) ⟨d0, d1⟩ (fun hHeld => ?_)
  refine takeN 0 4 rfl ?_
  (try simp only [sl])
  refine takeN 1 5 rfl ?_
  (try simp only [sl])
  refine takeN 2 6 rfl ?_
  (try simp only [sl])
  refine takeN 3 7 rfl ?_
  (try simp only [sl])
  refine takeN 4 8 rfl ?_
  (try simp only [sl])
  refine takeN 5 9 rfl ?_
  (try simp only [sl])
  refine takeN 6 10 rfl ?_
  (try simp only [sl])
  refine takeN 7 11 rfl ?_
  (try simp only [sl])
  have d0' : (w.drew.alloc (.cells #[.slice ra rn rc, .slice sa sn sc] 25)).cell? ⟨q, 0, none⟩ = some (.slice ra rn rc) := cell_later (w := w) (below_drewN ((Below.refl w.heap.size w).alloc (Nat.le_refl _) _) 1) d0
  have d1' : (w.drew.alloc (.cells #[.slice ra rn rc, .slice sa sn sc] 25)).cell? ⟨q, 1, none⟩ = some (.slice sa sn sc) := cell_later (w := w) (below_drewN ((Below.refl w.heap.size w).alloc (Nat.le_refl _) _) 1) d1
  refine readyL (i := 8) (by kernel_rfl) rfl (fun K hK => ?_)
  go_simp
  refine hK.out _ _ (fun _ => (And.intro d0' d1')) ?_
  clear hK K
  (try simp only [sl])
  have hH4 := (And.intro d0' d1')
  refine readyL (i := 9) (by kernel_rfl) rfl (fun K hK => ?_)
  go_simp
  refine (unhide CC w.drew ⟨rfl, rfl, rfl, rfl⟩).mono ?_
  rintro e w2 ⟨a2, n2, c2, rfl, ⟨ee0, ee1⟩, hZ⟩
  (try dsimp only)
  refine hK.out _ _ (fun _ => (And.intro ee0 ee1)) ?_
  clear hK K
  (try simp only [sl])
  have hH6 := (And.intro ee0 ee1)
  refine takeN 10 3 rfl ?_
  (try simp only [sl])
  refine doneL (by kernel_rfl) ?_ _
  refine NoPanic.normal ?_
  obtain ⟨z1, z2⟩ := unhide hZ
  have hlen : (outs X.ps k ++ inns X.ps k).length ≤ 2000000 := by have := unhide HL; simp only [List.length_append]; omega
  have CS := hide (unhide HR w2 (.slice a2 n2 c2) _ z1 hlen)
  have HZ := hide (And.intro z1 (And.intro z2 hlen))
  clear z1 z2 hlen hZ ee0 ee1 d0 d1 d0' d1' CC HL HR hHeld
  go_wp2_with fail
  refine (unhide CS).mono ?_
  rintro e w3 ⟨rfl, hS⟩
  obtain ⟨ys, p1, p2, p3, p4⟩ := unhide hS
  have CK := hide (unhide HK w3 (.slice a2 n2 c2) ys p3 (by rw [p1.length_eq]; exact (unhide HZ).2.2))
  have HP := hide (And.intro p1 (And.intro p2 p4))
  have HP3 := hide p3
  clear CS hS p1 p2 p3 p4 HK
  go_wp2_with fail
  refine (unhide CK).mono ?_
  rintro e w4 ⟨v4, rfl, hK⟩
  have HF : Hid (BRow w.heap.size w4 v4 (boths X.ps k) ∧ Below w.heap.size w w4) := by
    obtain ⟨z1, z2, -⟩ := unhide HZ
    obtain ⟨p1, p2, p4⟩ := unhide HP
    obtain ⟨k1, k2⟩ := unhide hK
    rw [compact_boths p1 p2] at k1
    have own : ∀ j, some j = (Value.slice a2 n2 c2).ownBlock → w.heap.size ≤ j := fun j e => (z1.lt j e.symm).1
    have s2 := z2.size
    have s3 := p4.size
    have s4 := k2.size
    exact ⟨k1, ⟨k2.os.trans (p4.os.trans z2.os), k2.tape.trans (p4.tape.trans z2.tape), k2.output.trans (p4.output.trans z2.output), by omega, fun j hj => (k2.block j (by omega) (fun e => by have := own j e; omega)).trans ((p4.block j (by omega) (fun e => by have := own j e; omega)).trans (z2.block j hj))⟩⟩
  obtain ⟨a4, c4, e4, -⟩ := brow_shape (unhide hK).1
  obtain ⟨n4, hn4⟩ : ∃ n4, v4 = .slice a4 n4 c4 := ⟨_, e4⟩
  subst hn4
  clear CK hK HP HP3 HZ e4
  go_wp2_with fail
  go_ret
  exact ⟨_, rfl, unhide HF⟩
end
end

end Go.Proofs.YtagibmgbjhemkaaGreat
