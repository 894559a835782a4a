/- DropVertex. -/
import Derived.Test.YtagibmgbjhemkaaGreatStRem
import Derived.Lib.AppendZeros
namespace Go.Proofs.YtagibmgbjhemkaaGreat

section
open Go.RowKit Go.Maps
section
variable [Inhabited EntI] {w w' : World} {X X' : Sto}
theorem Step.later {w2 : World} (h : Step w X w' X') (hb : Below w'.heap.size w' w2) : Step w X w2 X' := h.trans (Step.below h.1 hb)
theorem Step.set4 {b : Nat} (h : Step w X w' X') (hL : X'.L b = none) (hb : w.heap.size ≤ b) (x0 x1 x2 x3 : Value) : Step w X (Go.Proofs.YtagibmgbjhemkaaGreat.set4 w' b x0 x1 x2 x3) X' :=
  ⟨⟨h.1.mem.set4 hL _ _ _ _, h.1.edge, h.1.size⟩, h.2.1, foots_set4 h.2.2 hb _ _ _ _⟩
set_option maxHeartbeats 1000000 in
set_option maxRecDepth 100000 in
theorem dropENo (e : Int) (h : StAt w X) (hno : ∀ (i : Nat) a, e = (i : Int) + 1 → X.ps[i]? ≠ some (a, true)) :
    Calls Tryz.prog 26 #[.pointer (some ⟨X.s, 0, none⟩), .int .i64 e] w fun r w' => r = .returned (.tuple #[.agg #[.int .i64 0, .int .i64 0, .int .i64 0, .int .u32 0], .int .i64 6]) ∧ Below w.heap.size w w' := by
  have hb0 : Below w.heap.size w (w.alloc o34) := (Below.refl _ _).alloc (Nat.le_refl _) _; have CT := hide (removeNoS e (h.below hb0) hno); have hsz : (w.alloc o34).heap.size = w.heap.size + 1 := by simp
  have HG : Hid ((w.alloc o34).heap[w.heap.size]? = some o34 ∧ Below w.heap.size w (w.alloc o34) ∧ (w.alloc o34).heap.size = w.heap.size + 1) := ⟨heap_alloc_new _ _, hb0, hsz⟩; generalize X.s = s at *; clear h hno hb0 hsz
  go_enter Tryz.func26, Tryz.ntmps26
  go_upto_region 1 with fail
  change Code.wp _ _ _ _ (w.alloc o34); generalize w.alloc o34 = w1 at *; generalize hb : w.heap.size = b at *
  go_wp2_with fail
  refine (unhide CT).mono ?_
  rintro r w2 ⟨rfl, hb2⟩
  obtain ⟨k1, k2, k3⟩ := unhide HG; have hg2 : w2.heap[b]? = some o34 := (hb2.block b (by omega)).trans k1
  have hs2 := hb2.size; have HB3 : Hid (Below b w (w2.alloc o34)) := (k2.trans (hb2.mono (by omega))).trans ((Below.refl _ _).alloc (by omega) _)
  have hg3 : (w2.alloc o34).heap[b]? = some o34 := (heap_alloc_old w2 o34 (by omega)).trans hg2
  have HG3 := hide hg3; obtain ⟨g0, g1, g2, g3, gf⟩ := cells34 hg3; clear CT hb2 hg2 HG k1 k2 k3 hs2 hg3
  go_upto_region 2 with fail
  change Code.wp _ _ _ _ (w2.alloc o34); generalize w2.alloc o34 = w3 at *
  go_wp2_with fail
  (try simp only [Exit.inBlock, Exit.then])
  change bodyPost _ _ _ _ _ (Go.Proofs.YtagibmgbjhemkaaGreat.set4 w3 b _ _ _ _); refine bodyPost_ret (resE rfl _ _ b _ _ _ _ rfl (set4_at (unhide HG3) _ _ _ _)) rfl ?_; exact ⟨rfl, by rw [hb]; exact set4_below (unhide HB3) (Nat.le_refl _) _ _ _ _⟩
set_option maxHeartbeats 1000000 in
set_option maxRecDepth 100000 in
theorem dropES {a : EdgeV} (i : Nat) (h : StAt w X) (hi : X.ps[i]? = some (a, true)) (hn : X.n ≤ 900000000) (hw0 : 0 ≤ X.wr) (hw1 : X.wr ≤ 1000000000) :
    Calls Tryz.prog 26 #[.pointer (some ⟨X.s, 0, none⟩), .int .i64 ((i : Int) + 1)] w fun r w' => r = .returned (.tuple #[.agg #[.int .i64 a.1, .int .i64 a.2.1, .int .i64 a.2.2.1, .int .u32 a.2.2.2], .int .i64 0]) ∧ Hid (∃ X', Remd w X i w' X') := by
  have hb0 : Below w.heap.size w (w.alloc o34) := (Below.refl _ _).alloc (Nat.le_refl _) _; have hsz : (w.alloc o34).heap.size = w.heap.size + 1 := by simp
  have hLb : X.L w.heap.size = none := h.mem.new (Nat.le_refl _); have CT : Hid (Calls Tryz.prog 51 #[.pointer (some ⟨X.s, 0, none⟩), .int .i64 ((i : Int) + 1)] (w.alloc o34) fun r w2 => r = .returned (.tuple #[.agg #[.int .i64 a.1, .int .i64 a.2.1, .int .i64 a.2.2.1, .int .u32 a.2.2.2], .bool true]) ∧ Hid ((∀ x0 x1 x2 x3, ∃ X', Remd w X i (Go.Proofs.YtagibmgbjhemkaaGreat.set4 (w2.alloc (oE a)) w.heap.size x0 x1 x2 x3) X') ∧ (w2.alloc (oE a)).heap[w.heap.size]? = some o34 ∧ (w2.alloc (oE a)).heap[w2.heap.size]? = some (oE a) ∧ w.heap.size < w2.heap.size)) := by
    refine (removeS i (h.below hb0) hi hn hw0 hw1).mono ?_
    rintro r w2 ⟨rfl, h2⟩
    obtain ⟨X', hS, hR⟩ := unhide h2; obtain ⟨g5, g6⟩ := hS.2.2.old (b := w.heap.size) (by omega) hLb
    have hs2 := hS.2.2.1.size; have hb2 : Below w2.heap.size w2 (w2.alloc (oE a)) := (Below.refl _ _).alloc (Nat.le_refl _) _; refine ⟨rfl, fun x0 x1 x2 x3 => ⟨X', ((Step.first hb0 hS).later hb2).set4 g6 (Nat.le_refl _) _ _ _ _, hR⟩, (heap_alloc_old w2 _ (by omega)).trans (g5.trans (heap_alloc_new _ _)), heap_alloc_new _ _, by omega⟩
  generalize X.s = s at *; clear h hi hb0 hsz hLb hn hw0 hw1
  go_enter Tryz.func26, Tryz.ntmps26
  go_upto_region 1 with fail
  change Code.wp _ _ _ _ (w.alloc o34); generalize w.alloc o34 = w1 at *; generalize hb : w.heap.size = b at *
  go_wp2_with fail
  refine (unhide CT).mono ?_
  rintro r w2 ⟨rfl, h2⟩
  clear CT
  go_upto_region 2 with fail
  change Code.wp _ _ _ _ (w2.alloc (oE a)); obtain ⟨HR, j1, j2, j3⟩ := unhide h2; have HRR := hide HR; have HJ := hide j1; clear h2 HR; generalize w2.alloc (oE a) = w3 at *; generalize w2.heap.size = b2 at *; obtain ⟨x0, x1, x2, x3, -⟩ := box_cells j2; obtain ⟨g0, g1, g2, g3, gf⟩ := cells34 j1; have hne : ¬ b = b2 := by omega
  have hne2 : ¬ b2 = b := fun e => hne e.symm
  clear j1 j2 j3
  go_wp2_with fail
  (try simp only [Exit.inBlock, Exit.then])
  change bodyPost _ _ _ _ _ (Go.Proofs.YtagibmgbjhemkaaGreat.set4 w3 b _ _ _ _); refine bodyPost_ret (resE rfl _ _ b _ _ _ _ rfl (set4_at (unhide HJ) _ _ _ _)) rfl ?_; exact ⟨rfl, unhide HRR _ _ _ _⟩
set_option maxHeartbeats 1000000 in
set_option maxRecDepth 100000 in
theorem edgeNo (e : Int) (h : StAt w X) (hno : ∀ (i : Nat) a, e = (i : Int) + 1 → X.ps[i]? ≠ some (a, true)) :
    Calls Tryz.prog 73 #[.pointer (some ⟨X.s, 0, none⟩), .int .i64 e] w fun r w' => r = .returned (.tuple #[.agg #[.int .i64 0, .int .i64 0, .int .i64 0, .int .u32 0], .int .i64 6]) ∧ Below w.heap.size w w' := by
  have hb0 : Below w.heap.size w (w.alloc o34) := (Below.refl _ _).alloc (Nat.le_refl _) _; have H0 := h.mem.below hb0; obtain ⟨c0, -, -, -, -⟩ := H0.cells; have CT := hide (atNoE e (w.alloc o34) H0.tab hno); have hsz : (w.alloc o34).heap.size = w.heap.size + 1 := by simp
  have HG : Hid ((w.alloc o34).heap[w.heap.size]? = some o34 ∧ Below w.heap.size w (w.alloc o34) ∧ (w.alloc o34).heap.size = w.heap.size + 1) := ⟨heap_alloc_new _ _, hb0, hsz⟩; generalize X.s = s at *; generalize X.t = t at *; clear h hno H0 hb0 hsz
  go_enter Tryz.func73, Tryz.ntmps73
  go_upto_region 1 with fail
  change Code.wp _ _ _ _ (w.alloc o34); generalize w.alloc o34 = w1 at *; generalize hb : w.heap.size = b at *
  go_wp2_with fail
  refine (unhide CT).mono ?_
  rintro r w2 ⟨rfl, hb2⟩
  obtain ⟨k1, k2, k3⟩ := unhide HG; have hg2 : w2.heap[b]? = some o34 := (hb2.block b (by omega)).trans k1
  have hs2 := hb2.size; have HB3 : Hid (Below b w (w2.alloc o34)) := (k2.trans (hb2.mono (by omega))).trans ((Below.refl _ _).alloc (by omega) _)
  have hg3 : (w2.alloc o34).heap[b]? = some o34 := (heap_alloc_old w2 o34 (by omega)).trans hg2
  have HG3 := hide hg3; obtain ⟨g0, g1, g2, g3, gf⟩ := cells34 hg3; clear CT hb2 hg2 HG k1 k2 k3 hs2 hg3
  go_upto_region 2 with fail
  change Code.wp _ _ _ _ (w2.alloc o34); generalize w2.alloc o34 = w3 at *
  go_wp2_with fail
  (try simp only [Exit.inBlock, Exit.then])
  change bodyPost _ _ _ _ _ (Go.Proofs.YtagibmgbjhemkaaGreat.set4 w3 b _ _ _ _); refine bodyPost_ret (resE rfl _ _ b _ _ _ _ rfl (set4_at (unhide HG3) _ _ _ _)) rfl ?_; exact ⟨rfl, by rw [hb]; exact set4_below (unhide HB3) (Nat.le_refl _) _ _ _ _⟩
def Readd (w : World) (X : Sto) (w' : World) : Prop := Step w X w' { X with rd := X.rd + 1 }
set_option maxHeartbeats 1000000 in
set_option maxRecDepth 100000 in
theorem edgeS {a : EdgeV} (i : Nat) (h : StAt w X) (hi : X.ps[i]? = some (a, true)) (hr0 : 0 ≤ X.rd) (hr1 : X.rd ≤ 1000000000) :
    Calls Tryz.prog 73 #[.pointer (some ⟨X.s, 0, none⟩), .int .i64 ((i : Int) + 1)] w fun r w' => r = .returned (.tuple #[.agg #[.int .i64 a.1, .int .i64 a.2.1, .int .i64 a.2.2.1, .int .u32 a.2.2.2], .int .i64 0]) ∧ Hid (Readd w X w') := by
  have hb0 : Below w.heap.size w (w.alloc o34) := (Below.refl _ _).alloc (Nat.le_refl _) _; have H0 := h.mem.below hb0; obtain ⟨c0, -, -, -, -⟩ := H0.cells; have CT := hide (atYesE i (w.alloc o34) H0.tab hi); have hsz : (w.alloc o34).heap.size = w.heap.size + 1 := by simp
  have hLb : X.L w.heap.size = none := h.mem.new (Nat.le_refl _); have hwr : IntKind.i64.wrap (X.rd + 1) = X.rd + 1 := by rw [IntKind.wrap_i64]; omega
  have HW : Hid (∀ w2, Below (w.alloc o34).heap.size (w.alloc o34) w2 → (w2.alloc (oE a)).cell? ⟨X.s, 2, none⟩ = some (.int .i64 X.rd) ∧ (∀ o, (w2.alloc (oE a)).frozen? ⟨X.s, o, none⟩ = false) ∧ ((w2.alloc (oE a)).setCell ⟨X.s, 2, none⟩ (.int .i64 (X.rd + 1))).heap[w.heap.size]? = some o34 ∧ ((w2.alloc (oE a)).setCell ⟨X.s, 2, none⟩ (.int .i64 (X.rd + 1))).heap[w2.heap.size]? = some (oE a) ∧ w.heap.size < w2.heap.size ∧ ∀ x0 x1 x2 x3, Readd w X (Go.Proofs.YtagibmgbjhemkaaGreat.set4 ((w2.alloc (oE a)).setCell ⟨X.s, 2, none⟩ (.int .i64 (X.rd + 1))) w.heap.size x0 x1 x2 x3)) := fun w2 hb2 => by
    have hs2 := hb2.size; have hb3 : Below w2.heap.size w2 (w2.alloc (oE a)) := (Below.refl _ _).alloc (Nat.le_refl _) _; have hB : Below w.heap.size w (w2.alloc (oE a)) := (hb0.trans (hb2.mono (by omega))).trans (hb3.mono (by omega))
    have H3 := h.mem.below hB; obtain ⟨-, -, c2, -, cf⟩ := H3.cells; obtain ⟨z1, z2⟩ := H3.rdTurn (X.rd + 1); have hsl := h.mem.lt X.s (by rw [h.mem.lbox]; simp)
    refine ⟨c2, cf, ?_, ?_, by omega, fun x0 x1 x2 x3 => ?_⟩
    · rw [heap_setCell_other _ _ _ _ (by show w.heap.size ≠ X.s; omega)]
      exact (heap_alloc_old w2 _ (by omega)).trans ((hb2.block _ (by omega)).trans (heap_alloc_new _ _))
    · rw [heap_setCell_other _ _ _ _ (by show w2.heap.size ≠ X.s; omega)]
      exact heap_alloc_new _ _
    · have : Step w X ((w2.alloc (oE a)).setCell ⟨X.s, 2, none⟩ (.int .i64 (X.rd + 1))) { X with rd := X.rd + 1 } := ⟨⟨z1, h.edge, h.size⟩, rfl, (Foots.below X.L hB).trans z2⟩
      exact this.set4 hLb (Nat.le_refl _) _ _ _ _
  generalize X.s = s at *; generalize X.t = t at *; generalize X.rd = rd at *; clear h hi H0 hb0 hsz hLb hr0 hr1
  go_enter Tryz.func73, Tryz.ntmps73
  go_upto_region 1 with fail
  change Code.wp _ _ _ _ (w.alloc o34); generalize w.alloc o34 = w1 at *; generalize hb : w.heap.size = b at *
  go_wp2_with fail
  refine (unhide CT).mono ?_
  rintro r w2 ⟨rfl, hb2⟩
  obtain ⟨d2, df, j1, j2, j3, HR⟩ := unhide HW w2 hb2; have HRR := hide HR; have HJ := hide (And.intro j1 (And.intro j2 j3)); clear CT hb2 HW HR j1 j2 j3 c0
  go_upto_region 2 with fail
  change Code.wp _ _ _ _ (w2.alloc (oE a)); generalize w2.alloc (oE a) = w3 at *; generalize w2.heap.size = b2 at *
  go_upto_region 5 with fail
  generalize w3.setCell ⟨s, 2, none⟩ (.int .i64 (rd + 1)) = w4 at *; obtain ⟨j1, j2, j3⟩ := unhide HJ; have HJ1 := hide j1; obtain ⟨x0, x1, x2, x3, -⟩ := box_cells j2; obtain ⟨g0, g1, g2, g3, gf⟩ := cells34 j1; have hne : ¬ b = b2 := by omega
  have hne2 : ¬ b2 = b := fun e => hne e.symm
  clear j1 j2 j3 HJ d2 df
  go_wp2_with fail
  (try simp only [Exit.inBlock, Exit.then])
  change bodyPost _ _ _ _ _ (Go.Proofs.YtagibmgbjhemkaaGreat.set4 w4 b _ _ _ _); refine bodyPost_ret (resE rfl _ _ b _ _ _ _ rfl (set4_at (unhide HJ1) _ _ _ _)) rfl ?_; exact ⟨rfl, unhide HRR _ _ _ _⟩
end
end

section
open Go.RowKit Go.Maps
def lk (ps : List (EdgeV × Bool)) (e : Int) : Option EdgeV :=
  if e < 1 then none else match ps[(e - 1).toNat]? with
    | some (x, true) => some x
    | _ => none
theorem lk_yes {ps : List (EdgeV × Bool)} {i : Nat} {x : EdgeV} (h : ps[i]? = some (x, true)) : lk ps ((i : Int) + 1) = some x := by
  unfold lk; rw [if_neg (by omega)]
  have e : ((i : Int) + 1 - 1).toNat = i := by omega
  rw [e, h]
theorem lk_some {ps : List (EdgeV × Bool)} {e : Int} {x : EdgeV} (h : lk ps e = some x) : ∃ i : Nat, e = (i : Int) + 1 ∧ ps[i]? = some (x, true) := by
  unfold lk at h
  by_cases he : e < 1
  · rw [if_pos he] at h; cases h
  · rw [if_neg he] at h; refine ⟨(e - 1).toNat, by omega, ?_⟩
    generalize ps[(e - 1).toNat]? = o at h ⊢
    match o, h with
    | some (y, true), h => simp at h; rw [h]
theorem lk_none {ps : List (EdgeV × Bool)} {e : Int} (h : lk ps e = none) (i : Nat) (a : EdgeV) (he : e = (i : Int) + 1) : ps[i]? ≠ some (a, true) := fun hc => by
  subst he; rw [lk_yes hc] at h; cases h
def trip (ps : List (EdgeV × Bool)) : Int → List Int → List EdgeV × Option Int
  | _, [] => ([], none)
  | a, e :: es => match lk ps e with
    | none => ([], some 6)
    | some x => if x.2.1 = a then (x :: (trip ps x.2.2.1 es).1, (trip ps x.2.2.1 es).2) else ([], some 80)
def endOf (a : Int) (d : List EdgeV) : Int := d.foldl (fun _ x => x.2.2.1) a
theorem endOf_snoc (a : Int) (d : List EdgeV) (x : EdgeV) : endOf a (d ++ [x]) = x.2.2.1 := by simp [endOf]
def Way (ps : List (EdgeV × Bool)) : Int → List Int → List EdgeV → Prop
  | _, [], d => d = []
  | a, e :: es, d => ∃ x d', d = x :: d' ∧ lk ps e = some x ∧ x.2.1 = a ∧ Way ps x.2.2.1 es d'
theorem Way.len {ps : List (EdgeV × Bool)} : ∀ {es : List Int} {a : Int} {d : List EdgeV}, Way ps a es d → d.length = es.length
  | [], a, d, h => by have h' : d = [] := h; rw [h']; rfl
  | e :: es, a, d, h => by obtain ⟨x, d', rfl, -, -, h4⟩ := h; simp [Way.len h4]
theorem Way.trip {ps : List (EdgeV × Bool)} (es2 : List Int) : ∀ {es : List Int} {a : Int} {d : List EdgeV}, Way ps a es d → trip ps a (es ++ es2) = (d ++ (Go.Proofs.YtagibmgbjhemkaaGreat.trip ps (endOf a d) es2).1, (Go.Proofs.YtagibmgbjhemkaaGreat.trip ps (endOf a d) es2).2)
  | [], a, d, h => by have h' : d = [] := h; rw [h']; rfl
  | e :: es, a, d, h => by
    obtain ⟨x, d', rfl, h2, h3, h4⟩ := h; have ih := Way.trip es2 h4; show Go.Proofs.YtagibmgbjhemkaaGreat.trip ps a (e :: (es ++ es2)) = _; rw [Go.Proofs.YtagibmgbjhemkaaGreat.trip, h2]; simp only; rw [if_pos h3, ih]; rfl
theorem Way.all {ps : List (EdgeV × Bool)} {es : List Int} {a : Int} {d : List EdgeV} (h : Way ps a es d) : Go.Proofs.YtagibmgbjhemkaaGreat.trip ps a es = (d, none) := by
  have := Way.trip [] h; rw [List.append_nil] at this; rw [this]; simp [Go.Proofs.YtagibmgbjhemkaaGreat.trip]
theorem Way.append {ps : List (EdgeV × Bool)} {es2 : List Int} {d2 : List EdgeV} : ∀ {es : List Int} {a : Int} {d : List EdgeV}, Way ps a es d → Way ps (endOf a d) es2 d2 → Way ps a (es ++ es2) (d ++ d2)
  | [], a, d, h, h2 => by have h' : d = [] := h; rw [h'] at h2 ⊢; exact h2
  | e :: es, a, d, h, h2 => by
    obtain ⟨x, d', rfl, h3, h4, h5⟩ := h; exact ⟨x, d' ++ d2, rfl, h3, h4, Way.append h5 h2⟩
theorem Way.snoc {ps : List (EdgeV × Bool)} {es : List Int} {a e : Int} {d : List EdgeV} {x : EdgeV} (h : Way ps a es d) (hl : lk ps e = some x) (hx : x.2.1 = endOf a d) : Way ps a (es ++ [e]) (d ++ [x]) :=
  h.append ⟨x, [], rfl, hl, hx, rfl⟩
theorem Way.split {ps : List (EdgeV × Bool)} {es2 : List Int} : ∀ {es : List Int} {a : Int} {d : List EdgeV}, Way ps a (es ++ es2) d → ∃ d1 d2, d = d1 ++ d2 ∧ Way ps a es d1 ∧ Way ps (endOf a d1) es2 d2
  | [], a, d, h => ⟨[], d, rfl, rfl, h⟩
  | e :: es, a, d, h => by
    obtain ⟨x, d', rfl, h2, h3, h4⟩ := h; obtain ⟨d1, d2, rfl, h5, h6⟩ := Way.split h4; exact ⟨x :: d1, d2, rfl, ⟨x, d1, rfl, h2, h3, h5⟩, h6⟩
theorem trip_len {ps : List (EdgeV × Bool)} : ∀ (es : List Int) (a : Int), (trip ps a es).1.length ≤ es.length
  | [], a => Nat.le_refl _
  | e :: es, a => by
    rw [trip]
    cases hl : lk ps e with
    | none => exact Nat.zero_le _
    | some x =>
      simp only
      by_cases hx : x.2.1 = a
      · rw [if_pos hx]; exact Nat.succ_le_succ (trip_len es _)
      · rw [if_neg hx]; exact Nat.zero_le _
def tPlace (t : List EdgeV × Option Int) : Nat := if t.2 = none then 0 else t.1.length
def tCode (t : List EdgeV × Option Int) : Int := t.2.getD 0
def tReads (t : List EdgeV × Option Int) : Nat := t.1.length + (if t.2 = some 80 then 1 else 0)
end

section
open Go.RowKit Go.Maps
def boths (ps : List (EdgeV × Bool)) (k : Int) : List Int := numsOf (fun x => decide (x.2.1 = k) || decide (x.2.2.1 = k)) ps
theorem mem_boths {ps : List (EdgeV × Bool)} {k e : Int} : e ∈ boths ps k ↔ e ∈ outs ps k ∨ e ∈ inns ps k := by
  unfold boths outs inns; rw [mem_numsOf, mem_numsOf, mem_numsOf]; constructor
  · rintro ⟨j, x, h1, h2, h3⟩
    rw [Bool.or_eq_true] at h2; rcases h2 with h2 | h2
    · exact .inl ⟨j, x, h1, h2, h3⟩
    · exact .inr ⟨j, x, h1, h2, h3⟩
  · rintro (⟨j, x, h1, h2, h3⟩ | ⟨j, x, h1, h2, h3⟩)
    · exact ⟨j, x, h1, by rw [h2]; rfl, h3⟩
    · exact ⟨j, x, h1, by rw [h2, Bool.or_true], h3⟩
theorem compact_boths {ps : List (EdgeV × Bool)} {k : Int} {ys : List Int} (hp : ys.Perm (outs ps k ++ inns ps k)) (hs : ys.Pairwise (· ≤ ·)) : Lib.compact ys = boths ps k := by
  obtain ⟨h1, h2⟩ := compact_sorted ys hs; refine rising_ext linN h1 (rising_numsOf _ _) (fun e => ?_)
  rw [h2, hp.mem_iff, List.mem_append, mem_boths]
section
variable [Inhabited EntI] {w w' : World} {X : Sto}
set_option maxHeartbeats 2000000 in
set_option maxRecDepth 100000 in
theorem allS {k : Int} {q : Nat} (h : StAt w X) (hk : X.f k = some q) : Calls Tryz.prog 98 #[.pointer (some ⟨q, 0, none⟩)] w fun e w' => ∃ v', e = .returned v' ∧ Hid (BRow w.heap.size w' v' (boths X.ps k) ∧ Below w.heap.size w w') := by
  have lo1 : (outs X.ps k).length ≤ 1000000 := Nat.le_trans (length_numsOf _ _) (by have := h.tab.len; omega)
  have li1 : (inns X.ps k).length ≤ 1000000 := Nat.le_trans (length_numsOf _ _) (by have := h.tab.len; omega)
  obtain ⟨d0, d1, -⟩ := h.mem.ends hk; have ho := h.mem.out k q hk; have hi := h.mem.inn k q hk; have CC : Hid (∀ W, Like w W → Calls Tryz.prog 116 #[.slice (some ⟨w.heap.size, 0, none⟩) 2 2] (W.alloc (.cells #[X.ro k, X.ri k] 25)) fun e w2 => ∃ a2 n2 c2, e = .returned (.slice a2 n2 c2) ∧ (w2.cell? ⟨q, 0, none⟩ = some (X.ro k) ∧ w2.cell? ⟨q, 1, none⟩ = some (X.ri k)) ∧ Hid (BRow w.heap.size w2 (.slice a2 n2 c2) (outs X.ps k ++ inns X.ps k) ∧ Below w.heap.size w w2)) := fun W hl => by
    have hb : Below w.heap.size w (W.alloc (.cells #[X.ro k, X.ri k] 25)) := (hl.below _).trans ((Below.refl _ _).alloc (by rw [hl.1]; exact Nat.le_refl _) _)
    have hn : (W.alloc (.cells #[X.ro k, X.ri k] 25)).heap[w.heap.size]? = some (.cells #[X.ro k, X.ri k] 25 (0, 0)) := by
      have := heap_alloc_new W (.cells #[X.ro k, X.ri k] 25)
      rwa [hl.1] at this
    refine (concatN w.heap.size (X.ro k) (X.ri k) _ _ _ hn (nrow_kept ho (fun b hb' => hb.block b (ho.lt b hb').2)) (nrow_kept hi (fun b hb' => hb.block b (hi.lt b hb').2)) lo1 li1).mono ?_
    rintro e w2 ⟨v2, rfl, h2⟩
    obtain ⟨g1, g2⟩ := unhide h2; obtain ⟨a2, c2, e2, -⟩ := brow_shape g1; obtain ⟨n2, hn2⟩ : ∃ n2, v2 = .slice a2 n2 c2 := ⟨_, e2⟩; subst hn2; have hbz : w.heap.size ≤ (W.alloc (.cells #[X.ro k, X.ri k] 25)).heap.size := hb.size; have hB := hb.trans (g2.mono hbz); obtain ⟨z0, z1, -⟩ := (h.mem.below hB).ends hk; refine ⟨a2, n2, c2, rfl, ⟨z0, z1⟩, ⟨g1.1, g1.2.imp id (fun ⟨g, cap, cur, e, hb', r⟩ => ⟨g, cap, cur, e, Nat.le_trans hbz hb', r⟩)⟩, hB⟩
  have HR : Hid (∀ W v ks, BRow w.heap.size W v ks → ks.length ≤ 2000000 → Calls Tryz.prog 110 #[v] W fun e w' => e = .returned (.tuple #[]) ∧ Hid (∃ ys, ys.Perm ks ∧ ys.Pairwise (· ≤ ·) ∧ BRow w.heap.size w' v ys ∧ W.grownBy w' v.ownBlock)) := fun W v ks hr hl => sortN w.heap.size v ks W (by omega) hr
  have HK : Hid (∀ W v ks, BRow w.heap.size W v ks → ks.length ≤ 2000000 → Calls Tryz.prog 117 #[v] W fun e w' => ∃ v', e = .returned v' ∧ Hid (BRow w.heap.size w' v' (Lib.compact ks) ∧ W.grownBy w' v.ownBlock)) := fun W v ks hr hl => compactN w.heap.size v ks W (by omega) hr
  have HL : Hid ((outs X.ps k).length ≤ 1000000 ∧ (inns X.ps k).length ≤ 1000000) := ⟨lo1, li1⟩; obtain ⟨ra, rc, hro, -⟩ := brow_shape ho; obtain ⟨sa, sc, hri, -⟩ := brow_shape hi; obtain ⟨rn, hro'⟩ : ∃ rn, X.ro k = .slice ra rn rc := ⟨_, hro⟩; obtain ⟨sn, hri'⟩ : ∃ sn, X.ri k = .slice sa sn sc := ⟨_, hri⟩; rw [hro', hri'] at CC; rw [hro'] at d0; rw [hri'] at d1; clear h ho hi lo1 li1 hro hri hro' hri' hk
  go_enter Tryz.func98, Tryz.ntmps98
  go_upto_region 1 with fail
  refine wp_region_noPanic ?_; refine regionL [] (fun y => y.cell? ⟨q, 0, none⟩ = some (.slice ra rn rc) ∧ y.cell? ⟨q, 1, none⟩ = some (.slice sa sn sc)) (by kernel_rfl) ⟨d0, d1⟩ (fun hHeld => ?_)
  refine takeN 0 4 rfl ?_
  (try simp only [sl])
  refine takeN 1 5 rfl ?_
  (try simp only [sl])
  refine takeN 2 6 rfl ?_
  (try simp only [sl])
  refine takeN 3 7 rfl ?_
  (try simp only [sl])
  refine takeN 4 8 rfl ?_
  (try simp only [sl])
  refine takeN 5 9 rfl ?_
  (try simp only [sl])
  refine takeN 6 10 rfl ?_
  (try simp only [sl])
  refine takeN 7 11 rfl ?_
  (try simp only [sl])
  have d0' : (w.drew.alloc (.cells #[.slice ra rn rc, .slice sa sn sc] 25)).cell? ⟨q, 0, none⟩ = some (.slice ra rn rc) := cell_later (w := w) (below_drewN ((Below.refl w.heap.size w).alloc (Nat.le_refl _) _) 1) d0; have d1' : (w.drew.alloc (.cells #[.slice ra rn rc, .slice sa sn sc] 25)).cell? ⟨q, 1, none⟩ = some (.slice sa sn sc) := cell_later (w := w) (below_drewN ((Below.refl w.heap.size w).alloc (Nat.le_refl _) _) 1) d1; refine readyL (i := 8) (by kernel_rfl) rfl (fun K hK => ?_)
  go_simp
  refine hK.out _ _ (fun _ => (And.intro d0' d1')) ?_
  clear hK K
  (try simp only [sl])
  have hH4 := (And.intro d0' d1'); refine readyL (i := 9) (by kernel_rfl) rfl (fun K hK => ?_)
  go_simp
  refine (unhide CC w.drew ⟨rfl, rfl, rfl, rfl⟩).mono ?_
  rintro e w2 ⟨a2, n2, c2, rfl, ⟨ee0, ee1⟩, hZ⟩
  (try dsimp only)
  refine hK.out _ _ (fun _ => (And.intro ee0 ee1)) ?_
  clear hK K
  (try simp only [sl])
  have hH6 := (And.intro ee0 ee1); refine takeN 10 3 rfl ?_
  (try simp only [sl])
  refine doneL (by kernel_rfl) ?_ _
  refine NoPanic.normal ?_; obtain ⟨z1, z2⟩ := unhide hZ; have hlen : (outs X.ps k ++ inns X.ps k).length ≤ 2000000 := by have := unhide HL; simp only [List.length_append]; omega
  have CS := hide (unhide HR w2 (.slice a2 n2 c2) _ z1 hlen); have HZ := hide (And.intro z1 (And.intro z2 hlen)); clear z1 z2 hlen hZ ee0 ee1 d0 d1 d0' d1' CC HL HR hHeld
  go_wp2_with fail
  refine (unhide CS).mono ?_
  rintro e w3 ⟨rfl, hS⟩
  obtain ⟨ys, p1, p2, p3, p4⟩ := unhide hS; have CK := hide (unhide HK w3 (.slice a2 n2 c2) ys p3 (by rw [p1.length_eq]; exact (unhide HZ).2.2))
  have HP := hide (And.intro p1 (And.intro p2 p4)); have HP3 := hide p3; clear CS hS p1 p2 p3 p4 HK
  go_wp2_with fail
  refine (unhide CK).mono ?_
  rintro e w4 ⟨v4, rfl, hK⟩
  have HF : Hid (BRow w.heap.size w4 v4 (boths X.ps k) ∧ Below w.heap.size w w4) := by
    obtain ⟨z1, z2, -⟩ := unhide HZ; obtain ⟨p1, p2, p4⟩ := unhide HP; obtain ⟨k1, k2⟩ := unhide hK; rw [compact_boths p1 p2] at k1; have own : ∀ j, some j = (Value.slice a2 n2 c2).ownBlock → w.heap.size ≤ j := fun j e => (z1.lt j e.symm).1
    have s2 := z2.size; have s3 := p4.size; have s4 := k2.size; exact ⟨k1, ⟨k2.os.trans (p4.os.trans z2.os), k2.tape.trans (p4.tape.trans z2.tape), k2.output.trans (p4.output.trans z2.output), by omega, fun j hj => (k2.block j (by omega) (fun e => by have := own j e; omega)).trans ((p4.block j (by omega) (fun e => by have := own j e; omega)).trans (z2.block j hj))⟩⟩
  obtain ⟨a4, c4, e4, -⟩ := brow_shape (unhide hK).1; obtain ⟨n4, hn4⟩ : ∃ n4, v4 = .slice a4 n4 c4 := ⟨_, e4⟩; subst hn4; clear CK hK HP HP3 HZ e4
  go_wp2_with fail
  go_ret
  exact ⟨_, rfl, unhide HF⟩
end
end

section
open Go.RowKit Go.Maps
def clr (ps : List (EdgeV × Bool)) (es : List Int) : List (EdgeV × Bool) := es.foldl (fun p e => p.set (e - 1).toNat (((0, 0, 0, 0) : EdgeV), false)) ps
theorem clr_snoc (ps : List (EdgeV × Bool)) (es : List Int) (i : Nat) : clr ps (es ++ [(i : Int) + 1]) = (clr ps es).set i (((0, 0, 0, 0) : EdgeV), false) := by
  unfold clr; rw [List.foldl_append]; simp
theorem at_clr : ∀ (es : List Int) (ps : List (EdgeV × Bool)) (j : Nat) (y : EdgeV), (∀ e ∈ es, 1 ≤ e) → ((clr ps es)[j]? = some (y, true) ↔ ((j : Int) + 1 ∉ es) ∧ ps[j]? = some (y, true))
  | [], ps, j, y, _ => by simp [clr]
  | e :: es, ps, j, y, h => by
    have ih := at_clr es (ps.set (e - 1).toNat (((0, 0, 0, 0) : EdgeV), false)) j y (fun x hx => h x (List.mem_cons_of_mem _ hx))
    have he := h e (List.mem_cons_self ..); show (clr (ps.set (e - 1).toNat (((0, 0, 0, 0) : EdgeV), false)) es)[j]? = _ ↔ _; rw [ih, at_cut, List.mem_cons]; constructor
    · rintro ⟨h1, h2, h3⟩
      refine ⟨fun e2 => ?_, h3⟩
      rcases e2 with e2 | e2
      · exact h2 (by omega)
      · exact h1 e2
    · rintro ⟨h1, h2⟩
      exact ⟨fun e2 => h1 (.inr e2), fun e2 => h1 (.inl (by omega)), h2⟩
def recOf (ps : List (EdgeV × Bool)) (e : Int) : EdgeV := ((ps[(e - 1).toNat]?).map (·.1)).getD ((0, 0, 0, 0) : EdgeV)
theorem recOf_at {ps : List (EdgeV × Bool)} {i : Nat} {a : EdgeV} {b : Bool} (h : ps[i]? = some (a, b)) : recOf ps ((i : Int) + 1) = a := by
  unfold recOf; rw [show ((i : Int) + 1 - 1).toNat = i by omega, h]; rfl
def encG (gs : List EdgeV) : List Value := gs.flatMap fun a => [.int .i64 a.1, .int .i64 a.2.1, .int .i64 a.2.2.1, .int .u32 a.2.2.2]
theorem encG_snoc (gs : List EdgeV) (a : EdgeV) : encG (gs ++ [a]) = encG gs ++ [.int .i64 a.1, .int .i64 a.2.1, .int .i64 a.2.2.1, .int .u32 a.2.2.2] := by simp [encG]
theorem mapFn_pos {w : World} {m N : Nat} {f : Int → Option Nat} {k : Int} {q : Nat} (h : MapFn 3 klN okN w m f N) (hk : okN k) (hq : f k = some q) : ∃ N', N = N' + 1 := by
  obtain ⟨D, h1, h2, h3, h4⟩ := h; have := size_del (k := klN k) h2; rw [(h4 k hk).2, hq, h3] at this; simp at this; exact ⟨_, this.symm⟩
theorem info64 : (Tryz.prog.info? 64).map (fun i => (i.zero, i.size, i.bytes)) = some (some (.agg #[.int .i64 0, .int .i64 0, .int .i64 0, .int .u32 0]), 4, 32) := by kernel_rfl
theorem gcells_new (w : World) (a : EdgeV) : ∀ j u, [Value.int .i64 a.1, .int .i64 a.2.1, .int .i64 a.2.2.1, .int .u32 a.2.2.2][j]? = some u → (w.alloc (oE a)).cell? ((⟨w.heap.size, 0, none⟩ : Addr).add j) = some u := by
  intro j u hj; have add : (⟨w.heap.size, 0, none⟩ : Addr).add j = ⟨w.heap.size, j, none⟩ := by unfold Addr.add; split <;> simp_all
  rw [add]; have h1 : j < 4 := by
    have := (List.getElem?_eq_some_iff.1 hj).1; simpa using this
  rw [cell_of_row _ _ _ _ _ _ (heap_alloc_new w (oE a))]
  match j, h1 with
  | 0, _ => simpa using hj
  | 1, _ => simpa using hj
  | 2, _ => simpa using hj
  | 3, _ => simpa using hj
abbrev GRow (B : Nat) (w : World) (v : Value) (gs : List EdgeV) : Prop := w.ownsRow B 64 4 v gs.length (encG gs)
theorem grow_kept {B : Nat} {w w' : World} {v : Value} {gs : List EdgeV} (h : GRow B w v gs) (hk : ∀ b, v.ownBlock = some b → w'.heap[b]? = w.heap[b]?) : GRow B w' v gs := by
  refine ⟨h.1, ?_⟩; rcases h.2 with hn | ⟨g, cap, cur, e, hb, hgg, rest⟩
  · exact .inl hn
  · exact .inr ⟨g, cap, cur, e, hb, (hk g (by rw [e]; rfl)).trans hgg, rest⟩
theorem grow_shape {B : Nat} {w : World} {v : Value} {gs : List EdgeV} (h : GRow B w v gs) : ∃ a n c, v = .slice a n c := by
  rcases h.2 with ⟨e, h0⟩ | ⟨g', cap, cur, e, -⟩
  · exact ⟨_, _, _, e⟩
  · exact ⟨_, _, _, e⟩
theorem run_appG {B : Nat} {w : World} {v : Value} {gs : List EdgeV} (a : EdgeV) (h : GRow B w v gs) (hB : B ≤ w.heap.size) (hl : gs.length ≤ 100000) :
    ∃ a' n' c' w', (∀ ty, (Builtin.append_ #[26, 26] ty #[v, .slice (some ⟨w.heap.size, 0, none⟩) 1 1]).run Tryz.prog (w.alloc (oE a)) = .ok (.slice a' n' c') w') ∧ GRow B w' (.slice a' n' c') (gs ++ [a]) ∧ (w.alloc (oE a)).grownBy w' v.ownBlock ∧ ∀ b, (Value.slice a' n' c').ownBlock = some b → v.ownBlock = some b ∨ w.heap.size < b := by
  obtain ⟨i, hi, hz, hs, hb⟩ := info_parts info64; have hsz : (w.alloc (oE a)).heap.size = w.heap.size + 1 := by simp
  have h1 : GRow B (w.alloc (oE a)) v gs := grow_kept h (fun b hb => heap_alloc_old w _ (h.lt b hb).2)
  obtain ⟨v', w', hr, g1, g2, -, g3⟩ := run_append_own_at (P := Tryz.prog) (w.alloc (oE a)) B 26 0 64 i _ 4 32 Tryz.underlying26 hi hz hs hb rfl (by omega) v gs.length (encG gs) h1 ⟨w.heap.size, 0, none⟩ 1 1 [.int .i64 a.1, .int .i64 a.2.1, .int .i64 a.2.2.1, .int .u32 a.2.2.2] rfl
    (gcells_new w a) (by intro u hu; simp at hu; rcases hu with rfl | rfl | rfl | rfl <;> rfl) (by unfold maxLen; omega) (by omega) (by omega)
  rw [← encG_snoc, show gs.length + 1 = (gs ++ [a]).length by simp] at g1
  obtain ⟨a', n', c', rfl⟩ := grow_shape g1; refine ⟨a', n', c', w', fun ty => hr, g1, g2, fun b hb => ?_⟩
  rcases g3 with e | e
  · exact .inl (e ▸ hb)
  · rw [hb, hsz] at e; exact .inr (by have := Option.some.inj e; omega)
theorem boths_ge {ps : List (EdgeV × Bool)} {k : Int} : ∀ e ∈ boths ps k, 1 ≤ e := fun e he => by
  obtain ⟨j, x, -, -, h⟩ := mem_numsOf.1 he; omega
theorem brow_at {B : Nat} {w : World} {g n c : Nat} {ks : List Int} (h : BRow B w (.slice (some ⟨g, 0, none⟩) n c) ks) {j : Nat} {e : Int} (hj : ks[j]? = some e) : w.cell? ⟨g, j, none⟩ = some (.int .i64 e) := by
  have := h.cells (g := g) rfl j (.int .i64 e) (by rw [List.getElem?_map, hj]; rfl)
  rwa [show (⟨g, 0, none⟩ : Addr).add j = ⟨g, j, none⟩ by unfold Addr.add; split <;> simp_all] at this
theorem brow_some {B : Nat} {w : World} {a : Option Addr} {n c : Nat} {ks : List Int} (h : BRow B w (.slice a n c) ks) (h0 : 0 < ks.length) : ∃ g, a = some ⟨g, 0, none⟩ := by
  rcases h.2 with ⟨e, h1⟩ | ⟨g', cap, cur, e, -⟩
  · omega
  · injection e with e1; exact ⟨g', e1⟩
section
variable [Inhabited EntI] {w w' : World} {X : Sto}
structure Dv (w : World) (X : Sto) (es : List Int) (v1 gv : Value) (j : Nat) (W : World) (Y : Sto) : Prop where
  at_ : StAt W Y
  s : Y.s = X.s
  foot : Foots w X.L W Y.L
  ps : Y.ps = clr X.ps (es.take j)
  f : Y.f = X.f
  N : Y.N = X.N
  rd : Y.rd = X.rd
  wr : Y.wr = X.wr + j
  n : Y.n ≤ X.n + 65536 * j
  nums : BRow w.heap.size W v1 es
  l1 : ∀ b, v1.ownBlock = some b → Y.L b = none
  gone : GRow w.heap.size W gv ((es.take j).map (recOf X.ps))
  l2 : ∀ b, gv.ownBlock = some b → Y.L b = none ∧ v1.ownBlock ≠ some b
theorem Dv.step {es : List Int} {v1 gv : Value} {j i : Nat} {W w2 : World} {Y Y2 : Sto} {a : EdgeV} (h : Dv w X es v1 gv j W Y) (hj : es[j]? = some ((i : Int) + 1)) (hi : X.ps[i]? = some (a, true)) (hl : es.length ≤ 100000) (hR : Remd W Y i w2 Y2) :
    ∃ a' n' c' w', (∀ ty, (Builtin.append_ #[26, 26] ty #[gv, .slice (some ⟨w2.heap.size + 1, 0, none⟩) 1 1]).run Tryz.prog ((w2.alloc (oE a)).alloc (oE a)) = .ok (.slice a' n' c') w') ∧ Dv w X es v1 (.slice a' n' c') (j + 1) w' Y2 := by
  obtain ⟨⟨r1, r2, r3⟩, r4, r5, r6, r7, r8, r9⟩ := hR; have hw := h.foot.1.size; have hw2 := r3.1.size; have hsz : (w2.alloc (oE a)).heap.size = w2.heap.size + 1 := by simp
  have hb1 : Below w2.heap.size w2 (w2.alloc (oE a)) := (Below.refl _ _).alloc (Nat.le_refl _) _; have e1 : es.take (j + 1) = es.take j ++ [(i : Int) + 1] := by rw [List.take_add_one, hj]; rfl
  have hjl : (es.take j).length ≤ 100000 := by rw [List.length_take]; omega
  have old1 : ∀ b, v1.ownBlock = some b → w2.heap[b]? = W.heap[b]? ∧ Y2.L b = none := fun b hb => r3.old (h.nums.lt b hb).2 (h.l1 b hb)
  have old2 : ∀ b, gv.ownBlock = some b → w2.heap[b]? = W.heap[b]? ∧ Y2.L b = none := fun b hb => r3.old (h.gone.lt b hb).2 (h.l2 b hb).1
  have g0 : GRow w.heap.size (w2.alloc (oE a)) gv ((es.take j).map (recOf X.ps)) := grow_kept h.gone (fun b hb => (heap_alloc_old w2 _ (by have := (h.gone.lt b hb).2; omega)).trans (old2 b hb).1)
  obtain ⟨a', n', c', w', hr, g1, g2, g3⟩ := run_appG a g0 (by omega) (by rw [List.length_map]; exact hjl)
  rw [hsz] at hr g3; have hs3 : ((w2.alloc (oE a)).alloc (oE a)).heap.size = w2.heap.size + 2 := by simp
  have hb2 : Below w2.heap.size w2 ((w2.alloc (oE a)).alloc (oE a)) := hb1.trans ((Below.refl _ _).alloc (by omega) _)
  have keep : ∀ b, b < w2.heap.size → gv.ownBlock ≠ some b → w'.heap[b]? = w2.heap[b]? := fun b hb hn => (g2.block b (by omega) (fun e => hn e.symm)).trans (hb2.block b hb)
  have hnew : ∀ b, w2.heap.size ≤ b → Y2.L b = none := fun b hb => r1.mem.new hb
  have hs4 : w2.heap.size ≤ w'.heap.size := by have := g2.size; omega
  have labs : ∀ b, Y2.L b ≠ none → w'.heap[b]? = w2.heap[b]? := fun b hb => keep b (r1.mem.lt b hb) (fun e => hb (old2 b e).2)
  refine ⟨a', n', c', w', hr, ⟨r1.kept labs hs4, r2.trans h.s, ?_, ?_, r5.trans h.f, r6.trans h.N, r7.trans h.rd, ?_, Nat.le_trans r9 (by rw [Nat.mul_succ, ← Nat.add_assoc]; exact Nat.add_le_add_right h.n _), ?_, fun b hb => (old1 b hb).2, ?_, fun b hb => ?_⟩⟩
  · obtain ⟨F1, F2⟩ := h.foot.trans r3; exact ⟨⟨g2.os.trans (hb2.os.trans F1.os), g2.tape.trans (hb2.tape.trans F1.tape), g2.output.trans (hb2.output.trans F1.output), Nat.le_trans F1.size hs4, fun b hb hn => (keep b (Nat.lt_of_lt_of_le hb F1.size) (fun e => by have := (h.gone.lt b e).1; omega)).trans (F1.block b hb hn)⟩, F2⟩
  · rw [r4, h.ps, e1, clr_snoc]
  · rw [r8, h.wr]; push_cast; omega
  · exact brow_kept h.nums (fun b hb => (keep b (by have := (h.nums.lt b hb).2; omega) (fun e => (h.l2 b e).2 hb)).trans (old1 b hb).1)
  · rw [e1, List.map_append, List.map_singleton, recOf_at hi]; exact g1
  · rcases g3 b hb with e | e
    · exact ⟨(old2 b e).2, (h.l2 b e).2⟩
    · exact ⟨hnew b (by omega), fun e2 => by have := (h.nums.lt b e2).2; omega⟩
def Vanished (w : World) (X : Sto) (k : Int) (w' : World) (X' : Sto) : Prop :=
  Step w X w' X' ∧ X'.ps = clr X.ps (boths X.ps k) ∧ X'.f = putK X.f k none ∧ X'.N + 1 = X.N ∧ X'.rd = X.rd ∧ X'.wr = X.wr + (boths X.ps k).length ∧ X'.n ≤ X.n + 65536 * (boths X.ps k).length
theorem Dv.end_ {k : Int} {q : Nat} {v1 gv : Value} {W : World} {Y : Sto} (hX : StAt w X) (hk : X.f k = some q) (h : Dv w X (boths X.ps k) v1 gv (boths X.ps k).length W Y) :
    ∃ w', (∀ ty, (Builtin.delete_ #[79, 3] ty #[.map (some Y.m), .int .i64 k]).run Tryz.prog W = .ok (.tuple #[]) w') ∧ ∃ X', Vanished w X k w' X' ∧ GRow w.heap.size w' gv ((boths X.ps k).map (recOf X.ps)) ∧ ∀ b, gv.ownBlock = some b → X'.L b = none := by
  have hok := hX.ok hk; have hq : Y.f k = some q := by rw [h.f]; exact hk
  have hm := h.at_.mem; obtain ⟨N', hN'⟩ := mapFn_pos hm.map hok hq; have hmap := hm.map; rw [hN'] at hmap; obtain ⟨w', hr, g1, g2⟩ := hmap.del_ kitN (t := 79) (e := 88) Tryz.underlying79 k hok (by rw [hq]; rfl) 0
  have t2 := turned_map (S := fun b => b = Y.m) g2 rfl
  have labs : ∀ b l, Y.L b = some l → l ≠ .map → w'.heap[b]? = W.heap[b]? := fun b l e hl => t2.block b (hm.lt b (by rw [e]; simp)) (fun e2 => by
    subst e2; rw [hm.lmap] at e; exact hl (Option.some.inj e).symm)
  have hf : ∀ j p, putK Y.f k none j = some p → j ≠ k ∧ Y.f j = some p := fun j p e => by
    unfold putK at e
    by_cases hj : j = k
    · rw [if_pos hj] at e; cases e
    · rw [if_neg hj] at e; exact ⟨hj, e⟩
  have hps : Y.ps = clr X.ps (boths X.ps k) := by rw [h.ps, List.take_length]
  refine ⟨w', fun ty => hr, { Y with f := putK Y.f k none, N := N' }, ⟨⟨⟨⟨(labs _ _ hm.lbox (by simp)).trans hm.box, hm.tab.kept (fun b hb => labs _ _ (hm.ltab b hb) (by simp)), g1, fun j hj => ?_, fun j p e => (labs _ _ (hm.lpair j p (hf j p e).2) (by simp)).trans (hm.pair j p (hf j p e).2),
    fun j p e => nrow_kept (hm.out j p (hf j p e).2) (fun b hb => labs _ _ (hm.lout j p b (hf j p e).2 hb) (by simp)), fun j p e => nrow_kept (hm.inn j p (hf j p e).2) (fun b hb => labs _ _ (hm.linn j p b (hf j p e).2 hb) (by simp)), hm.lbox, hm.ltab, hm.lmap, fun j p e => hm.lpair j p (hf j p e).2, fun j p b e hb => hm.lout j p b (hf j p e).2 hb, fun j p b e hb => hm.linn j p b (hf j p e).2 hb, fun b hb => Nat.lt_of_lt_of_le (hm.lt b hb) t2.size⟩, fun i x hx => ?_, ?_⟩, h.s, ?_⟩, hps, by show putK Y.f k none = _; rw [h.f], ?_, h.rd, h.wr, h.n⟩, ?_⟩
  · replace hj : putK Y.f k none j ≠ none := hj
    refine hm.keys j (fun e => hj ?_)
    unfold putK
    by_cases hjk : j = k
    · rw [if_pos hjk]
    · rw [if_neg hjk]; exact e
  · replace hx : Y.ps[i]? = some (x, true) := hx
    obtain ⟨a1, a2, a3⟩ := h.at_.edge i x hx; rw [hps] at hx; obtain ⟨b1, b2⟩ := (at_clr _ _ i x boths_ge).1 hx; have n1 : x.2.1 ≠ k := fun e => b1 (mem_numsOf.2 ⟨i, x, b2, by simp [e], rfl⟩)
    have n2 : x.2.2.1 ≠ k := fun e => b1 (mem_numsOf.2 ⟨i, x, b2, by simp [e], rfl⟩)
    refine ⟨a1, ?_, ?_⟩
    · show putK Y.f k none _ ≠ none; unfold putK; rw [if_neg n1]; exact a2
    · show putK Y.f k none _ ≠ none; unfold putK; rw [if_neg n2]; exact a3
  · show N' ≤ 256; have := h.at_.size; omega
  · exact h.foot.trans ⟨t2.mono (fun b _ e => by rw [e, hm.lmap]; simp), fun b hb => .inl hb⟩
  · show N' + 1 = X.N; rw [← hN', h.N]
  · have := h.gone; rw [List.take_length] at this; refine ⟨grow_kept this (fun b hb => t2.block b (this.lt b hb).2 (fun e => ?_)), fun b hb => (h.l2 b hb).1⟩
    have := (h.l2 b hb).1; rw [e, hm.lmap] at this; cases this
set_option maxHeartbeats 1000000 in
set_option maxRecDepth 100000 in
theorem dropVNo (k : Int) (h : StAt w X) (hk : okN k) (hf : X.f k = none) : Calls Tryz.prog 64 #[.pointer (some ⟨X.s, 0, none⟩), .int .i64 k] w fun r w' => r = .returned (.tuple #[.slice none 0 0, .int .i64 5]) ∧ w' = w := by
  obtain ⟨-, c1, -, -, -⟩ := h.cells; have hl := h.look2 k hk; rw [hf] at hl; simp only [ptr, Option.isSome_none] at hl; generalize X.s = s at *; generalize X.m = m at *; clear h hk hf
  go_enter Tryz.func64, Tryz.ntmps64
  go_wp2_with fail
  go_ret2
  exact ⟨rfl, rfl⟩
set_option maxHeartbeats 4000000 in
set_option maxRecDepth 100000 in
theorem dropVS {q : Nat} (k : Int) (h : StAt w X) (hk : X.f k = some q) (hn : X.n ≤ 800000000) (hw0 : 0 ≤ X.wr) (hw1 : X.wr ≤ 900000000) : Calls Tryz.prog 64 #[.pointer (some ⟨X.s, 0, none⟩), .int .i64 k] w fun r w' => ∃ v', r = .returned (.tuple #[v', .int .i64 0]) ∧ Hid (∃ X', Vanished w X k w' X' ∧ GRow w.heap.size w' v' ((boths X.ps k).map (recOf X.ps)) ∧ ∀ b, v'.ownBlock = some b → X'.L b = none) := by
  obtain ⟨-, c1, -, -, -⟩ := h.cells; have hl := h.look2 k (h.ok hk); rw [hk] at hl; simp only [ptr, Option.isSome_some] at hl; have CA := hide (allS h hk); have hlen : (boths X.ps k).length ≤ 1024 := Nat.le_trans (length_numsOf _ _) (by have := h.tab.len; omega)
  have HS : Hid (∀ w1 v1, BRow w.heap.size w1 v1 (boths X.ps k) ∧ Below w.heap.size w w1 → Dv w X (boths X.ps k) v1 (.slice none 0 0) 0 w1 X) := fun w1 v1 hh => by
    refine ⟨h.below hh.2, rfl, Foots.below _ hh.2, rfl, rfl, rfl, rfl, by simp, by simp, hh.1, fun b hb => h.mem.new (hh.1.lt b hb).1, ⟨rfl, .inl ⟨rfl, rfl⟩⟩, fun b hb => by simp [Value.ownBlock] at hb⟩
  have HX := hide (And.intro h (And.intro hk (And.intro hn (And.intro hw0 (And.intro hw1 hlen))))); obtain ⟨s0, hs0⟩ : ∃ s0, s0 = X.s := ⟨_, rfl⟩; rw [← hs0] at c1 ⊢; have HS0 := hide hs0; obtain ⟨m0, hm0⟩ : ∃ m0, m0 = X.m := ⟨_, rfl⟩; rw [← hm0] at c1 hl; clear h hk hn hw0 hw1 hlen hs0 hm0
  go_enter Tryz.func64, Tryz.ntmps64
  go_wp2_with fail
  refine (unhide CA).mono ?_
  rintro r w1 ⟨v1, rfl, h1⟩
  obtain ⟨a1, c1', e1, -⟩ := brow_shape (unhide h1).1; subst e1; have HD := hide (unhide HS w1 _ (unhide h1)); obtain ⟨es, hes⟩ : ∃ es, es = boths X.ps k := ⟨_, rfl⟩; rw [← hes] at HD ⊢; have HE := hide hes; obtain ⟨L1, hL1⟩ : ∃ L1, L1 = es.length := ⟨_, rfl⟩; rw [← hL1]; have HL1 := hide hL1; rw [← hL1] at HD; clear CA HS h1 hes hL1 c1 hl
  go_wp2_with fail
  go_loopw [8, 27] (fun s8 s27 wr => ∃ (j : Nat) (ga : Option Addr) (gn gc : Nat) (Y : Sto), s27 = .int .i64 j ∧ s8 = .slice ga gn gc ∧ j ≤ L1 ∧ Hid (Dv w X es (.slice a1 L1 c1') (.slice ga gn gc) j wr Y)) (fun _ s27 _ => L1 - (intOf s27).toNat)
  case atStart => exact ⟨0, none, 0, 0, X, rfl, rfl, Nat.zero_le _, HD⟩
  case round =>
    obtain ⟨j, ga, gn, gc, Y, rfl, rfl, hjL, hD⟩ := hrel
    by_cases hj : j < L1
    · have hjz : (j : Int) < (L1 : Int) := by omega
      have hje : j < es.length := by have := unhide HL1; omega
      obtain ⟨e, he⟩ : ∃ e, es[j]? = some e := ⟨_, List.getElem?_eq_getElem hje⟩; have hmem : e ∈ boths X.ps k := by rw [← unhide HE]; exact List.mem_of_getElem? he
      obtain ⟨i, a, hi, -, rfl⟩ := mem_numsOf.1 hmem; obtain ⟨g1, rfl⟩ := brow_some (unhide hD).nums (by omega)
      have hc := brow_at (unhide hD).nums he; have hYi : Y.ps[i]? = some (a, true) := by
        rw [(unhide hD).ps]; refine (at_clr _ _ i a (fun x hx => boths_ge x (by rw [← unhide HE]; exact List.mem_of_mem_take hx))).2 ⟨fun hin => ?_, hi⟩
        have hr : Rising ltN es := by rw [unhide HE]; exact rising_numsOf _ _
        obtain ⟨p, hp, ep⟩ := List.mem_iff_getElem.1 hin; have hpj : p < j := by simp at hp; omega
        have hlt := List.pairwise_iff_getElem.1 hr p j (by omega) hje hpj
        rw [List.getElem_take] at ep; have e2 : es[j] = (i : Int) + 1 := by rw [List.getElem?_eq_getElem hje] at he; exact Option.some.inj he
        rw [ep, e2] at hlt; simp [ltN] at hlt
      have CR : Hid (Calls Tryz.prog 51 #[.pointer (some ⟨s0, 0, none⟩), .int .i64 ((i : Int) + 1)] wr fun r w2 => r = .returned (.tuple #[.agg #[.int .i64 a.1, .int .i64 a.2.1, .int .i64 a.2.2.1, .int .u32 a.2.2.2], .bool true]) ∧ Hid (∃ Y2 a' n' c' w', (∀ ty, (Builtin.append_ #[26, 26] ty #[.slice ga gn gc, .slice (some ⟨w2.heap.size + 1, 0, none⟩) 1 1]).run Tryz.prog ((w2.alloc (oE a)).alloc (oE a)) = .ok (.slice a' n' c') w') ∧ Dv w X es (.slice (some ⟨g1, 0, none⟩) L1 c1') (.slice a' n' c') (j + 1) w' Y2)) := by
        have hD' := unhide hD; obtain ⟨-, -, q1, q2, q3, q4⟩ := unhide HX; have q5 := unhide HL1; rw [unhide HE] at q5; have q6 : 65536 * j ≤ 65536 * 1024 := Nat.mul_le_mul_left _ (by omega)
        have q7 := hD'.n; have q8 := hD'.wr; have := removeS i hD'.at_ hYi (by omega) (by omega) (by omega)
        rw [hD'.s, ← unhide HS0] at this; refine this.mono ?_
        rintro r w2 ⟨rfl, h2⟩
        obtain ⟨Y2, hR⟩ := unhide h2; obtain ⟨a', n', c', w', hr, hd⟩ := hD'.step he hi (by have := unhide HL1; omega) hR
        exact ⟨rfl, Y2, a', n', c', w', hr, hd⟩
      clear hD hYi hmem hi he hje HD
      go_wp2_with fail
      refine (unhide CR).mono ?_
      rintro r w2 ⟨rfl, h2⟩
      clear CR hc
      go_upto_region 9 with fail
      change Code.wp _ _ _ _ (w2.alloc (oE a)); obtain ⟨Y2, a', n', c', w', hr, hd⟩ := unhide h2; have HDD := hide hd; obtain ⟨x0, x1, x2, x3, -⟩ := box_cells (heap_alloc_new w2 (oE a)); have hsz : (w2.alloc (oE a)).heap.size = w2.heap.size + 1 := by simp
      rw [← hsz] at hr; clear h2 hd hsz; generalize w2.alloc (oE a) = w3 at *; generalize w2.heap.size = b2 at *; have HR := hide hr; clear hr; unfold oE at HR
      go_wp2_with (at_builtin; refine Lib.wpList_append_run _ rfl _ _ 26 26 rfl _ _ rfl rfl _ _ (unhide HR _) ?_)
      have hwj : wrap64 ((j : Int) + 1) = ((j + 1 : Nat) : Int) := by
        have h1 := (unhide HX).2.2.2.2.2; have h2 := unhide HL1; rw [unhide HE] at h2; unfold wrap64; omega
      rw [hwj]; exact ⟨⟨j + 1, a', n', c', Y2, rfl, rfl, by omega, HDD⟩, by simp [intOf]; omega⟩
    · have hjz : ¬ (j : Int) < (L1 : Int) := by omega
      have HF : Hid (∃ ym w', wr.cell? ⟨s0, 1, none⟩ = some (.map (some ym)) ∧ (∀ ty, (Builtin.delete_ #[79, 3] ty #[.map (some ym), .int .i64 k]).run Tryz.prog wr = .ok (.tuple #[]) w') ∧ ∃ X', Vanished w X k w' X' ∧ GRow w.heap.size w' (.slice ga gn gc) ((boths X.ps k).map (recOf X.ps)) ∧ ∀ b, (Value.slice ga gn gc).ownBlock = some b → X'.L b = none) := by
        obtain ⟨h, hk, -, -, -, -⟩ := unhide HX; have hD' := unhide hD; have e1 : j = (boths X.ps k).length := by have := unhide HL1; rw [unhide HE] at this; omega
        rw [unhide HE, e1] at hD'; obtain ⟨w', hr, hV⟩ := hD'.end_ h hk; have c := hD'.at_.cells.2.1; rw [hD'.s, ← unhide HS0] at c; exact ⟨_, w', c, hr, hV⟩
      clear hD HD; obtain ⟨ym, w', k1, hr, hV⟩ := unhide HF; have HV := hide hV; have hr0 := hr 0; clear HF hV
      go_wp2_with fail
      go_ret2
      obtain ⟨X', v1, v2, v3⟩ := unhide HV
      first | exact ⟨_, rfl, X', v1, v2, v3⟩ | exact ⟨_, rfl, v2, X', v1, v3⟩ | exact ⟨_, rfl, X', v1, v3, v2⟩
end
end

end Go.Proofs.YtagibmgbjhemkaaGreat
