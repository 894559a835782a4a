/- A checker's records: a store behind a map of what is known. -/
import Derived.Test.YtagibmgbjhemkaaGreatMapG17
import Derived.Handy
namespace Go.Proofs.YtagibmgbjhemkaaGreat
open Go.RowKit Go.Maps
theorem Kn.lt {ps : List (EdgeV × Bool)} {c : Nat} {w : World} {m : Nat} (h : Kn ps c w m) : m < w.heap.size := by obtain ⟨f, n, h1, -⟩ := h; exact h1.lt
theorem Kn.kept {ps : List (EdgeV × Bool)} {c : Nat} {w w' : World} {m : Nat} (h : Kn ps c w m) (hk : w'.heap[m]? = w.heap[m]?) : Kn ps c w' m := by obtain ⟨f, n, h1, h2, h3⟩ := h; exact ⟨f, n, h1.kept hk, h2, h3⟩
theorem Kn.below {ps : List (EdgeV × Bool)} {c : Nat} {w w' : World} {m : Nat} (h : Kn ps c w m) (hb : Below w.heap.size w w') : Kn ps c w' m := h.kept (hb.block m h.lt)
theorem Kn.up {ps : List (EdgeV × Bool)} {c c' : Nat} {w : World} {m : Nat} (h : Kn ps c w m) (hc : c ≤ c') : Kn ps c' w m := by obtain ⟨f, n, h1, h2, h3⟩ := h; exact ⟨f, n, h1, by omega, h3⟩
theorem kn_new (ps : List (EdgeV × Bool)) (w : World) : Kn ps 0 (w.alloc (.map #[] 0)) w.heap.size := ⟨fun _ => none, 0, mapG_made w, Nat.le_refl _, fun e x _ h => by cases h⟩
structure MidR [Inhabited EntI] (P : List EdgeV → (Nat → Prop) → World → Prop) (w : World) (X : Sto) (A : Nat → Prop) (m c : Nat) (d : List EdgeV) (A' : Nat → Prop) (w' : World) : Prop where
  st : ∃ n : Nat, n ≤ c ∧ StAt w' { X with rd := X.rd + (n : Int) }
  kn : Kn X.ps c w' m
  pic : P d A' w'
  turned : Turned (fun b => (X.L b ≠ none ∨ b = m) ∨ A b) w w'
  own : ∀ b, A' b → A b ∨ w.heap.size ≤ b
  off : ∀ b, A' b → X.L b = none ∧ b ≠ m
  free : X.L m = none
theorem turned_set4 {S : Nat → Prop} (w : World) {g : Nat} (hg : S g) (a b c d : Value) : Turned S w (Go.Proofs.YtagibmgbjhemkaaGreat.set4 w g a b c d) :=
  (((turned_setCell _ _ _ hg).trans (turned_setCell _ _ _ hg)).trans (turned_setCell _ _ _ hg)).trans (turned_setCell _ _ _ hg)
def oRec (s m : Nat) : Obj := .cells #[.iface 24 (.pointer (some ⟨s, 0, none⟩)), .map (some m)] 139
theorem oRec_cells {w : World} {b s m : Nat} (h : w.heap[b]? = some (oRec s m)) : w.cell? ⟨b, 0, none⟩ = some (.iface 24 (.pointer (some ⟨s, 0, none⟩))) ∧ w.cell? ⟨b, 1, none⟩ = some (.map (some m)) :=
  ⟨(cell_of_row _ _ 0 _ _ (0, 0) h).trans rfl, (cell_of_row _ _ 1 _ _ (0, 0) h).trans rfl⟩
theorem rec_start (W : World) (s m : Nat) : ((W.alloc (oRec s m)).alloc o34).heap[W.heap.size]? = some (oRec s m) ∧ ((W.alloc (oRec s m)).alloc o34).heap[W.heap.size + 1]? = some o34 ∧ Below W.heap.size W ((W.alloc (oRec s m)).alloc o34) ∧ ((W.alloc (oRec s m)).alloc o34).heap.size = W.heap.size + 2 := by
  have h1 := below_new W (oRec s m); have h2 := below_new (W.alloc (oRec s m)) o34; have s1 : (W.alloc (oRec s m)).heap.size = W.heap.size + 1 := by simp
  have s2 : ((W.alloc (oRec s m)).alloc o34).heap.size = W.heap.size + 2 := by simp
  refine ⟨(h2.block _ (by omega)).trans (heap_alloc_new _ _), ?_, h1.trans (h2.mono (by omega)), s2⟩
  have := heap_alloc_new (W.alloc (oRec s m)) o34; rw [s1] at this; exact this
section
variable [Inhabited EntI] {P : List EdgeV → (Nat → Prop) → World → Prop} {w w' w2 : World} {X : Sto} {A A' : Nat → Prop} {n N m c : Nat} {d : List EdgeV} {Q : EdgeV → Prop} {fv : Value}
theorem MidR.up (h : MidR P w X A m c d A' w') {c' : Nat} (hc : c ≤ c') : MidR P w X A m c' d A' w' := by
  obtain ⟨⟨n, h1, h2⟩, h3, h4, h5, h6, h7, h8⟩ := h; exact ⟨⟨n, by omega, h2⟩, h3.up hc, h4, h5, h6, h7, h8⟩
theorem MidR.below (hF : StepFn fv N Q P) (h : MidR P w X A m c d A' w') (hb : Below w'.heap.size w' w2) : MidR P w X A m c d A' w2 := by
  obtain ⟨⟨n, h1, h2⟩, h3, h4, h5, h6, h7, h8⟩ := h; exact ⟨⟨n, h1, h2.below hb⟩, h3.below hb, hF.keep _ _ _ _ h4 (fun b hb' => hb.block b (hF.lt _ _ _ b h4 hb')) hb.size, h5.trans (turned_of_below hb), h6, h7, h8⟩
theorem MidR.step {x : EdgeV} {A2 : Nat → Prop} (h : MidR P w X A m c d A' w') (hP : P (d ++ [x]) A2 w2) (hT : Turned A' w' w2) (ho : ∀ b, A2 b → A' b ∨ w'.heap.size ≤ b) : MidR P w X A m c (d ++ [x]) A2 w2 := by
  obtain ⟨⟨n, h1, h2⟩, h3, h4, h5, h6, h7, h8⟩ := h; refine ⟨⟨n, h1, h2.kept (fun b hb => hT.block b (h2.mem.lt b hb) (fun ha => hb (h7 b ha).1)) hT.size⟩, h3.kept (hT.block m h3.lt (fun ha => (h7 m ha).2 rfl)), hP, h5.then_ hT (fun b hb ha => ?_), fun b hb => ?_, fun b hb => ?_, h8⟩
  · rcases h6 b ha with e | e
    · exact .inr e
    · exact absurd hb (Nat.not_lt.2 e)
  · rcases ho b hb with e | e
    · exact h6 b e
    · exact .inr (Nat.le_trans h5.size e)
  · rcases ho b hb with e | e
    · exact h7 b e
    · exact ⟨h2.mem.new e, fun q => by have := h3.lt; omega⟩
theorem MidR.read (hF : StepFn fv N Q P) (h : MidR P w X A m c d A' w') {n : Nat} (hn : n ≤ c) (hS : Step w' { X with rd := X.rd + (n : Int) } w2 { X with rd := X.rd + (n : Int) + 1 }) : MidR P w X A m (c + 1) d A' w2 := by
  obtain ⟨-, h3, h4, h5, h6, h7, h8⟩ := h; obtain ⟨g1, -, g3⟩ := hS; refine ⟨⟨n + 1, by omega, ?_⟩, (h3.up (Nat.le_succ _)).kept (g3.old h3.lt h8).1, hF.keep _ _ _ _ h4 (fun b hb' => (g3.old (hF.lt _ _ _ b h4 hb') (h7 b hb').1).1) g3.1.size, h5.trans (g3.1.mono (fun b _ hb => .inl (.inl hb))), h6, h7, h8⟩
  have e : X.rd + ((n + 1 : Nat) : Int) = X.rd + (n : Int) + 1 := by omega
  rw [e]; exact g1
theorem MidR.keep (hF : StepFn fv N Q P) (h : MidR P w X A m c d A' w') (hk : Kn X.ps c w2 m) (hT : Turned (fun b => b = m) w' w2) : MidR P w X A m c d A' w2 := by
  obtain ⟨⟨n, h1, h2⟩, h3, h4, h5, h6, h7, h8⟩ := h; refine ⟨⟨n, h1, h2.kept (fun b hb => hT.block b (h2.mem.lt b hb) (fun e => hb (by rw [e]; exact h8))) hT.size⟩, hk, hF.keep _ _ _ _ h4 (fun b hb' => hT.block b (hF.lt _ _ _ b h4 hb') (h7 b hb').2) hT.size, h5.trans (hT.mono (fun b _ hb => .inl (.inr hb))), h6, h7, h8⟩
theorem MidR.own1 (hF : StepFn fv N Q P) {W : World} (h0 : MidR P w X A m c d A' W) (h : MidR P w X A m c d A' w') {b : Nat} (hb : W.heap.size ≤ b) (hT : Turned (fun i => i = b) w' w2) : MidR P w X A m c d A' w2 := by
  have k1 : ¬ A' b := fun e => by have := hF.lt _ _ _ b h0.pic e; omega
  have k2 : b ≠ m := fun e => by have := h0.kn.lt; omega
  have k3 : X.L b = none := by obtain ⟨n, -, h2⟩ := h0.st; exact h2.mem.new hb
  have k4 : w.heap.size ≤ b := Nat.le_trans h0.turned.size hb; obtain ⟨⟨n, h1, h2⟩, h3, h4, h5, h6, h7, h8⟩ := h; refine ⟨⟨n, h1, h2.kept (fun i hi => hT.block i (h2.mem.lt i hi) (fun e => hi (by rw [e]; exact k3))) hT.size⟩, h3.kept (hT.block m h3.lt (fun e => k2 e.symm)), hF.keep _ _ _ _ h4 (fun i hi => hT.block i (hF.lt _ _ _ i h4 hi) (fun e => k1 (e ▸ hi))) hT.size, h5.then_ hT (fun i hi e => by omega), h6, h7, h8⟩
set_option maxHeartbeats 2000000 in
set_option maxRecDepth 100000 in
theorem recKnown (hF : StepFn fv N Q P) (e : Int) (he : okN e) {W : World} (h : MidR P w X A m c d A' W) {f : Int → Option EdgeV} {k : Nat} (hm : MapG edEd rdEd ((0, 0, 0, 0) : EdgeV) W m f k) {x : EdgeV} (hf : f e = some x) :
    Calls Tryz.prog 170 #[.agg #[.iface 24 (.pointer (some ⟨X.s, 0, none⟩)), .map (some m)], .int .i64 e] W fun r w' => r = .returned (.tuple #[.agg #[.int .i64 x.1, .int .i64 x.2.1, .int .i64 x.2.2.1, .int .u32 x.2.2.2], .int .i64 0]) ∧ Hid (MidR P w X A m (c + 1) d A' w') := by
  obtain ⟨q1, q2, q3, q4⟩ := rec_start W X.s m; have hl := (hm.kept (q3.block m hm.lt)).look2 kitEd (t := 137) rfl zeroEd he; rw [hf] at hl; obtain ⟨xe, xu, xv, xb⟩ := x; have hl' : (Instr.lookup 137 (.map (some m)) (.int .i64 e) true).run Tryz.prog ((W.alloc (oRec X.s m)).alloc o34) = .ok (.tuple #[.agg #[.int .i64 xe, .int .i64 xu, .int .i64 xv, .int .u32 xb], .bool true]) ((W.alloc (oRec X.s m)).alloc o34) := hl; have hb2 := below_new ((W.alloc (oRec X.s m)).alloc o34) (oE (xe, xu, xv, xb)); have HE : Hid (∀ x0 x1 x2 x3, MidR P w X A m (c + 1) d A' (Go.Proofs.YtagibmgbjhemkaaGreat.set4 (((W.alloc (oRec X.s m)).alloc o34).alloc (oE (xe, xu, xv, xb))) (W.heap.size + 1) x0 x1 x2 x3)) := fun x0 x1 x2 x3 => ((h.own1 (b := W.heap.size + 1) hF ((h.below hF q3).below hF hb2) (Nat.le_succ _) (turned_set4 (S := fun i => i = W.heap.size + 1) _ rfl _ _ _ _)).up (Nat.le_succ _))
  have HX : Hid ((((W.alloc (oRec X.s m)).alloc o34).alloc (oE (xe, xu, xv, xb))).heap[((W.alloc (oRec X.s m)).alloc o34).heap.size]? = some (oE (xe, xu, xv, xb)) ∧ (((W.alloc (oRec X.s m)).alloc o34).alloc (oE (xe, xu, xv, xb))).heap[W.heap.size + 1]? = some o34 ∧ W.heap.size + 1 ≠ ((W.alloc (oRec X.s m)).alloc o34).heap.size) := ⟨heap_alloc_new _ _, (hb2.block _ (by omega)).trans q2, by omega⟩
  obtain ⟨r0, r1⟩ := oRec_cells q1; clear hl hb2 q1 q2 q3 q4 h hm hf; generalize X.s = s at *
  go_enter Tryz.func170, Tryz.ntmps170
  go_upto_region 1 with fail
  change Code.wp _ _ _ _ ((W.alloc (oRec s m)).alloc o34); generalize (W.alloc (oRec s m)).alloc o34 = w1 at *; generalize hb : W.heap.size = b at *
  go_upto_region 2 with fail
  change Code.wp _ _ _ _ (w1.alloc (oE (xe, xu, xv, xb))); obtain ⟨j1, j2, j3⟩ := unhide HX; obtain ⟨x0, x1, x2, x3, -⟩ := box_cells j1; obtain ⟨g0, g1, g2, g3, gf⟩ := cells34 j2; have HJ := hide j2; clear hl' HX j1 j2 r0 r1; simp only at x0 x1 x2 x3; generalize w1.alloc (oE (xe, xu, xv, xb)) = w2 at *; generalize w1.heap.size = b2 at *
  go_wp2_with fail
  (try simp only [Exit.inBlock, Exit.then])
  change bodyPost _ _ _ _ _ (Go.Proofs.YtagibmgbjhemkaaGreat.set4 w2 (b + 1) _ _ _ _); refine bodyPost_ret (resE rfl _ _ (b + 1) _ _ _ _ rfl (set4_at (unhide HJ) _ _ _ _)) rfl ?_; exact ⟨rfl, unhide HE _ _ _ _⟩
set_option maxHeartbeats 2000000 in
set_option maxRecDepth 100000 in
theorem recNo (hF : StepFn fv N Q P) (e : Int) (he : okN e) {W : World} (h : MidR P w X A m c d A' W) {f : Int → Option EdgeV} {k : Nat} (hm : MapG edEd rdEd ((0, 0, 0, 0) : EdgeV) W m f k) (hf : f e = none) (hk : lk X.ps e = none) :
    Calls Tryz.prog 170 #[.agg #[.iface 24 (.pointer (some ⟨X.s, 0, none⟩)), .map (some m)], .int .i64 e] W fun r w' => r = .returned (.tuple #[.agg #[.int .i64 0, .int .i64 0, .int .i64 0, .int .u32 0], .int .i64 6]) ∧ Hid (MidR P w X A m (c + 1) d A' w') := by
  obtain ⟨q1, q2, q3, q4⟩ := rec_start W X.s m; have hl := (hm.kept (q3.block m hm.lt)).look2 kitEd (t := 137) rfl zeroEd he; rw [hf] at hl; have hl' : (Instr.lookup 137 (.map (some m)) (.int .i64 e) true).run Tryz.prog ((W.alloc (oRec X.s m)).alloc o34) = .ok (.tuple #[.agg #[.int .i64 0, .int .i64 0, .int .i64 0, .int .u32 0], .bool false]) ((W.alloc (oRec X.s m)).alloc o34) := hl; have hb2 := below_new ((W.alloc (oRec X.s m)).alloc o34) (oE (0, 0, 0, 0)); have hz : (((W.alloc (oRec X.s m)).alloc o34).alloc (oE (0, 0, 0, 0))).heap.size = W.heap.size + 3 := by simp
  have h2 := (h.below hF q3).below hF hb2; obtain ⟨n, hn1, hn2⟩ := h2.st; have CE := hide (edgeNo (X := { X with rd := X.rd + (n : Int) }) e hn2 (fun i a q => lk_none hk i a q))
  have HE : Hid (∀ w4, Below (((W.alloc (oRec X.s m)).alloc o34).alloc (oE (0, 0, 0, 0))).heap.size (((W.alloc (oRec X.s m)).alloc o34).alloc (oE (0, 0, 0, 0))) w4 → (w4.alloc (oE (0, 0, 0, 0))).heap[w4.heap.size]? = some (oE (0, 0, 0, 0)) ∧ (w4.alloc (oE (0, 0, 0, 0))).heap[W.heap.size + 1]? = some o34 ∧ W.heap.size + 1 ≠ w4.heap.size ∧ ∀ x0 x1 x2 x3, MidR P w X A m (c + 1) d A' (Go.Proofs.YtagibmgbjhemkaaGreat.set4 (w4.alloc (oE (0, 0, 0, 0))) (W.heap.size + 1) x0 x1 x2 x3)) := fun w4 hb4 => by
    have hb5 := below_new w4 (oE (0, 0, 0, 0)); have hs4 := hb4.size; refine ⟨heap_alloc_new _ _, (hb5.block _ (by omega)).trans ((hb4.block _ (by omega)).trans ((hb2.block _ (by omega)).trans q2)), by omega, fun x0 x1 x2 x3 => ?_⟩
    exact (h.own1 (b := W.heap.size + 1) hF ((h2.below hF hb4).below hF hb5) (Nat.le_succ _) (turned_set4 (S := fun i => i = W.heap.size + 1) _ rfl _ _ _ _)).up (Nat.le_succ _)
  have HR : Hid ((((W.alloc (oRec X.s m)).alloc o34).alloc (oE (0, 0, 0, 0))).heap[W.heap.size]? = some (oRec X.s m)) := (hb2.block _ (by omega)).trans q1
  obtain ⟨r0, r1⟩ := oRec_cells q1; clear hl hb2 hz h2 q1 q2 q3 q4 h hm hf hn1 hn2 hk; generalize X.s = s at *
  go_enter Tryz.func170, Tryz.ntmps170
  go_upto_region 1 with fail
  change Code.wp _ _ _ _ ((W.alloc (oRec s m)).alloc o34); generalize (W.alloc (oRec s m)).alloc o34 = w1 at *; generalize hb : W.heap.size = b at *
  go_upto_region 2 with fail
  change Code.wp _ _ _ _ (w1.alloc (oE (0, 0, 0, 0))); obtain ⟨r2, r3⟩ := oRec_cells (unhide HR); clear hl' r0 r1 HR; generalize w1.alloc (oE (0, 0, 0, 0)) = w2 at *; generalize w1.heap.size = b2 at *
  go_wp2_with fail
  refine (unhide CE).mono ?_
  rintro r w4 ⟨rfl, hb4⟩
  obtain ⟨j1, j2, j3, j4⟩ := unhide HE w4 hb4; obtain ⟨x0, x1, x2, x3, -⟩ := box_cells j1; obtain ⟨g0, g1, g2, g3, gf⟩ := cells34 j2; have HJ := hide j2; have HJ4 := hide j4; clear CE HE hb4 j1 j2 j4 r2 r3; simp only at x0 x1 x2 x3
  go_upto_region 5 with fail
  change Code.wp _ _ _ _ (w4.alloc (oE (0, 0, 0, 0))); generalize w4.alloc (oE (0, 0, 0, 0)) = w5 at *; generalize w4.heap.size = b5 at *
  go_wp2_with fail
  (try simp only [Exit.inBlock, Exit.then])
  change bodyPost _ _ _ _ _ (Go.Proofs.YtagibmgbjhemkaaGreat.set4 w5 (b + 1) _ _ _ _); refine bodyPost_ret (resE rfl _ _ (b + 1) _ _ _ _ rfl (set4_at (unhide HJ) _ _ _ _)) rfl ?_; exact ⟨rfl, unhide HJ4 _ _ _ _⟩
set_option maxHeartbeats 2000000 in
set_option maxRecDepth 100000 in
theorem recYes (hF : StepFn fv N Q P) (e : Int) (he : okN e) {W : World} (h : MidR P w X A m c d A' W) (hc : c ≤ 100000) (hx0 : 0 ≤ X.rd) (hx1 : X.rd ≤ 100000000) {f : Int → Option EdgeV} {k : Nat} (hm : MapG edEd rdEd ((0, 0, 0, 0) : EdgeV) W m f k) (hkc : k ≤ c) (hfk : ∀ e x, okN e → f e = some x → lk X.ps e = some x) (hf : f e = none) {x : EdgeV} (hk : lk X.ps e = some x) :
    Calls Tryz.prog 170 #[.agg #[.iface 24 (.pointer (some ⟨X.s, 0, none⟩)), .map (some m)], .int .i64 e] W fun r w' => r = .returned (.tuple #[.agg #[.int .i64 x.1, .int .i64 x.2.1, .int .i64 x.2.2.1, .int .u32 x.2.2.2], .int .i64 0]) ∧ Hid (MidR P w X A m (c + 1) d A' w') := by
  obtain ⟨q1, q2, q3, q4⟩ := rec_start W X.s m; have hl := (hm.kept (q3.block m hm.lt)).look2 kitEd (t := 137) rfl zeroEd he; rw [hf] at hl; have hl' : (Instr.lookup 137 (.map (some m)) (.int .i64 e) true).run Tryz.prog ((W.alloc (oRec X.s m)).alloc o34) = .ok (.tuple #[.agg #[.int .i64 0, .int .i64 0, .int .i64 0, .int .u32 0], .bool false]) ((W.alloc (oRec X.s m)).alloc o34) := hl; have hb2 := below_new ((W.alloc (oRec X.s m)).alloc o34) (oE (0, 0, 0, 0)); have hz : (((W.alloc (oRec X.s m)).alloc o34).alloc (oE (0, 0, 0, 0))).heap.size = W.heap.size + 3 := by simp
  have hmlt := hm.lt; have h2 := (h.below hF q3).below hF hb2; obtain ⟨n, hn1, hn2⟩ := h2.st; obtain ⟨i, hei, hi⟩ := lk_some hk; have CE := hide (edgeS (X := { X with rd := X.rd + (n : Int) }) i hn2 hi (by show 0 ≤ X.rd + (n : Int); omega) (by show X.rd + (n : Int) ≤ 1000000000; omega))
  rw [← hei] at CE; have hL0 : X.L W.heap.size = none := by obtain ⟨n, -, g⟩ := h.st; exact g.mem.new (Nat.le_refl _)
  have hL1 : X.L (W.heap.size + 1) = none := by obtain ⟨n, -, g⟩ := h.st; exact g.mem.new (Nat.le_succ _)
  have HE : Hid (∀ w4, Readd (((W.alloc (oRec X.s m)).alloc o34).alloc (oE (0, 0, 0, 0))) { X with rd := X.rd + (n : Int) } w4 → (w4.alloc (oE x)).heap[w4.heap.size]? = some (oE x) ∧ (w4.alloc (oE x)).heap[W.heap.size + 1]? = some o34 ∧ (w4.alloc (oE x)).heap[W.heap.size]? = some (oRec X.s m) ∧ W.heap.size + 1 ≠ w4.heap.size ∧ ∃ w6, (Instr.mapUpdate 137 (.map (some m)) (.int .i64 e) (.agg #[.int .i64 x.1, .int .i64 x.2.1, .int .i64 x.2.2.1, .int .u32 x.2.2.2])).run Tryz.prog (w4.alloc (oE x)) = .ok () w6 ∧ w6.heap[W.heap.size + 1]? = some o34 ∧ w6.heap[w4.heap.size]? = some (oE x) ∧ ∀ x0 x1 x2 x3, MidR P w X A m (c + 1) d A' (Go.Proofs.YtagibmgbjhemkaaGreat.set4 w6 (W.heap.size + 1) x0 x1 x2 x3)) := fun w4 hR => by
    have hb5 := below_new w4 (oE x); have h4 := h2.read hF hn1 hR; have hT : Turned (fun b => X.L b ≠ none) (((W.alloc (oRec X.s m)).alloc o34).alloc (oE (0, 0, 0, 0))) w4 := hR.2.2.1
    have hs4 := hT.size; have k1 : w4.heap[W.heap.size + 1]? = some o34 := (hT.block _ (by omega) (fun z => z hL1)).trans ((hb2.block _ (by omega)).trans q2)
    have k0 : w4.heap[W.heap.size]? = some (oRec X.s m) := (hT.block _ (by omega) (fun z => z hL0)).trans ((hb2.block _ (by omega)).trans q1)
    have km : w4.heap[m]? = W.heap[m]? := (hT.block _ (by omega) (fun z => z h.free)).trans ((hb2.block _ (by omega)).trans (q3.block m hmlt))
    have m5 := (hm.kept km).kept (hb5.block m (by omega))
    obtain ⟨w6, r6, m6, t6⟩ := m5.put kitEd (t := 137) (e := 64) rfl (by unfold maxLen; omega) he x
    rw [hf] at m6; have ht6 : Turned (fun b => b = m) (w4.alloc (oE x)) w6 := turned_map t6 rfl
    have hs5 := hb5.size; have kn6 : Kn X.ps (c + 1) w6 m := ⟨_, _, m6, by simp; omega, fun e' x' he' hx' => by
      unfold putG at hx'
      by_cases q : e' = e
      · rw [if_pos q] at hx'; rw [q, hk, Option.some.inj hx']
      · rw [if_neg q] at hx'; exact hfk e' x' he' hx'⟩
    have hsz : (w4.alloc (oE x)).heap.size = w4.heap.size + 1 := by simp
    refine ⟨heap_alloc_new _ _, (hb5.block _ (by omega)).trans k1, (hb5.block _ (by omega)).trans k0, by omega, w6, r6, (ht6.block _ (by omega) (by omega)).trans ((hb5.block _ (by omega)).trans k1), (ht6.block _ (by omega) (by omega)).trans (heap_alloc_new _ _), fun x0 x1 x2 x3 => ?_⟩
    exact (h.up (Nat.le_succ c)).own1 (b := W.heap.size + 1) hF ((h4.below hF hb5).keep hF kn6 ht6) (Nat.le_succ _) (turned_set4 (S := fun i => i = W.heap.size + 1) _ rfl _ _ _ _)
  have HR : Hid ((((W.alloc (oRec X.s m)).alloc o34).alloc (oE (0, 0, 0, 0))).heap[W.heap.size]? = some (oRec X.s m)) := (hb2.block _ (by omega)).trans q1
  obtain ⟨r0, r1⟩ := oRec_cells q1; clear hl hb2 hz h2 q1 q2 q3 q4 h hm hf hn1 hn2 hk hL0 hL1 hfk hmlt hi hei; generalize X.s = s at *; obtain ⟨xe, xu, xv, xb⟩ := x
  go_enter Tryz.func170, Tryz.ntmps170
  go_upto_region 1 with fail
  change Code.wp _ _ _ _ ((W.alloc (oRec s m)).alloc o34); generalize (W.alloc (oRec s m)).alloc o34 = w1 at *; generalize hb : W.heap.size = b at *
  go_upto_region 2 with fail
  change Code.wp _ _ _ _ (w1.alloc (oE (0, 0, 0, 0))); obtain ⟨r2, r3⟩ := oRec_cells (unhide HR); clear hl' r0 r1 HR; generalize w1.alloc (oE (0, 0, 0, 0)) = w2 at *; generalize w1.heap.size = b2 at *
  go_wp2_with fail
  refine (unhide CE).mono ?_
  rintro r w4 ⟨rfl, hR4⟩
  obtain ⟨j1, j2, j0, j3, w6, hr6, k2, k3, j4⟩ := unhide HE w4 (unhide hR4); obtain ⟨x0, x1, x2, x3, -⟩ := box_cells j1; obtain ⟨r4, r5⟩ := oRec_cells j0; obtain ⟨y0, y1, y2, y3, -⟩ := box_cells k3; obtain ⟨g0, g1, g2, g3, gf⟩ := cells34 k2; have HJ := hide k2; have HJ4 := hide j4; clear CE HE hR4 j0 j1 j2 j4 r2 r3 k2 k3; simp only at x0 x1 x2 x3 y0 y1 y2 y3
  go_upto_region 5 with fail
  change Code.wp _ _ _ _ (w4.alloc (oE (xe, xu, xv, xb))); generalize w4.alloc (oE (xe, xu, xv, xb)) = w5 at *; generalize w4.heap.size = b5 at *
  go_wp2_with fail
  (try simp only [Exit.inBlock, Exit.then])
  change bodyPost _ _ _ _ _ (Go.Proofs.YtagibmgbjhemkaaGreat.set4 w6 (b + 1) _ _ _ _); refine bodyPost_ret (resE rfl _ _ (b + 1) _ _ _ _ rfl (set4_at (unhide HJ) _ _ _ _)) rfl ?_; exact ⟨rfl, unhide HJ4 _ _ _ _⟩
theorem recEdgeNo (hF : StepFn fv N Q P) (e : Int) (he : okN e) {W : World} (h : MidR P w X A m c d A' W) (_ : c ≤ 100000) (hk : lk X.ps e = none) :
    Calls Tryz.prog 170 #[.agg #[.iface 24 (.pointer (some ⟨X.s, 0, none⟩)), .map (some m)], .int .i64 e] W fun r w' => r = .returned (.tuple #[.agg #[.int .i64 0, .int .i64 0, .int .i64 0, .int .u32 0], .int .i64 6]) ∧ Hid (MidR P w X A m (c + 1) d A' w') := by
  obtain ⟨f, k, h1, h2, h3⟩ := h.kn
  cases hf : f e with
  | none => exact recNo hF e he h h1 hf hk
  | some y => have := h3 e y he hf; rw [hk] at this; cases this
theorem recEdgeYes (hF : StepFn fv N Q P) (e : Int) (he : okN e) {W : World} (h : MidR P w X A m c d A' W) (hc : c ≤ 100000) (hx0 : 0 ≤ X.rd) (hx1 : X.rd ≤ 100000000) {x : EdgeV} (hk : lk X.ps e = some x) :
    Calls Tryz.prog 170 #[.agg #[.iface 24 (.pointer (some ⟨X.s, 0, none⟩)), .map (some m)], .int .i64 e] W fun r w' => r = .returned (.tuple #[.agg #[.int .i64 x.1, .int .i64 x.2.1, .int .i64 x.2.2.1, .int .u32 x.2.2.2], .int .i64 0]) ∧ Hid (MidR P w X A m (c + 1) d A' w') := by
  obtain ⟨f, k, h1, h2, h3⟩ := h.kn
  cases hf : f e with
  | none => exact recYes hF e he h hc hx0 hx1 h1 h2 h3 hf hk
  | some y =>
    have := h3 e y he hf; rw [hk] at this; obtain rfl := Option.some.inj this; exact recKnown hF e he h h1 hf
end
end Go.Proofs.YtagibmgbjhemkaaGreat
