/- A store behind Built and the reference's graph, beside lists of numbers: the walks' calls. -/
import Derived.Test.YtgocbcacfcfblaaGreatWkAlong
import Derived.Test.YtgocbcacfcfblaaGreatWCost
import Derived.Test.YtgocbcacfcfblaaGreatTail
import Derived.BigQuiet
import Derived.Test.YtgocbcacfcfblaaGreatStSet
import Derived.Test.YtgocbcacfcfblaaGreatRefFree
import Derived.Test.YtgocbcacfcfblaaGreatRel7
import Derived.Test.YtgocbcacfcfblaaGreatBuilt7
namespace Go.Proofs.YtgocbcacfcfblaaGreat

section
open Go.RowKit Go.Maps
/-- The cost of these records. -/
def costOf (d : List EdgeV) : Nat := M.foldN (d.map (fun x => x.2.2.2.toNat))
theorem costOf_le (d : List EdgeV) : costOf d ≤ 2139095040 := M.foldN_le _
theorem costOf_snoc (d : List EdgeV) (x : EdgeV) : costOf (d ++ [x]) = M.addC (costOf d) (M.counts x.2.2.2.toNat) := by
  unfold costOf; rw [List.map_append]; exact M.foldN_snoc _ _
def oI8 (n : Int) : Obj := .cells #[.int .i64 n] 3 (0, 0)
def oF8 (n : Nat) : Obj := .cells #[.float .f32 n] 70 (0, 0)
theorem cellI8 {w : World} {b : Nat} {n : Int} (h : w.heap[b]? = some (oI8 n)) : w.cell? ⟨b, 0, none⟩ = some (.int .i64 n) ∧ ∀ o, w.frozen? ⟨b, o, none⟩ = false := ⟨(cell_of_row _ _ 0 _ _ (0, 0) h).trans rfl, fun o => frozen_of_row _ _ o _ _ h⟩
theorem cellF8 {w : World} {b n : Nat} (h : w.heap[b]? = some (oF8 n)) : w.cell? ⟨b, 0, none⟩ = some (.float .f32 n) ∧ ∀ o, w.frozen? ⟨b, o, none⟩ = false := ⟨(cell_of_row _ _ 0 _ _ (0, 0) h).trans rfl, fun o => frozen_of_row _ _ o _ _ h⟩
/-- Follow's picture: the end and the cost, in boxes. -/
def FP (be bc : Nat) (a : Int) (d : List EdgeV) (A : Nat → Prop) (w : World) : Prop :=
  (∀ b, A b ↔ b = be ∨ b = bc) ∧ w.heap[be]? = some (oI8 (endOf a d)) ∧ w.heap[bc]? = some (oF8 (costOf d)) ∧ be ≠ bc
theorem heap_lt {w : World} {b : Nat} {o : Obj} (h : w.heap[b]? = some o) : b < w.heap.size := (Array.getElem?_eq_some_iff.1 h).1
theorem FP.step {be bc : Nat} {a : Int} {d : List EdgeV} {A : Nat → Prop} {w w1 : World} {x : EdgeV} (h : FP be bc a d A w) (hb : Below w.heap.size w w1) :
    FP be bc a (d ++ [x]) A ((w1.setCell ⟨be, 0, none⟩ (.int .i64 x.2.2.1)).setCell ⟨bc, 0, none⟩ (.float .f32 (M.addC (costOf d) (M.counts x.2.2.2.toNat)))) ∧ Turned A w ((w1.setCell ⟨be, 0, none⟩ (.int .i64 x.2.2.1)).setCell ⟨bc, 0, none⟩ (.float .f32 (M.addC (costOf d) (M.counts x.2.2.2.toNat)))) := by
  obtain ⟨h1, h2, h3, h4⟩ := h
  have k2 := (hb.block be (heap_lt h2)).trans h2
  have k3 := (hb.block bc (heap_lt h3)).trans h3
  refine ⟨⟨h1, ?_, ?_, h4⟩, ?_⟩
  · rw [heap_setCell_other _ _ _ _ (show be ≠ bc from h4), heap_setCell_same _ _ _ _ _ _ k2, endOf_snoc]; rfl
  · rw [heap_setCell_same _ _ _ _ _ _ ((heap_setCell_other _ _ _ _ (show bc ≠ be from h4.symm)).trans k3), costOf_snoc]; rfl
  · exact ((turned_of_below hb).trans (turned_setCell _ _ _ ((h1 _).2 (.inl rfl)))).trans (turned_setCell _ _ _ ((h1 _).2 (.inr rfl)))
/-- Weights as a store keeps them. -/
def Wt (x : EdgeV) : Prop := 0 ≤ x.2.2.2 ∧ x.2.2.2 < 2139095040

theorem run_storeF (w : World) (a : Addr) (n : Nat) (m : Mode) : (store a (.float .f32 n) m).run Tryz.prog w = stored Tryz.prog w a (.float .f32 n) m := run_store Tryz.prog w a (.float .f32 n) m rfl
set_option maxHeartbeats 2000000 in
set_option maxRecDepth 100000 in
theorem follow1 {be bc : Nat} {a : Int} {d : List EdgeV} {A : Nat → Prop} {w : World} (x : EdgeV) (e : Int) (h : FP be bc a d A w) (hx : Wt x) :
    Calls Tryz.prog 29 #[.int .i64 e, .agg #[.int .i64 x.1, .int .i64 x.2.1, .int .i64 x.2.2.1, .int .u32 x.2.2.2], .pointer (some ⟨bc, 0, none⟩), .pointer (some ⟨be, 0, none⟩)] w fun r w' => r = .returned (.tuple #[]) ∧ Hid (FP be bc a (d ++ [x]) A w' ∧ Turned A w w') := by
  have hb := below_new w (oE x)
  have HS := hide (h.step (x := x) hb)
  obtain ⟨x0, x1, x2, x3, -⟩ := box_cells (heap_alloc_new w (oE x))
  obtain ⟨-, h2, h3, h4⟩ := h
  obtain ⟨k2, f2⟩ := cellI8 ((hb.block be (heap_lt h2)).trans h2)
  obtain ⟨k3, f3⟩ := cellF8 ((hb.block bc (heap_lt h3)).trans h3)
  have CA : Hid (∀ W, Calls Tryz.prog 30 #[.float .f32 (costOf d), .float .f32 x.2.2.2.toNat] W fun e w' => e = .returned (.float .f32 (M.addC (costOf d) (M.counts x.2.2.2.toNat))) ∧ w' = W) := fun W => fold_step (costOf_le d) (by have := hx.1; have := hx.2; omega) W
  have hx' := run_frombits
  have hsf := run_storeF
  obtain ⟨k5, f5⟩ := cellF8 (w := (w.alloc (oE x)).setCell ⟨be, 0, none⟩ (.int .i64 x.2.2.1)) (b := bc) (n := costOf d) ((heap_setCell_other _ _ _ _ (show bc ≠ be from h4.symm)).trans ((hb.block bc (heap_lt h3)).trans h3))
  have hn1 : ¬ be = bc := h4
  have hn2 : ¬ bc = be := fun e => h4 e.symm
  clear hb h2 h3 hx h4
  generalize M.addC (costOf d) (M.counts x.2.2.2.toNat) = c' at *
  generalize costOf d = c at *
  generalize endOf a d = ae at *
  go_enter Tryz.func29, Tryz.ntmps29
  go_upto_region 1 with fail
  change Code.wp _ _ _ _ (w.alloc (oE x))
  generalize w.alloc (oE x) = w1 at *
  generalize w.heap.size = bx at *
  refine wp_region_noPanic ?_
  refine regionL [7, 8] (fun y => y.cell? ⟨bx, 2, none⟩ = some (.int .i64 x.2.2.1) ∧ y.cell? ⟨bc, 0, none⟩ = some (.float .f32 c) ∧ y.cell? ⟨bx, 3, none⟩ = some (.int .u32 x.2.2.2)) (by kernel_rfl) ⟨x2, k3, x3⟩ (fun hHeld => ?_)
  refine takeL (i := 0) (v := ?t2v0) (some 6) rfl rfl (by kernel_rfl) (by kernel_rfl) (by kernel_rfl) (by kernel_rfl) (by kernel_rfl) (fun _ _ _ h => h) (Or.inl ⟨by rfl, ?t2h0⟩) (by assumption) ?t2r0
  case t2h0 => (intro y hSu; (try dsimp only at hSu); go_simp; first | done | with_reducible rfl)
  (try simp only [Act.put, List.setIfInBounds_toArray, List.set_cons_zero, List.set_cons_succ])
  refine takeL (i := 1) (v := ?t2v1) (some 7) rfl rfl (by kernel_rfl) (by kernel_rfl) (by kernel_rfl) (by kernel_rfl) (by kernel_rfl) (fun _ _ _ h => h) (Or.inl ⟨by rfl, ?t2h1⟩) (by assumption) ?t2r1
  case t2h1 => (intro y hSu; (try dsimp only at hSu); go_simp; first | done | with_reducible rfl)
  (try simp only [Act.put, List.setIfInBounds_toArray, List.set_cons_zero, List.set_cons_succ])
  refine takeL (i := 2) (v := ?t2v2) (some 8) rfl rfl (by kernel_rfl) (by kernel_rfl) (by kernel_rfl) (by kernel_rfl) (by kernel_rfl) (fun _ _ _ h => h) (Or.inl ⟨by rfl, ?t2h2⟩) (by assumption) ?t2r2
  case t2h2 => (intro y hSu; (try dsimp only at hSu); go_simp; first | done | with_reducible rfl)
  (try simp only [Act.put, List.setIfInBounds_toArray, List.set_cons_zero, List.set_cons_succ])
  refine takeL (i := 3) (v := ?t2v3) (some 9) rfl rfl (by kernel_rfl) (by kernel_rfl) (by kernel_rfl) (by kernel_rfl) (by kernel_rfl) (fun _ _ _ h => h) (Or.inl ⟨by rfl, ?t2h3⟩) (by assumption) ?t2r3
  case t2h3 => (intro y hSu; (try dsimp only at hSu); go_simp; first | done | with_reducible rfl)
  (try simp only [Act.put, List.setIfInBounds_toArray, List.set_cons_zero, List.set_cons_succ])
  refine takeL (i := 4) (v := ?t2v4) (some 10) rfl rfl (by kernel_rfl) (by kernel_rfl) (by kernel_rfl) (by kernel_rfl) (by kernel_rfl) (fun _ _ _ h => h) (Or.inl ⟨by rfl, ?t2h4⟩) (by assumption) ?t2r4
  case t2h4 => (intro y hSu; (try dsimp only at hSu); go_simp; first | done | with_reducible rfl)
  (try simp only [Act.put, List.setIfInBounds_toArray, List.set_cons_zero, List.set_cons_succ])
  refine takeL (i := 5) (v := ?t2v5) (some 11) rfl rfl (by kernel_rfl) (by kernel_rfl) (by kernel_rfl) (by kernel_rfl) (by kernel_rfl) (fun _ _ _ h => h) (Or.inl ⟨by rfl, ?t2h5⟩) (by assumption) ?t2r5
  case t2h5 => (intro y hSu; (try dsimp only at hSu); go_simp; first | done | with_reducible rfl)
  (try simp only [Act.put, List.setIfInBounds_toArray, List.set_cons_zero, List.set_cons_succ])
  refine readyL (i := 6) (by kernel_rfl) rfl (fun K hK => ?_)
  go_simp
  refine (unhide CA _).mono ?_
  rintro e w' ⟨rfl, rfl⟩
  (try dsimp only)
  refine hK.out _ _ (fun _ => (And.intro x2 (And.intro k3 x3))) ?_
  clear hK K
  (try simp only [Act.put, List.setIfInBounds_toArray, List.set_cons_zero, List.set_cons_succ])
  have hH4 := (And.intro x2 (And.intro k3 x3))
  refine readyL (i := 7) (by kernel_rfl) rfl (fun K hK => ?_)
  go_simp
  refine hK.out _ _ (fun h => by cases h) ?_
  clear hK K
  (try simp only [Act.put, List.setIfInBounds_toArray, List.set_cons_zero, List.set_cons_succ])
  refine readyL (i := 8) (by kernel_rfl) rfl (fun K hK => ?_)
  go_simp
  refine hK.out _ _ (fun h => by cases h) ?_
  clear hK K
  (try simp only [Act.put, List.setIfInBounds_toArray, List.set_cons_zero, List.set_cons_succ])
  refine doneL (by kernel_rfl) ?_ _
  refine NoPanic.normal ?_
  go_wp2_with fail
  go_end0
  exact ⟨rfl, (unhide HS).1, (unhide HS).2.drewN 1⟩
theorem follow_fn (N be bc : Nat) (a : Int) : StepFn (.func (.func 29) #[] #[.pointer (some ⟨bc, 0, none⟩), .pointer (some ⟨be, 0, none⟩)]) N Wt (FP be bc a) := by
  refine ⟨⟨_, _, rfl, enters_of Tryz.func29 (by kernel_rfl) rfl, fun d x A w _ hx hP => ?_⟩, fun d A w w' hP hk hs => ?_, fun d A w b hP hb => ?_⟩
  · refine (follow1 x x.1 hP hx).mono ?_
    rintro r w' ⟨rfl, hh⟩
    exact ⟨rfl, A, (unhide hh).1, (unhide hh).2, fun b hb => .inl hb⟩
  · obtain ⟨h1, h2, h3, h4⟩ := hP
    exact ⟨h1, (hk be ((h1 be).2 (.inl rfl))).trans h2, (hk bc ((h1 bc).2 (.inr rfl))).trans h3, h4⟩
  · obtain ⟨h1, h2, h3, h4⟩ := hP
    rcases (h1 b).1 hb with rfl | rfl
    · exact heap_lt h2
    · exact heap_lt h3
/-- What Follow answers. -/
def fAns (a : Int) (t : List EdgeV × Option Int) : Value := if t.2 = none then .tuple #[.int .i64 (endOf a t.1), .int .u32 (costOf t.1), .int .i64 0, .int .i64 0] else .tuple #[.int .i64 0, .int .u32 0, .int .i64 t.1.length, .int .i64 (tCode t)]
/-- Of a step's own new blocks nothing is seen outside. -/
theorem Mid.out [Inhabited EntI] {P : List EdgeV → (Nat → Prop) → World → Prop} {w0 w w' : World} {X : Sto} {A A' : Nat → Prop} {n : Nat} {d : List EdgeV} (h : Mid P w X A n d A' w') (hb : Below w0.heap.size w0 w) (hA : ∀ b, A b → w0.heap.size ≤ b) : Step w0 X w' { X with rd := X.rd + (n : Int) } := by
  refine ⟨h.st, rfl, ?_, fun b hb => .inl hb⟩
  refine (turned_of_below hb).then_ h.turned (fun b hb' ho => ho.elim id (fun ha => ?_))
  have := hA b ha
  omega
/-- So many records were read. -/
def Rd [Inhabited EntI] (w : World) (X : Sto) (n : Nat) (w' : World) : Prop := Step w X w' { X with rd := X.rd + (n : Int) }
theorem Step.draw [Inhabited EntI] {w w' : World} {X X' : Sto} (h : Step w X w' X') (q : Nat) : Step w X (w'.drewN q) X' := h.trans (Step.below h.1 (below_drewN (Below.refl _ _) q))
theorem tCode_ne {ps : List (EdgeV × Bool)} {a : Int} : ∀ {es : List Int}, (trip ps a es).2 ≠ none → (trip ps a es).2 = some 6 ∨ (trip ps a es).2 = some 80 := by
  intro es
  induction es generalizing a with
  | nil => intro h; exact absurd rfl h
  | cons e es ih =>
    intro h
    rw [trip] at h ⊢
    cases hl : lk ps e with
    | none => exact .inl rfl
    | some x =>
      rw [hl] at h
      simp only at h ⊢
      by_cases hx : x.2.1 = a
      · rw [if_pos hx] at h ⊢; exact ih h
      · rw [if_neg hx]; exact .inr rfl

set_option maxHeartbeats 2000000 in
set_option maxRecDepth 100000 in
theorem followS [Inhabited EntI] {w : World} {X : Sto} (from_ : Int) {ev : Value} {es : List Int} (h : StAt w X) (hr : SRow w ev es) (hl : es.length ≤ 100000) (hx0 : 0 ≤ X.rd) (hx1 : X.rd ≤ 100000000)
    (hQ : ∀ (i : Nat) (x : EdgeV), X.ps[i]? = some (x, true) → Wt x) (hb : ∀ b, blkOf ev = some b → b < w.heap.size ∧ X.L b = none) :
    Calls Tryz.prog 12 #[.iface 24 (.pointer (some ⟨X.s, 0, none⟩)), .int .i64 from_, ev] w fun e w' => e = .returned (fAns from_ (trip X.ps from_ es)) ∧ Hid (Rd w X (tReads (trip X.ps from_ es)) w') := by
  have CF := hide (fold_zero none 0 w)
  have hb1 := below_new w (oI8 from_)
  have hb2 := below_new (w.alloc (oI8 from_)) (oF8 0)
  have hs1 : (w.alloc (oI8 from_)).heap.size = w.heap.size + 1 := by simp
  have hbb : Below w.heap.size w ((w.alloc (oI8 from_)).alloc (oF8 0)) := hb1.trans (hb2.mono (by omega))
  obtain ⟨ea, ec, rfl, hcell⟩ := hr
  have CA : Hid (∀ be bc : Nat, be = w.heap.size → bc = w.heap.size + 1 → Calls Tryz.prog 28 #[.iface 24 (.pointer (some ⟨X.s, 0, none⟩)), .int .i64 from_, .slice ea es.length ec, .func (.func 29) #[] #[.pointer (some ⟨bc, 0, none⟩), .pointer (some ⟨be, 0, none⟩)]] ((w.alloc (oI8 from_)).alloc (oF8 0)) fun e w' => e = .returned (.tuple #[.int .i64 (tPlace (trip X.ps from_ es)), .int .i64 (tCode (trip X.ps from_ es))]) ∧ (w'.cell? ⟨be, 0, none⟩ = some (.int .i64 (endOf from_ (trip X.ps from_ es).1)) ∧ w'.cell? ⟨bc, 0, none⟩ = some (.float .f32 (costOf (trip X.ps from_ es).1))) ∧ Hid (Rd w X (tReads (trip X.ps from_ es)) w')) := by
    rintro be bc rfl rfl
    have hs2 := h.mem.new (k := w.heap.size) (Nat.le_refl _)
    refine (alongS (follow_fn 100000 w.heap.size (w.heap.size + 1) from_) from_ (A := fun b => b = w.heap.size ∨ b = w.heap.size + 1) (h.below hbb) (SRow.below ⟨ea, ec, rfl, hcell⟩ hbb) hl (Nat.le_refl _) hx0 hx1 hQ ?_ ?_ (fun b hb' _ => ⟨(hb b hb').2, fun ho => by have := (hb b hb').1; omega⟩)).mono ?_
    · refine ⟨fun b => Iff.rfl, (heap_alloc_old _ _ (by omega)).trans (heap_alloc_new _ _), ?_, by omega⟩
      have := heap_alloc_new (w.alloc (oI8 from_)) (oF8 0)
      rw [hs1] at this; exact this
    · rintro b (rfl | rfl)
      · exact hs2
      · exact h.mem.new (by omega)
    · rintro e w' ⟨rfl, hh⟩
      obtain ⟨A', hM⟩ := unhide hh
      obtain ⟨-, p2, p3, -⟩ := hM.pic
      refine ⟨rfl, ⟨(cellI8 p2).1, (cellF8 p3).1⟩, hM.out hbb ?_⟩
      rintro b (rfl | rfl) <;> omega
  have HB := hide hbb
  generalize hsx : X.s = s at *
  obtain ⟨t, ht⟩ : ∃ t, t = trip X.ps from_ es := ⟨_, rfl⟩
  rw [← ht]
  rw [← ht] at CA
  have HT : Hid (t.2 ≠ none → tCode t ≠ 0) := fun hn => by
    rw [ht] at hn ⊢
    rcases tCode_ne hn with e | e <;> (unfold tCode; rw [e]; decide)
  have HLC := hide (costOf_le t.1)
  clear h hcell hl hx0 hx1 hQ hb hb1 hb2 hs1 hbb hsx ht
  generalize es.length = len at *
  have hsf := run_storeF
  by_cases hn : t.2 = none
  · have e1 : tCode t = 0 := by unfold tCode; rw [hn]; rfl
    have e2 : fAns from_ t = .tuple #[.int .i64 (endOf from_ t.1), .int .u32 (costOf t.1), .int .i64 0, .int .i64 0] := if_pos hn
    rw [e2]
    rw [e1] at CA
    have CB : Hid (∀ W, Calls Tryz.prog 32 #[.float .f32 (costOf t.1)] W fun e w' => e = .returned (.int .u32 (costOf t.1 : Int)) ∧ w' = W) := fun W => bits_nat (unhide HLC) W
    clear HT HLC e1 e2 hn
    generalize costOf t.1 = c at *
    generalize endOf from_ t.1 = ae at *
    generalize tPlace t = pl at *
    generalize tReads t = rdn at *
    go_enter Tryz.func12, Tryz.ntmps12
    go_wp2_with fail
    refine (unhide CF).mono ?_
    rintro e w ⟨rfl, rfl⟩
    clear CF
    go_upto_region 2 with fail
    change Code.wp _ _ _ _ ((w.alloc (oI8 from_)).alloc (oF8 0))
    have CA2 := hide (unhide CA _ _ rfl rfl)
    clear CA
    generalize (w.alloc (oI8 from_)).alloc (oF8 0) = w2 at *
    go_wp2_with fail
    refine (unhide CA2).mono ?_
    rintro e w3 ⟨rfl, ⟨k1, k2⟩, hR⟩
    clear CA2
    go_wp2_with fail
    go_quiet ((go_at_call 32; exact (unhide CB _).mono (fun _ _ h => ⟨h.1, _, h.2⟩)))
    go_wp2_with fail
    go_returns
    exact ⟨rfl, Step.draw (unhide hR) _⟩
  · have e1 := unhide HT hn
    have e2 : fAns from_ t = .tuple #[.int .i64 0, .int .u32 0, .int .i64 t.1.length, .int .i64 (tCode t)] := if_neg hn
    have e3 : tPlace t = t.1.length := if_neg hn
    rw [e2]
    rw [e3] at CA
    have e4 : (tCode t == 0) = false := by simp [e1]
    clear HT HLC e2 hn e3 e1
    generalize costOf t.1 = c at *
    generalize endOf from_ t.1 = ae at *
    generalize tCode t = tc at *
    generalize tReads t = rdn at *
    generalize t.1.length = tl at *
    go_enter Tryz.func12, Tryz.ntmps12
    go_wp2_with fail
    refine (unhide CF).mono ?_
    rintro e w ⟨rfl, rfl⟩
    clear CF
    go_upto_region 2 with fail
    change Code.wp _ _ _ _ ((w.alloc (oI8 from_)).alloc (oF8 0))
    have CA2 := hide (unhide CA _ _ rfl rfl)
    clear CA
    generalize (w.alloc (oI8 from_)).alloc (oF8 0) = w2 at *
    go_wp2_with fail
    refine (unhide CA2).mono ?_
    rintro e w3 ⟨rfl, ⟨k1, k2⟩, hR⟩
    clear CA2
    go_wp2_with fail
    go_returns
    exact ⟨rfl, hR⟩
end

section
open Go.RowKit Go.Maps
/-- The vertices at which these records come by. -/
def stopsOf (a : Int) (d : List EdgeV) : List Int := a :: d.map (fun x => x.2.2.1)
theorem stopsOf_snoc (a : Int) (d : List EdgeV) (x : EdgeV) : stopsOf a (d ++ [x]) = stopsOf a d ++ [x.2.2.1] := by simp [stopsOf]
theorem stopsOf_len (a : Int) (d : List EdgeV) : (stopsOf a d).length = d.length + 1 := by simp [stopsOf]
def oS8 (v : Value) : Obj := .cells #[v] 23 (0, 0)
theorem cellS8 {w : World} {b : Nat} {v : Value} (h : w.heap[b]? = some (oS8 v)) : w.cell? ⟨b, 0, none⟩ = some v ∧ ∀ o, w.frozen? ⟨b, o, none⟩ = false := ⟨(cell_of_row _ _ 0 _ _ (0, 0) h).trans rfl, fun o => frozen_of_row _ _ o _ _ h⟩
theorem own_eq {g n c b : Nat} (e : (Value.slice (some ⟨g, 0, none⟩) n c).ownBlock = some b) : g = b := by injection e
/-- One number more: what stays, and where it lies. -/
theorem run_app8 {B : Nat} {w : World} {v : Value} {ks : List Int} (x : Int) (h : BRow B w v ks) (hB : B ≤ w.heap.size) (hl : ks.length ≤ 2000000) :
    ∃ a' n' c' w', (∀ ty, (Builtin.append_ #[23, 23] ty #[v, .slice (some ⟨w.heap.size, 0, none⟩) 1 1]).run Tryz.prog (w.alloc (.cells #[.int .i64 x] 3)) = .ok (.slice a' n' c') w') ∧ BRow B w' (.slice a' n' c') (ks ++ [x]) ∧ Turned (fun b => v.ownBlock = some b) w w' ∧ ∀ b, (Value.slice a' n' c').ownBlock = some b → v.ownBlock = some b ∨ w.heap.size ≤ b := by
  have hb1 := below_new w (.cells #[.int .i64 x] 3)
  have h2 : NRow (w.alloc (.cells #[.int .i64 x] 3)) (.slice (some ⟨w.heap.size, 0, none⟩) 1 1) [x] := ⟨rfl, .inr ⟨w.heap.size, 1, #[.int .i64 x], rfl, Nat.zero_le _, heap_alloc_new _ _, Nat.le_refl _, by unfold maxLen; omega, rfl, rfl⟩⟩
  have h1 : BRow B (w.alloc (.cells #[.int .i64 x] 3)) v ks := brow_kept h (fun b e => hb1.block b (h.lt b e).2)
  obtain ⟨ii, hi1, hz, hs, hb⟩ := info_parts info3
  obtain ⟨v', w', hr, g1, g2, -, g5⟩ := run_append_own_at (P := Tryz.prog) (w.alloc (.cells #[.int .i64 x] 3)) B 23 0 3 ii _ 1 8 Tryz.underlying23 hi1 hz hs hb rfl (by omega) v ks.length (ks.map (Value.int .i64)) h1 ⟨w.heap.size, 0, none⟩ 1 1 ([x].map (Value.int .i64)) (by simp)
      (h2.cells (g := w.heap.size) rfl) (ints_one [x]) (by unfold maxLen; omega) (by omega) (Nat.le_trans hB hb1.size)
  have e1 : ks.map (Value.int .i64) ++ [x].map (Value.int .i64) = (ks ++ [x]).map (Value.int .i64) := by simp
  have e2 : ks.length + 1 = (ks ++ [x]).length := by simp
  rw [e1, e2] at g1
  have g1' : BRow B w' v' (ks ++ [x]) := g1
  obtain ⟨a', c', e, -⟩ := brow_shape g1'
  subst e
  refine ⟨a', _, c', w', fun ty => hr, g1', (turned_of_below hb1).trans ⟨g2.os, g2.tape, g2.output, g2.size, fun k hk hn => g2.block k hk (fun e => hn e.symm)⟩, fun b eb => ?_⟩
  rcases g5 with q | q
  · exact .inl (by rw [← q]; exact eb)
  · rw [q] at eb; injection eb with eb; exact .inr (by have := hb1.size; omega)
/-- Through's picture: the box bs of the list; all of it lies from B on. -/
def TP (B bs : Nat) (a : Int) (d : List EdgeV) (A : Nat → Prop) (w : World) : Prop :=
  ∃ (sa : Option Addr) (sn sc : Nat), (∀ b, A b ↔ b = bs ∨ (Value.slice sa sn sc).ownBlock = some b) ∧ w.heap[bs]? = some (oS8 (.slice sa sn sc)) ∧ BRow B w (.slice sa sn sc) (stopsOf a d) ∧ (Value.slice sa sn sc).ownBlock ≠ some bs ∧ B ≤ bs ∧ B ≤ w.heap.size
theorem TP.step {B bs : Nat} {a : Int} {d : List EdgeV} {A : Nat → Prop} {w w1 : World} {x : EdgeV} (h : TP B bs a d A w) (hb : Below w.heap.size w w1) (hd : d.length ≤ 1000000) :
    ∃ sa sn sc a' n' c' w2, w1.cell? ⟨bs, 0, none⟩ = some (.slice sa sn sc) ∧ (∀ ty, (Builtin.append_ #[23, 23] ty #[.slice sa sn sc, .slice (some ⟨w1.heap.size, 0, none⟩) 1 1]).run Tryz.prog (w1.alloc (.cells #[.int .i64 x.2.2.1] 3)) = .ok (.slice a' n' c') w2) ∧ (w2.cell? ⟨bs, 0, none⟩ = some (.slice sa sn sc) ∧ ∀ o, w2.frozen? ⟨bs, o, none⟩ = false) ∧
      ∃ A', TP B bs a (d ++ [x]) A' (w2.setCell ⟨bs, 0, none⟩ (.slice a' n' c')) ∧ Turned A w (w2.setCell ⟨bs, 0, none⟩ (.slice a' n' c')) ∧ ∀ b, A' b → A b ∨ w.heap.size ≤ b := by
  obtain ⟨sa, sn, sc, h1, h2, h3, h4, h5, h6⟩ := h
  have k2 := (hb.block bs (heap_lt h2)).trans h2
  have k3 : BRow B w1 (.slice sa sn sc) (stopsOf a d) := brow_kept h3 (fun b e => hb.block b (h3.lt b e).2)
  obtain ⟨a', n', c', w2, hr, g1, g2, g3⟩ := run_app8 x.2.2.1 k3 (Nat.le_trans h6 hb.size) (by rw [stopsOf_len]; omega)
  have k4 := (g2.block bs (heap_lt k2) h4).trans k2
  have hne : (Value.slice a' n' c').ownBlock ≠ some bs := fun e => by
    rcases g3 bs e with q | q
    · exact h4 q
    · have := heap_lt k2; omega
  refine ⟨sa, sn, sc, a', n', c', w2, (cellS8 k2).1, hr, cellS8 k4, fun b => b = bs ∨ (Value.slice a' n' c').ownBlock = some b, ⟨a', n', c', fun b => Iff.rfl, ?_, ?_, hne, h5, ?_⟩, ?_, fun b hb' => ?_⟩
  · rw [heap_setCell_same _ _ _ _ _ _ k4]; rfl
  · rw [stopsOf_snoc]
    exact brow_kept g1 (fun b e => heap_setCell_other _ _ _ _ (fun e2 => hne (by rw [← show b = bs from e2]; exact e)))
  · have es : (w2.setCell ⟨bs, 0, none⟩ (.slice a' n' c')).heap.size = w2.heap.size := by simp
    rw [es]
    exact Nat.le_trans h6 (Nat.le_trans hb.size g2.size)
  · exact ((turned_of_below hb).then_ g2 (fun b _ e => (h1 b).2 (.inr e))).trans (turned_setCell _ _ _ ((h1 bs).2 (.inl rfl)))
  · rcases hb' with e | e
    · exact .inl ((h1 b).2 (.inl e))
    · rcases g3 b e with q | q
      · exact .inl ((h1 b).2 (.inr q))
      · exact .inr (Nat.le_trans hb.size q)

set_option maxHeartbeats 2000000 in
set_option maxRecDepth 100000 in
theorem through1 {B bs : Nat} {a : Int} {d : List EdgeV} {A : Nat → Prop} {w : World} (x : EdgeV) (e : Int) (h : TP B bs a d A w) (hd : d.length ≤ 1000000) :
    Calls Tryz.prog 33 #[.int .i64 e, .agg #[.int .i64 x.1, .int .i64 x.2.1, .int .i64 x.2.2.1, .int .u32 x.2.2.2], .pointer (some ⟨bs, 0, none⟩)] w fun r w' => r = .returned (.tuple #[]) ∧ Hid (∃ A', TP B bs a (d ++ [x]) A' w' ∧ Turned A w w' ∧ ∀ b, A' b → A b ∨ w.heap.size ≤ b) := by
  obtain ⟨sa, sn, sc, a', n', c', w2, k1, hr, ⟨k2, k3⟩, hS⟩ := h.step (x := x) (below_new w (oE x)) hd
  have HR := hide hr
  have HS := hide hS
  obtain ⟨x0, x1, x2, x3, -⟩ := box_cells (heap_alloc_new w (oE x))
  clear hr hS h hd
  go_enter Tryz.func33, Tryz.ntmps33
  go_upto_region 1 with fail
  change Code.wp _ _ _ _ (w.alloc (oE x))
  generalize w.alloc (oE x) = w1 at *
  go_wp2_with (at_builtin; refine Lib.wpList_append_run _ rfl _ _ 23 23 rfl _ _ rfl rfl _ _ (unhide HR _) ?_)
  go_end0
  exact ⟨rfl, HS⟩
theorem through_fn (B bs : Nat) (a : Int) : StepFn (.func (.func 33) #[] #[.pointer (some ⟨bs, 0, none⟩)]) 100000 Wt (TP B bs a) := by
  refine ⟨⟨_, _, rfl, enters_of Tryz.func33 (by kernel_rfl) rfl, fun d x A w hd hx hP => through1 x x.1 hP (by omega)⟩, fun d A w w' hP hk hs => ?_, fun d A w b hP hb => ?_⟩
  · obtain ⟨sa, sn, sc, h1, h2, h3, h4, h5, h6⟩ := hP
    exact ⟨sa, sn, sc, h1, (hk bs ((h1 bs).2 (.inl rfl))).trans h2, brow_kept h3 (fun b e => hk b ((h1 b).2 (.inr e))), h4, h5, Nat.le_trans h6 hs⟩
  · obtain ⟨sa, sn, sc, h1, h2, h3, h4, h5, h6⟩ := hP
    rcases (h1 b).1 hb with rfl | e
    · exact heap_lt h2
    · exact (h3.lt b e).2
/-- What Through answers: the list lies in new memory. -/
def TAns [Inhabited EntI] (w : World) (X : Sto) (a : Int) (t : List EdgeV × Option Int) (e : Ending) (w' : World) : Prop :=
  ∃ (sa : Option Addr) (sn sc : Nat), e = .returned (.tuple #[.slice sa sn sc, .int .i64 (tPlace t), .int .i64 (tCode t)]) ∧ Rd w X (tReads t) w' ∧ BRow w.heap.size w' (.slice sa sn sc) (if t.2 = none then stopsOf a t.1 else [])

set_option maxHeartbeats 2000000 in
set_option maxRecDepth 100000 in
theorem throughS [Inhabited EntI] {w : World} {X : Sto} (from_ : Int) {ev : Value} {es : List Int} (h : StAt w X) (hr : SRow w ev es) (hl : es.length ≤ 100000) (hx0 : 0 ≤ X.rd) (hx1 : X.rd ≤ 100000000)
    (hQ : ∀ (i : Nat) (x : EdgeV), X.ps[i]? = some (x, true) → Wt x) (hb : ∀ b, blkOf ev = some b → b < w.heap.size ∧ X.L b = none) :
    Calls Tryz.prog 13 #[.iface 24 (.pointer (some ⟨X.s, 0, none⟩)), .int .i64 from_, ev] w fun e w' => Hid (TAns w X from_ (trip X.ps from_ es) e w') := by
  have hb1 := below_new w (.cells #[.int .i64 from_] 3)
  have hb2 := below_new (w.alloc (.cells #[.int .i64 from_] 3)) (oS8 (.slice (some ⟨w.heap.size, 0, none⟩) 1 1))
  have hs1 : (w.alloc (.cells #[.int .i64 from_] 3)).heap.size = w.heap.size + 1 := by simp
  have hbb : Below w.heap.size w ((w.alloc (.cells #[.int .i64 from_] 3)).alloc (oS8 (.slice (some ⟨w.heap.size, 0, none⟩) 1 1))) := hb1.trans (hb2.mono (by omega))
  obtain ⟨ea, ec, rfl, hcell⟩ := hr
  have CA : Hid (∀ bs : Nat, bs = w.heap.size + 1 → Calls Tryz.prog 28 #[.iface 24 (.pointer (some ⟨X.s, 0, none⟩)), .int .i64 from_, .slice ea es.length ec, .func (.func 33) #[] #[.pointer (some ⟨bs, 0, none⟩)]] ((w.alloc (.cells #[.int .i64 from_] 3)).alloc (oS8 (.slice (some ⟨w.heap.size, 0, none⟩) 1 1))) fun e w' => e = .returned (.tuple #[.int .i64 (tPlace (trip X.ps from_ es)), .int .i64 (tCode (trip X.ps from_ es))]) ∧ ∃ sa sn sc, w'.cell? ⟨bs, 0, none⟩ = some (.slice sa sn sc) ∧ Hid (Rd w X (tReads (trip X.ps from_ es)) w' ∧ BRow w.heap.size w' (.slice sa sn sc) (stopsOf from_ (trip X.ps from_ es).1))) := by
    rintro bs rfl
    have q1 : ((w.alloc (.cells #[.int .i64 from_] 3)).alloc (oS8 (.slice (some ⟨w.heap.size, 0, none⟩) 1 1))).heap[w.heap.size]? = some (.cells #[.int .i64 from_] 3) := (heap_alloc_old _ _ (by omega)).trans (heap_alloc_new _ _)
    refine (alongS (through_fn w.heap.size (w.heap.size + 1) from_) from_ (A := fun b => b = w.heap.size + 1 ∨ (Value.slice (some ⟨w.heap.size, 0, none⟩) 1 1).ownBlock = some b) (h.below hbb) (SRow.below ⟨ea, ec, rfl, hcell⟩ hbb) hl (Nat.le_refl _) hx0 hx1 hQ ?_ ?_ (fun b hb' _ => ⟨(hb b hb').2, fun ho => ?_⟩)).mono ?_
    · refine ⟨_, _, _, fun b => Iff.rfl, ?_, ⟨rfl, .inr ⟨w.heap.size, 1, #[.int .i64 from_], rfl, Nat.le_refl _, q1, Nat.le_refl _, by unfold maxLen; omega, rfl, rfl⟩⟩, ?_, by omega, by have := hb1.size; have := hb2.size; omega⟩
      · have := heap_alloc_new (w.alloc (.cells #[.int .i64 from_] 3)) (oS8 (.slice (some ⟨w.heap.size, 0, none⟩) 1 1))
        rw [hs1] at this; exact this
      · intro e; have := own_eq e; omega
    · rintro b (rfl | e)
      · exact h.mem.new (by omega)
      · have := own_eq e; exact h.mem.new (by omega)
    · have := (hb b hb').1
      rcases ho with e | e
      · omega
      · have := own_eq e; omega
    · rintro e w' ⟨rfl, hh⟩
      obtain ⟨A', hM⟩ := unhide hh
      obtain ⟨sa, sn, sc, p1, p2, p3, -⟩ := hM.pic
      refine ⟨rfl, sa, sn, sc, (cellS8 p2).1, hM.out hbb ?_, p3⟩
      rintro b (e | e)
      · omega
      · have := own_eq e; omega
  generalize hsx : X.s = s at *
  obtain ⟨t, ht⟩ : ∃ t, t = trip X.ps from_ es := ⟨_, rfl⟩
  rw [← ht]
  rw [← ht] at CA
  have HT : Hid (t.2 ≠ none → tCode t ≠ 0) := fun hn => by
    rw [ht] at hn ⊢
    rcases tCode_ne hn with e | e <;> (unfold tCode; rw [e]; decide)
  clear h hcell hl hx0 hx1 hQ hb hb1 hb2 hs1 hbb hsx ht
  generalize es.length = len at *
  by_cases hn : t.2 = none
  · have e1 : tCode t = 0 := by unfold tCode; rw [hn]; rfl
    have e3 : tPlace t = 0 := if_pos hn
    rw [e1] at CA
    have HE : Hid (tCode t = 0 ∧ tPlace t = 0 ∧ t.2 = none) := ⟨e1, e3, hn⟩
    clear HT e1 hn e3
    go_enter Tryz.func13, Tryz.ntmps13
    go_upto_region 2 with fail
    change Code.wp _ _ _ _ ((w.alloc (.cells #[.int .i64 from_] 3)).alloc (oS8 (.slice (some ⟨w.heap.size, 0, none⟩) 1 1)))
    have CA2 := hide (unhide CA _ rfl)
    clear CA
    generalize (w.alloc (.cells #[.int .i64 from_] 3)).alloc (oS8 (.slice (some ⟨w.heap.size, 0, none⟩) 1 1)) = w2 at *
    go_wp2_with fail
    refine (unhide CA2).mono ?_
    rintro e w3 ⟨rfl, sa, sn, sc, k1, hR⟩
    clear CA2
    go_wp2_with fail
    go_ret3
    obtain ⟨q1, q2, q3⟩ := unhide HE
    exact ⟨sa, sn, sc, by rw [q1, q2]; rfl, (unhide hR).1, by rw [if_pos q3]; exact (unhide hR).2⟩
  · have e1 := unhide HT hn
    have e4 : (tCode t == 0) = false := by simp [e1]
    have HN := hide hn
    clear HT hn e1
    go_enter Tryz.func13, Tryz.ntmps13
    go_upto_region 2 with fail
    change Code.wp _ _ _ _ ((w.alloc (.cells #[.int .i64 from_] 3)).alloc (oS8 (.slice (some ⟨w.heap.size, 0, none⟩) 1 1)))
    have CA2 := hide (unhide CA _ rfl)
    clear CA
    generalize (w.alloc (.cells #[.int .i64 from_] 3)).alloc (oS8 (.slice (some ⟨w.heap.size, 0, none⟩) 1 1)) = w2 at *
    go_wp2_with fail
    refine (unhide CA2).mono ?_
    rintro e w3 ⟨rfl, sa, sn, sc, k1, hR⟩
    clear CA2
    go_wp2_with fail
    go_ret3
    exact ⟨none, 0, 0, rfl, (unhide hR).1, by rw [if_neg (unhide HN)]; exact ⟨rfl, .inl ⟨rfl, rfl⟩⟩⟩
end

section
open Go.RowKit Go.Maps
theorem srow_one (w : World) (k : Int) : SRow (w.alloc (.cells #[.int .i64 k] 3)) (.slice (some ⟨w.heap.size, 0, none⟩) 1 1) [k] := by
  refine ⟨_, _, rfl, fun j k' hj => ⟨w.heap.size, 0, rfl, ?_⟩⟩
  obtain rfl : j = 0 := by have := (List.getElem?_eq_some_iff.1 hj).1; simp at this; omega
  obtain rfl : k = k' := by simpa using hj
  exact (cell_of_row _ _ 0 _ _ (0, 0) (heap_alloc_new w (.cells #[.int .i64 k] 3))).trans rfl
/-- So many records more were read. -/
def Gr.plus (g : Gr) (k : Int) : Gr := { g with rd := g.rd + k }
section
variable [Inhabited EntI] {B : Nat} {w0 w w' : World} {s : Nat} {g : Gr}

theorem LiveS.reads {X : Sto} {k : Nat} (h : LiveS B w0 s g w) (hs : X.s = s) (hg : Shows X g) (hl : ∀ b, X.L b ≠ none → B ≤ b) (hR : Rd w X k w') : LiveS B w0 s (g.plus k) w' :=
  h.later hs hl hR ⟨hg.V, hg.N, hg.ps, by show X.rd + (k : Int) = g.rd + (k : Int); rw [hg.rd], hg.wr, hg.n⟩
/-- Of a list of one number that was just made. -/
theorem followNewL (h : LiveS B w0 s g w) (from_ k : Int) (hr0 : 0 ≤ g.rd) (hr1 : g.rd ≤ 1000) (hQ : ∀ (i : Nat) (x : EdgeV), g.ps[i]? = some (x, true) → Wt x) :
    Calls Tryz.prog 12 #[.iface 24 (.pointer (some ⟨s, 0, none⟩)), .int .i64 from_, .slice (some ⟨w.heap.size, 0, none⟩) 1 1] (w.alloc (.cells #[.int .i64 k] 3)) fun e w' => e = .returned (fAns from_ (trip g.ps from_ [k])) ∧ Hid (LiveS B w0 s (g.plus (tReads (trip g.ps from_ [k]))) w') := by
  have h' := h.step (below_new w (.cells #[.int .i64 k] 3))
  obtain ⟨X, g1, rfl, h3, h4⟩ := h'.on
  obtain ⟨Y, y1, y2, y3, y4⟩ := h.on
  have g1' := y1.below (below_new w (.cells #[.int .i64 k] 3))
  rw [← y2, ← y3.ps]
  refine (followS (X := Y) from_ g1' (srow_one w k) (by simp) (by rw [y3.rd]; exact hr0) (by rw [y3.rd]; omega) (by rw [y3.ps]; exact hQ) (fun b hb => ?_)).mono ?_
  · have e : w.heap.size = b := by injection hb
    exact ⟨by rw [← e]; simp, y1.mem.new (by omega)⟩
  · rintro e w' ⟨rfl, hh⟩
    rw [y2]
    exact ⟨rfl, h'.reads y2 y3 y4 (unhide hh)⟩
theorem throughNewL (h : LiveS B w0 s g w) (from_ k : Int) (hr0 : 0 ≤ g.rd) (hr1 : g.rd ≤ 1000) (hQ : ∀ (i : Nat) (x : EdgeV), g.ps[i]? = some (x, true) → Wt x) (hn : (trip g.ps from_ [k]).2 = none) :
    Calls Tryz.prog 13 #[.iface 24 (.pointer (some ⟨s, 0, none⟩)), .int .i64 from_, .slice (some ⟨w.heap.size, 0, none⟩) 1 1] (w.alloc (.cells #[.int .i64 k] 3)) fun e w' => ∃ sa sn sc, e = .returned (.tuple #[.slice sa sn sc, .int .i64 0, .int .i64 0]) ∧ Hid (LiveS B w0 s (g.plus (tReads (trip g.ps from_ [k]))) w' ∧ NRow w' (.slice sa sn sc) (stopsOf from_ (trip g.ps from_ [k]).1)) := by
  have h' := h.step (below_new w (.cells #[.int .i64 k] 3))
  obtain ⟨Y, y1, y2, y3, y4⟩ := h.on
  have g1' := y1.below (below_new w (.cells #[.int .i64 k] 3))
  rw [← y2, ← y3.ps]
  rw [← y3.ps] at hn
  refine (throughS (X := Y) from_ g1' (srow_one w k) (by simp) (by rw [y3.rd]; exact hr0) (by rw [y3.rd]; omega) (by rw [y3.ps]; exact hQ) (fun b hb => ?_)).mono ?_
  · have e : w.heap.size = b := by injection hb
    exact ⟨by rw [← e]; simp, y1.mem.new (by omega)⟩
  · rintro e w' hh
    obtain ⟨sa, sn, sc, rfl, h5, h6⟩ := unhide hh
    rw [if_pos hn] at h6
    have e1 : tPlace (trip Y.ps from_ [k]) = 0 := if_pos hn
    have e2 : tCode (trip Y.ps from_ [k]) = 0 := by unfold tCode; rw [hn]; rfl
    rw [e1, e2, y2]
    exact ⟨sa, sn, sc, rfl, h'.reads y2 y3 y4 h5, brow_at0 h6⟩
end
/-- The example's edge. -/
def x18 : EdgeV := (1, 5, 9, 1065353216)
theorem cost_x18 : costOf [x18] = 1065353216 := by
  show M.addC 0 (M.counts 1065353216) = 1065353216
  rw [counts_cost (by omega), M.addC_comm (by omega) (by omega), M.addC_zero (by omega)]
theorem kept_one8 : kept 1065353216 = some 1065353216 := by unfold kept; rw [if_neg (by omega), if_neg (by omega)]

set_option maxHeartbeats 2000000 in
set_option maxRecDepth 100000 in
theorem awake8S [Inhabited EntI] (w : World) : Calls Tryz.prog 8 #[] w fun e w' => e = .returned (.bool true) ∧ Below w.heap.size w w' := by
  have CN := hide (newL w)
  go_enter Tryz.func8, Tryz.ntmps8
  go_wp2_with fail
  refine (unhide CN).mono ?_
  rintro e w1 ⟨s, rfl, h1⟩
  have C1 := hide (addVL 5 (unhide h1) (by omega) (by omega) rfl (by show 0 < 256; omega))
  clear CN h1
  go_wp2_with fail
  refine (unhide C1).mono ?_
  rintro e w2 ⟨rfl, h2⟩
  have C2 := hide (addVL 9 (unhide h2) (by omega) (by omega) rfl (by show 0 + 1 < 256; omega))
  clear C1 h2
  go_wp2_with fail
  refine (unhide C2).mono ?_
  rintro e w3 ⟨rfl, h3⟩
  have C4 : Hid (Calls Tryz.prog 25 #[.pointer (some ⟨s, 0, none⟩), .agg #[.int .i64 1, .int .i64 5, .int .i64 9, .int .u32 1065353216]] w3 fun r w' => r = .returned (.int .i64 0) ∧ Hid (LiveS w.heap.size w s ((⟨fun j => decide (j = 9) || (decide (j = 5) || false), 0 + 1 + 1, [], 0, 0, 0⟩ : Gr).ins 0 5 9 1065353216) w')) := putEL 0 5 9 1065353216 (unhide h3) (by omega) (fun a => by simp) rfl rfl (by omega) kept_one8 (by show 0 ≤ 900000000; omega) (by show (0 : Int) ≤ 0; omega) (by show (0 : Int) ≤ 1000000000; omega)
  clear C2 h3
  go_wp2_with fail
  refine (unhide C4).mono ?_
  rintro e w5 ⟨rfl, h5⟩
  obtain ⟨G, hG⟩ : ∃ G, G = ((⟨fun j => decide (j = 9) || (decide (j = 5) || false), 0 + 1 + 1, [], 0, 0, 0⟩ : Gr).ins 0 5 9 1065353216) := ⟨_, rfl⟩
  have hps : G.ps = [(x18, true)] := by rw [hG]; rfl
  have hrd : G.rd = 0 := by rw [hG]; rfl
  rw [← hG] at h5
  have hQ : ∀ (i : Nat) (x : EdgeV), G.ps[i]? = some (x, true) → Wt x := fun i x hx => by
    rw [hps] at hx
    have := (List.getElem?_eq_some_iff.1 hx).1
    obtain rfl : i = 0 := by simp at this; omega
    have e : x18 = x := by simpa using hx
    rw [← e]; exact ⟨by decide, by decide⟩
  have ht : trip G.ps 5 [1] = ([x18], none) := by rw [hps]; rfl
  have C6 := followNewL (unhide h5) 5 1 (by rw [hrd]; omega) (by rw [hrd]; omega) hQ
  rw [ht] at C6
  have e1 : fAns 5 ([x18], none) = .tuple #[.int .i64 9, .int .u32 1065353216, .int .i64 0, .int .i64 0] := by
    show Value.tuple #[.int .i64 9, .int .u32 (costOf [x18]), .int .i64 0, .int .i64 0] = _
    rw [cost_x18]; rfl
  rw [e1] at C6
  have HC6 := hide C6
  have HQ := hide hQ
  have HT : Hid (trip G.ps 5 [1] = ([x18], none) ∧ G.rd = 0) := ⟨ht, hrd⟩
  clear C4 h5 C6 hps hrd hG ht hQ e1
  go_wp2_with fail
  refine (unhide HC6).mono ?_
  rintro e w6 ⟨rfl, h6⟩
  clear HC6
  obtain ⟨G2, hG2⟩ : ∃ G2, G2 = G.plus (tReads ([x18], none)) := ⟨_, rfl⟩
  rw [← hG2] at h6
  have q1 : G2.ps = G.ps := by rw [hG2]; rfl
  have q2 : G2.rd = 1 := by
    rw [hG2]
    show G.rd + _ = 1
    rw [(unhide HT).2]; rfl
  have q3 : trip G2.ps 5 [1] = ([x18], none) := by rw [q1]; exact (unhide HT).1
  have C7 := throughNewL (unhide h6) 5 1 (by rw [q2]; omega) (by rw [q2]; omega) (by rw [q1]; exact unhide HQ) (by rw [q3])
  have e2 : stopsOf 5 (trip G2.ps 5 [1]).1 = [5, 9] := by rw [q3]; rfl
  simp only [e2] at C7
  clear hG2 q1 q2 q3
  have HC7 := hide C7
  clear C7 e2 h6
  go_wp2_with fail
  refine (unhide HC7).mono ?_
  rintro e w7 ⟨sa, sn, sc, rfl, h7⟩
  obtain ⟨h8, h9⟩ := unhide h7
  have hb8 := below_new w7 (.cells #[.int .i64 5, .int .i64 9] 3)
  have h10 : NRow (w7.alloc (.cells #[.int .i64 5, .int .i64 9] 3)) (.slice (some ⟨w7.heap.size, 0, none⟩) 2 2) [5, 9] := ⟨rfl, .inr ⟨w7.heap.size, 2, #[.int .i64 5, .int .i64 9], rfl, Nat.zero_le _, heap_alloc_new _ _, Nat.le_refl _, by unfold maxLen; omega, rfl, rfl⟩⟩
  have CS := hide (refSame (nrow_below h9 hb8) h10 (by simp))
  have HB := hide ((h8.step hb8).below)
  clear HC7 h7 h8 h9 hb8 h10 HQ HT
  go_wp2_with fail
  refine (unhide CS).mono ?_
  rintro e w8 ⟨rfl, hl⟩
  have HB2 := hide ((unhide HB).trans ((unhide hl).below _))
  clear CS hl HB
  go_wp2_with fail
  go_ret
  exact ⟨rfl, unhide HB2⟩
end

section
open Go.RowKit Go.Maps
theorem pick8 (pk : Int) (m : Nat) (h : 0 < m) (h2 : m ≤ 1024) : ∃ l : Nat, wrap64 ((IntKind.u64.wrap pk).tmod (m : Int)) = (l : Int) ∧ l < m := by
  have h0 : 0 ≤ IntKind.u64.wrap pk := by unfold IntKind.wrap; simp [IntKind.signed, IntKind.bits]; omega
  rw [Int.tmod_eq_emod_of_nonneg h0]
  have h3 : 0 ≤ IntKind.u64.wrap pk % (m : Int) := Int.emod_nonneg _ (by omega)
  have h4 : IntKind.u64.wrap pk % (m : Int) < (m : Int) := Int.emod_lt_of_pos _ (by omega)
  refine ⟨(IntKind.u64.wrap pk % (m : Int)).toNat, ?_, by omega⟩
  rw [Int.toNat_of_nonneg h3]
  unfold wrap64; omega
theorem Recs.idx {es : List EdgeV} (h : Recs es) {i j : Nat} {a b : EdgeV} (hi : es[i]? = some a) (hj : es[j]? = some b) (e : a.1 = b.1) : i = j := by
  obtain ⟨hi1, hi2⟩ := List.getElem?_eq_some_iff.1 hi
  obtain ⟨hj1, hj2⟩ := List.getElem?_eq_some_iff.1 hj
  rcases Nat.lt_trichotomy i j with h' | h' | h'
  · have := List.pairwise_iff_getElem.1 h i j hi1 hj1 h'; rw [hi2, hj2] at this; omega
  · exact h'
  · have := List.pairwise_iff_getElem.1 h j i hj1 hi1 h'; rw [hi2, hj2] at this; omega
theorem RelG.lk {g : Gr} {vs : List Int} {es : List EdgeV} (h : RelG g vs es) {x : EdgeV} (hx : x ∈ es) : Go.Proofs.YtgocbcacfcfblaaGreat.lk g.ps x.1 = some x := by
  obtain ⟨i, hi⟩ := (h.mem x).1 hx
  rw [(h.edge i x hi).1]
  exact lk_yes hi
/-- What Wander answers. -/
def WAns (ps : List (EdgeV × Bool)) (w : World) (from_ : Int) (v : Value) (w' : World) : Prop := ∃ l d, Way ps from_ l d ∧ l.length ≤ 60 ∧ BRow w.heap.size w' v l ∧ Below w.heap.size w w'
/-- Its loop. -/
def WL (ps : List (EdgeV × Bool)) (wb : World) (from_ at_ : Int) (v : Value) (i : Nat) (W : World) : Prop := ∃ l d, Way ps from_ l d ∧ at_ = endOf from_ d ∧ l.length ≤ i ∧ BRow wb.heap.size W v l ∧ Below wb.heap.size wb W

set_option maxHeartbeats 2000000 in
set_option maxRecDepth 100000 in
theorem wanderS {w : World} {vv ev : Value} {rd wr0 : Int} {es : List EdgeV} {ps : List (EdgeV × Bool)} (from_ : Int) {pv : Value} {pks : List Int} (h : GRow 0 w ev es) (hl : es.length ≤ 1024) (hre : Recs es) (hk : ∀ x ∈ es, lk ps x.1 = some x) (hp : SRow w pv pks) :
    Calls Tryz.prog 18 #[.agg #[vv, ev, .int .i64 rd, .int .i64 wr0], .int .i64 from_, pv] w fun e w' => ∃ a n c, e = .returned (.slice a n c) ∧ Hid (WAns ps w from_ (.slice a n c) w') := by
  have hb := below_new w (oG vv ev rd wr0)
  have hs0 : (w.alloc (oG vv ev rd wr0)).heap.size = w.heap.size + 1 := by simp
  have HW : Hid (∀ W, Below (w.alloc (oG vv ev rd wr0)).heap.size (w.alloc (oG vv ev rd wr0)) W → (W.cell? ⟨w.heap.size, 0, none⟩ = some vv ∧ W.cell? ⟨w.heap.size, 1, none⟩ = some ev ∧ W.cell? ⟨w.heap.size, 2, none⟩ = some (.int .i64 rd) ∧ W.cell? ⟨w.heap.size, 3, none⟩ = some (.int .i64 wr0)) ∧ GRow 0 W ev es ∧ SRow W pv pks) := fun W hW => by
    obtain ⟨c0, c1, c2, c3, -⟩ := cellsG ((hW.block w.heap.size (by omega)).trans (heap_alloc_new w (oG vv ev rd wr0)))
    exact ⟨⟨c0, c1, c2, c3⟩, grow_below (grow_below h hb) hW, (hp.below hb).below hW⟩
  have HB : Hid (Below w.heap.size w (w.alloc (oG vv ev rd wr0)) ∧ (w.alloc (oG vv ev rd wr0)).heap.size = w.heap.size + 1) := ⟨hb, hs0⟩
  obtain ⟨pa, pc, rfl, -⟩ := hp
  obtain ⟨plen, hplen⟩ : ∃ plen, plen = pks.length := ⟨_, rfl⟩
  have HPL := hide hplen
  rw [← hplen]
  obtain ⟨ea, en, ec, hev⟩ := grow_shape h
  have HEN : Hid (en = es.length) := by
    rcases h.2 with ⟨e, h0⟩ | ⟨g, cap, cur, e, -⟩
    · rw [hev] at e; cases e; exact h0.symm
    · rw [hev] at e; cases e; rfl
  subst hev
  have HL := hide hl
  have HK := hide hk
  have HRE := hide hre
  clear h hb hl hk hs0 hplen hre
  go_enter Tryz.func18, Tryz.ntmps18
  go_upto_region 1 with fail
  change Code.wp _ _ _ _ (w.alloc (oG vv (.slice ea en ec) rd wr0))
  obtain ⟨bb, hbb⟩ : ∃ bb, bb = w.heap.size := ⟨_, rfl⟩
  have HBB := hide hbb
  rw [← hbb]
  rw [← hbb] at HW
  clear hbb
  generalize w.alloc (oG vv (.slice ea en ec) rd wr0) = wb at *
  go_wp2_with fail
  go_loopw [7, 8, 9] (fun sa st si wr => ∃ (i : Nat) (at_ : Int) (a : Option Addr) (n c : Nat), si = .int .i64 i ∧ st = .int .i64 at_ ∧ sa = .slice a n c ∧ i ≤ 60 ∧ i ≤ plen ∧ Hid (WL ps wb from_ at_ (.slice a n c) i wr)) (fun _ _ si _ => 60 - (intOf si).toNat)
  case atStart => exact ⟨0, from_, none, 0, 0, rfl, rfl, rfl, Nat.zero_le _, Nat.zero_le _, [], [], rfl, rfl, Nat.zero_le _, ⟨rfl, .inl ⟨rfl, rfl⟩⟩, Below.refl _ _⟩
  case round =>
    obtain ⟨i, at_, a, n, c, rfl, rfl, rfl, hi1, hi2, hS⟩ := hrel
    have HEND : Hid (∀ W, WL ps wb from_ at_ (.slice a n c) i W → WAns ps w from_ (.slice a n c) W) := by
      rintro W ⟨l, d, h1, h2, h3, h4, h5⟩
      obtain ⟨q1, q2⟩ := unhide HB
      exact ⟨l, d, h1, by omega, ⟨h4.1, h4.2.imp id (fun ⟨g, cap, cur, e, hb', r⟩ => ⟨g, cap, cur, e, by omega, r⟩)⟩, q1.trans (h5.mono (by omega))⟩
    by_cases hgo : i < plen ∧ i < 60
    · obtain ⟨g1, g2⟩ := hgo
      have hz1 : (i : Int) < (plen : Int) := by omega
      have hz2 : (i : Int) < 60 := by omega
      obtain ⟨l, d, s1, s2, s3, s4, s5⟩ := unhide hS
      obtain ⟨⟨c0, c1, c2, c3⟩, hg, -⟩ := unhide HW wr s5
      have CO := hide (refOut (vv := vv) (rd := rd) (wr := wr0) at_ hg (by have := unhide HL; omega))
      have HST : Hid (WL ps wb from_ at_ (.slice a n c) i wr) := ⟨l, d, s1, s2, s3, s4, s5⟩
      clear hS s1 s2 s3 s4 s5 hg
      go_wp2_with fail
      refine (unhide CO).mono ?_
      rintro r w1 ⟨v1, rfl, h1⟩
      obtain ⟨n1, b1⟩ := unhide h1
      obtain ⟨oa, oc, hov, -⟩ := brow_shape n1
      subst hov
      obtain ⟨on, hon⟩ : ∃ on, on = (eOut es at_).length := ⟨_, rfl⟩
      have HON := hide hon
      rw [← hon]
      obtain ⟨l, d, s1, s2, s3, s4, s5⟩ := unhide HST
      have k4 : BRow wb.heap.size w1 (.slice a n c) l := brow_kept s4 (fun b e => b1.block b (s4.lt b e).2)
      have k5 : Below wb.heap.size wb w1 := s5.trans (b1.mono s5.size)
      have hS1 : WL ps wb from_ at_ (.slice a n c) i w1 := ⟨l, d, s1, s2, s3, k4, k5⟩
      by_cases h0 : on = 0
      · have hz : (on : Int) = 0 := by omega
        have HS1 := hide (unhide HEND w1 hS1)
        rw [h0]
        clear HST s1 s2 s3 s4 s5 n1 b1 h1 CO c0 c1 c2 c3 hS1 hon hz h0 k4 k5
        go_wp2_with fail
        go_ret
        exact ⟨a, n, c, rfl, HS1⟩
      · have hz : ((on : Int) == 0) = false := by simp; omega
        have hz3 : ¬ (on : Int) = 0 := by omega
        have hu : IntKind.u64.wrap (on : Int) = (on : Int) := by
          have h1 := len_eOut es at_
          have h2 := unhide HL
          rw [← hon] at h1
          unfold IntKind.wrap; simp [IntKind.signed, IntKind.bits]; omega
        obtain ⟨⟨e0, e1, e2, e3⟩, hg, hp⟩ := unhide HW w1 k5
        obtain ⟨pk, hpk⟩ : ∃ pk, pks[i]? = some pk := ⟨_, List.getElem?_eq_getElem (by have := unhide HPL; omega)⟩
        obtain ⟨pa', pc', hpe, hpc⟩ := hp
        injection hpe with hpe1 hpe2 hpe3
        subst hpe1
        obtain ⟨pg, po, rfl, hcp⟩ := hpc i pk hpk
        obtain ⟨k, hkz, hkl⟩ := pick8 pk on (by omega) (by have h1 := len_eOut es at_; have := unhide HL; omega)
        obtain ⟨ee, hee⟩ : ∃ ee, (eOut es at_)[k]? = some ee := ⟨_, List.getElem?_eq_getElem (by omega)⟩
        obtain ⟨og, rfl⟩ := brow_some n1 (by omega)
        have hce : w1.cell? ⟨og, k, none⟩ = some (.int .i64 ee) := brow_at n1 hee
        have hkz2 : (k : Int) < (on : Int) := by omega
        -- the record of the edge that is picked
        obtain ⟨x, hxm, hxu, hxe⟩ : ∃ x ∈ es, x.2.1 = at_ ∧ x.1 = ee := by
          have hm := List.mem_of_getElem? hee
          unfold eOut at hm
          obtain ⟨x, hx1, hx2⟩ := List.mem_map.1 hm
          obtain ⟨hx3, hx4⟩ := List.mem_filter.1 hx1
          exact ⟨x, hx3, of_decide_eq_true hx4, hx2⟩
        have hlk : lk ps ee = some x := by rw [← hxe]; exact unhide HK x hxm
        obtain ⟨a', n', c', w2, hr, r1, r2, -⟩ := run_app8 ee k4 k5.size (by omega)
        have r5 : Below wb.heap.size wb w2 := k5.trans (r2.below k5.size (fun b e => (k4.lt b e).1))
        have HR := hide hr
        obtain ⟨⟨f0, f1, f2, f3⟩, hg2, -⟩ := unhide HW w2 r5
        obtain ⟨j, hj⟩ := List.mem_iff_getElem?.1 hxm
        have hjl : j < en := by have := (List.getElem?_eq_some_iff.1 hj).1; have := unhide HEN; omega
        obtain ⟨eg, ec', heg, hec⟩ := grow_at hg2 (by have := unhide HEN; omega)
        injection heg with heg1 heg2 heg3
        subst heg1
        obtain ⟨-, -, q3, -⟩ := hec j x hj
        have CA : Hid (∀ W, Below w2.heap.size w2 W → Calls Tryz.prog 26 #[.agg #[vv, .slice (some ⟨eg, 0, none⟩) en ec, .int .i64 rd, .int .i64 wr0], .int .i64 ee] W fun e w' => e = .returned (.int .i64 (j : Int)) ∧ ((w'.cell? ⟨bb, 0, none⟩ = some vv ∧ w'.cell? ⟨bb, 1, none⟩ = some (.slice (some ⟨eg, 0, none⟩) en ec) ∧ w'.cell? ⟨bb, 2, none⟩ = some (.int .i64 rd) ∧ w'.cell? ⟨bb, 3, none⟩ = some (.int .i64 wr0)) ∧ w'.cell? ⟨eg, j * 4 + 2, none⟩ = some (.int .i64 x.2.2.1)) ∧ Hid (WL ps wb from_ x.2.2.1 (.slice a' n' c') (i + 1) w')) := fun W hbW => by
          have hgW := grow_below hg2 hbW
          refine (refAt (vv := vv) (rd := rd) (wr := wr0) ee hgW (by have := unhide HL; omega)).mono ?_
          rintro e w' ⟨r, rfl, hh⟩
          obtain ⟨hat, hb'⟩ := unhide hh
          have hb2 : Below w2.heap.size w2 w' := hbW.trans (hb'.mono hbW.size)
          have hb3 : Below wb.heap.size wb w' := r5.trans (hb2.mono r5.size)
          obtain ⟨cc, hg3, -⟩ := unhide HW w' hb3
          obtain ⟨eg2, ec2, he2, hec2⟩ := grow_at hg3 (by have := unhide HEN; omega)
          injection he2 with he21 he22 he23
          injection he21 with he21
          injection he21 with he21
          rcases hat with ⟨i', y, rfl, hy1, hy2, hy3⟩ | ⟨-, hno⟩
          · have e1 : some y = some x := by
              have := unhide HK y (List.mem_of_getElem? hy1)
              rw [hy2, hlk] at this
              exact this.symm
            injection e1 with e1
            subst e1
            obtain rfl : i' = j := (unhide HRE).idx hy1 hj rfl
            obtain ⟨-, -, q3', -⟩ := hec2 i' y hy1
            exact ⟨rfl, ⟨cc, by rw [he21]; exact q3'⟩, l ++ [ee], d ++ [y], s1.snoc hlk (hxu.trans s2), (endOf_snoc _ _ _).symm, by simp; omega, brow_kept r1 (fun b e => hb2.block b (r1.lt b e).2), hb3⟩
          · exact absurd hxe (hno j x hj)
        have hjz : (j : Int) < (en : Int) := by omega
        have hwi : wrap64 ((i : Int) + 1) = ((i + 1 : Nat) : Int) := by unfold wrap64; omega
        have HWI := hide hwi
        clear HST s1 s2 s3 s4 s5 n1 b1 h1 CO c0 c1 c2 c3 hS1 hon k4 k5 hr r1 r2 r5 hg hpc hpk hee hxm hlk hg2 hj hjl hec hxu hxe h0 hkl hwi
        clear heg2 heg3 hpe2 hpe3
        go_upto_region 10 with fail
        clear hce hcp hkz hkz2 hz hz3 hu
        go_upto_region 11 with (at_builtin; refine Lib.wpList_append_run _ rfl _ _ 23 23 rfl _ _ rfl rfl _ _ (unhide HR _) ?_)
        clear HR e0 e1 e2 e3
        refine wp_region_noPanic ?_
        refine regionL [] (fun y => y.cell? ⟨bb, 0, none⟩ = some vv ∧ y.cell? ⟨bb, 1, none⟩ = some (.slice (some ⟨eg, 0, none⟩) en ec) ∧ y.cell? ⟨bb, 2, none⟩ = some (.int .i64 rd) ∧ y.cell? ⟨bb, 3, none⟩ = some (.int .i64 wr0) ∧ y.cell? ⟨eg, j * 4 + 2, none⟩ = some (.int .i64 x.2.2.1)) (by kernel_rfl) ⟨f0, f1, f2, f3, q3⟩ (fun hHeld => ?_)
        refine takeL (i := 0) (v := ?t2v0) (some 47) rfl rfl (by kernel_rfl) (by kernel_rfl) (by kernel_rfl) (by kernel_rfl) (by kernel_rfl) (fun _ _ _ h => h) (Or.inl ⟨by rfl, ?t2h0⟩) (by assumption) ?t2r0
        case t2h0 => (intro y hSu; (try dsimp only at hSu); go_simp; first | done | with_reducible rfl)
        (try simp only [Act.put, List.setIfInBounds_toArray, List.set_cons_zero, List.set_cons_succ])
        refine takeL (i := 1) (v := ?t2v1) (some 48) rfl rfl (by kernel_rfl) (by kernel_rfl) (by kernel_rfl) (by kernel_rfl) (by kernel_rfl) (fun _ _ _ h => h) (Or.inl ⟨by rfl, ?t2h1⟩) (by assumption) ?t2r1
        case t2h1 => (intro y hSu; (try dsimp only at hSu); go_simp; first | done | with_reducible rfl)
        (try simp only [Act.put, List.setIfInBounds_toArray, List.set_cons_zero, List.set_cons_succ])
        refine takeL (i := 2) (v := ?t2v2) (some 49) rfl rfl (by kernel_rfl) (by kernel_rfl) (by kernel_rfl) (by kernel_rfl) (by kernel_rfl) (fun _ _ _ h => h) (Or.inl ⟨by rfl, ?t2h2⟩) (by assumption) ?t2r2
        case t2h2 => (intro y hSu; (try dsimp only at hSu); go_simp; first | done | with_reducible rfl)
        (try simp only [Act.put, List.setIfInBounds_toArray, List.set_cons_zero, List.set_cons_succ])
        refine takeL (i := 3) (v := ?t2v3) (some 50) rfl rfl (by kernel_rfl) (by kernel_rfl) (by kernel_rfl) (by kernel_rfl) (by kernel_rfl) (fun _ _ _ h => h) (Or.inl ⟨by rfl, ?t2h3⟩) (by assumption) ?t2r3
        case t2h3 => (intro y hSu; (try dsimp only at hSu); go_simp; first | done | with_reducible rfl)
        (try simp only [Act.put, List.setIfInBounds_toArray, List.set_cons_zero, List.set_cons_succ])
        refine readyL (i := 4) (by kernel_rfl) rfl (fun K hK => ?_)
        go_simp
        refine (unhide CA _ (by exact (Below.refl _ _).drew)).mono ?_
        rintro e w4 ⟨rfl, ⟨⟨d0, d1, d2, d3⟩, hcx⟩, hw4⟩
        (try dsimp only)
        refine hK.out _ _ (fun _ => (And.intro d0 (And.intro d1 (And.intro d2 (And.intro d3 hcx))))) ?_
        clear hK K
        (try simp only [Act.put, List.setIfInBounds_toArray, List.set_cons_zero, List.set_cons_succ])
        have hH4 := (And.intro d0 (And.intro d1 (And.intro d2 (And.intro d3 hcx))))
        refine takeL (i := 5) (v := ?t5v5) (some 52) rfl rfl (by kernel_rfl) (by kernel_rfl) (by kernel_rfl) (by kernel_rfl) (by kernel_rfl) (fun _ _ _ h => h) (Or.inl ⟨by rfl, ?t5h5⟩) (by assumption) ?t5r5
        case t5h5 => (intro y hSu; (try dsimp only at hSu); go_simp; first | done | with_reducible rfl)
        (try simp only [Act.put, List.setIfInBounds_toArray, List.set_cons_zero, List.set_cons_succ])
        refine takeL (i := 6) (v := ?t5v6) (some 53) rfl rfl (by kernel_rfl) (by kernel_rfl) (by kernel_rfl) (by kernel_rfl) (by kernel_rfl) (fun _ _ _ h => h) (Or.inl ⟨by rfl, ?t5h6⟩) (by assumption) ?t5r6
        case t5h6 => (intro y hSu; (try dsimp only at hSu); go_simp; first | done | with_reducible rfl)
        (try simp only [Act.put, List.setIfInBounds_toArray, List.set_cons_zero, List.set_cons_succ])
        refine takeL (i := 7) (v := ?t5v7) (some 54) rfl rfl (by kernel_rfl) (by kernel_rfl) (by kernel_rfl) (by kernel_rfl) (by kernel_rfl) (fun _ _ _ h => h) (Or.inl ⟨by rfl, ?t5h7⟩) (by assumption) ?t5r7
        case t5h7 => (intro y hSu; (try dsimp only at hSu); go_simp; first | done | with_reducible rfl)
        (try simp only [Act.put, List.setIfInBounds_toArray, List.set_cons_zero, List.set_cons_succ])
        refine takeL (i := 8) (v := ?t5v8) (some 8) rfl rfl (by kernel_rfl) (by kernel_rfl) (by kernel_rfl) (by kernel_rfl) (by kernel_rfl) (fun _ _ _ h => h) (Or.inl ⟨by rfl, ?t5h8⟩) (by assumption) ?t5r8
        case t5h8 => (intro y hSu; (try dsimp only at hSu); go_simp; first | done | with_reducible rfl)
        (try simp only [Act.put, List.setIfInBounds_toArray, List.set_cons_zero, List.set_cons_succ])
        refine doneL (by kernel_rfl) ?_ _
        refine NoPanic.normal ?_
        go_wp2_with fail
        (try rw [unhide HWI])
        exact ⟨⟨i + 1, x.2.2.1, a', n', c', rfl, rfl, rfl, by omega, by omega, hw4⟩, by simp [intOf]; omega⟩
    · have hgo2 : ¬ ((i : Int) < (plen : Int) ∧ (i : Int) < 60) := by omega
      have HS1 := hide (unhide HEND wr (unhide hS))
      by_cases hg1 : i < plen
      · have hz1 : (i : Int) < (plen : Int) := by omega
        have hz2 : ¬ (i : Int) < 60 := by omega
        clear hgo hgo2 hS
        go_wp2_with fail
        go_ret
        exact ⟨a, n, c, rfl, HS1⟩
      · have hz1 : ¬ (i : Int) < (plen : Int) := by omega
        clear hgo hgo2 hS
        go_wp2_with fail
        go_ret
        exact ⟨a, n, c, rfl, HS1⟩
end

section
open Go.RowKit Go.Maps
theorem Game.read [Inhabited EntI] {n k : Nat} {w w' : World} {X : Sto} {g : Gr} {vv ev : Value} {vs : List Int} {es : List EdgeV} (h : Game n X g vv ev vs es w) (hR : Rd w X k w') (hn : n + k ≤ 1000) : Game (n + k) { X with rd := X.rd + (k : Int) } (g.plus k) vv ev vs es w' := by
  obtain ⟨r1, -, r3⟩ := hR
  obtain ⟨b1, b2, b3, b4, b5, b6⟩ := h.bnd
  refine ⟨r1, ⟨h.sh.V, h.sh.N, h.sh.ps, by show X.rd + (k : Int) = g.rd + (k : Int); rw [h.sh.rd], h.sh.wr, h.sh.n⟩, ⟨h.rel.rv, h.rel.V, h.rel.N, h.rel.re, h.rel.mem, h.rel.edge⟩, ⟨?_, b2, ?_, ?_, ?_, b6⟩, hn, nrow_kept h.vrow (fun b e => (r3.old (h.vrow.lt b e).2 (h.vfr b e)).1), grow_kept h.erow (fun b e => (r3.old (h.erow.lt b e).2 (h.efr b e)).1), h.vfr, h.efr⟩
  · show g.nb + 65536 * es.length ≤ 131072 * (n + k); omega
  · show g.wr + es.length ≤ 2 * ((n + k : Nat) : Int); omega
  · show 0 ≤ g.rd + (k : Int); omega
  · show g.rd + (k : Int) ≤ ((n + k : Nat) : Int); omega
theorem Game.up8 [Inhabited EntI] {n m : Nat} {w : World} {X : Sto} {g : Gr} {vv ev : Value} {vs : List Int} {es : List EdgeV} (h : Game n X g vv ev vs es w) (hm : n ≤ m) (hf : m ≤ 1000) : Game m X g vv ev vs es w := ⟨h.st, h.sh, h.rel, h.bnd.up hm, hf, h.vrow, h.erow, h.vfr, h.efr⟩
theorem kept_lt {n : Int} (h0 : 0 ≤ n) (h : kept n = some n) : n < 2139095040 := by
  unfold kept at h
  by_cases h1 : n = 2147483648
  · rw [if_pos h1] at h; injection h with h; omega
  · rw [if_neg h1] at h
    by_cases h2 : 2139095040 ≤ n
    · rw [if_pos h2] at h; cases h
    · omega
theorem Game.wt [Inhabited EntI] {n : Nat} {w : World} {X : Sto} {g : Gr} {vv ev : Value} {vs : List Int} {es : List EdgeV} (h : Game n X g vv ev vs es w) (i : Nat) (x : EdgeV) (hx : X.ps[i]? = some (x, true)) : Wt x := by
  rw [h.sh.ps] at hx
  obtain ⟨h1, h2⟩ := h.bnd.wt x ((h.rel.mem x).2 ⟨i, hx⟩)
  exact ⟨h1, kept_lt h1 h2⟩
/-- The store s and the graph behind n calls, lists beside them. -/
def KW [Inhabited EntI] (w : World) (s : Nat) (ps : List (EdgeV × Bool)) (vv ev : Value) (rd wr : Int) (n : Nat) (vs : List Int) (es : List EdgeV) (rows : List (Value × List Int)) (W : World) : Prop :=
  ∃ X g, Game n X g vv ev vs es W ∧ X.s = s ∧ (∀ b, X.L b ≠ none → w.heap.size ≤ b) ∧ Below w.heap.size w W ∧ g.ps = ps ∧ g.rd = rd ∧ g.wr = wr ∧ ∀ r ∈ rows, NRow W r.1 r.2 ∧ ∀ b, r.1.ownBlock = some b → X.L b = none
/-- A part of a list beside it. -/
def Part8 (rows : List (Value × List Int)) (v : Value) : Prop := ∀ b, blkOf v = some b → ∃ r ∈ rows, r.1.ownBlock = some b
theorem part_row {rows : List (Value × List Int)} {B : Nat} {W : World} {v : Value} {ks : List Int} (h : BRow B W v ks) (hr : (v, ks) ∈ rows) : Part8 rows v := fun _ hb => ⟨_, hr, blk_own h hb⟩
section
variable [Inhabited EntI] {w W W' : World} {s n : Nat} {ps : List (EdgeV × Bool)} {vv ev : Value} {rd wr : Int} {vs : List Int} {es : List EdgeV} {rows : List (Value × List Int)}

theorem KW.below (h : KW w s ps vv ev rd wr n vs es rows W) (hb : Below W.heap.size W W') : KW w s ps vv ev rd wr n vs es rows W' := by
  obtain ⟨X, g, h1, h2, h3, h4, h5, h6, h7, h8⟩ := h
  exact ⟨X, g, h1.below hb, h2, h3, h4.trans (hb.mono h4.size), h5, h6, h7, fun r hr => ⟨nrow_below (h8 r hr).1 hb, (h8 r hr).2⟩⟩
theorem KW.more (h : KW w s ps vv ev rd wr n vs es rows W) {v : Value} {ks : List Int} (hb : Below W.heap.size W W') (hr : BRow W.heap.size W' v ks) : KW w s ps vv ev rd wr n vs es ((v, ks) :: rows) W' := by
  obtain ⟨X, g, h1, h2, h3, h4, h5, h6, h7, h8⟩ := h
  refine ⟨X, g, h1.below hb, h2, h3, h4.trans (hb.mono h4.size), h5, h6, h7, fun r hr' => ?_⟩
  rcases List.mem_cons.1 hr' with e | e
  · subst e; exact ⟨brow_at0 hr, fun b hb' => h1.st.mem.new (hr.lt b hb').1⟩
  · exact ⟨nrow_below (h8 r e).1 hb, (h8 r e).2⟩
theorem KW.less (h : KW w s ps vv ev rd wr n vs es rows W) {rows' : List (Value × List Int)} (hs : ∀ r ∈ rows', r ∈ rows) : KW w s ps vv ev rd wr n vs es rows' W := by
  obtain ⟨X, g, h1, h2, h3, h4, h5, h6, h7, h8⟩ := h
  exact ⟨X, g, h1, h2, h3, h4, h5, h6, h7, fun r hr => h8 r (hs r hr)⟩
theorem KW.row (h : KW w s ps vv ev rd wr n vs es rows W) {v : Value} {ks : List Int} (hr : (v, ks) ∈ rows) : NRow W v ks := by
  obtain ⟨X, g, h1, h2, h3, h4, h5, h6, h7, h8⟩ := h
  exact (h8 _ hr).1
theorem KW.out (h : KW w s ps vv ev rd wr n vs es rows W) : Below w.heap.size w W := by
  obtain ⟨X, g, h1, h2, h3, h4, -⟩ := h
  exact h4
theorem KW.graph (h : KW w s ps vv ev rd wr n vs es rows W) : GRow 0 W ev es ∧ es.length ≤ 1024 ∧ Recs es ∧ (∀ x ∈ es, lk ps x.1 = some x) ∧ NRow W vv vs ∧ (∀ (i : Nat) (x : EdgeV), ps[i]? = some (x, true) → x ∈ es ∧ Wt x) := by
  obtain ⟨X, g, h1, h2, h3, h4, h5, h6, h7, h8⟩ := h
  refine ⟨h1.erow, h1.elen, h1.rel.re, fun x hx => by rw [← h5]; exact h1.rel.lk hx, h1.vrow, fun i x hx => ?_⟩
  have h9 : X.ps[i]? = some (x, true) := by rw [h1.sh.ps, h5]; exact hx
  rw [← h5] at hx
  exact ⟨(h1.rel.mem x).2 ⟨i, hx⟩, h1.wt i x h9⟩
theorem kwFollow (h : KW w s ps vv ev rd wr n vs es rows W) (from_ : Int) {v : Value} {ks : List Int} (hv : SRow W v ks) (hvb : Part8 rows v) (hl : ks.length ≤ 60) (hn : n + 61 ≤ 1000) :
    Calls Tryz.prog 12 #[.iface 24 (.pointer (some ⟨s, 0, none⟩)), .int .i64 from_, v] W fun e w' => e = .returned (fAns from_ (trip ps from_ ks)) ∧ Hid (KW w s ps vv ev (rd + (tReads (trip ps from_ ks) : Int)) wr (n + 61) vs es rows w') := by
  obtain ⟨X, g, h1, rfl, h3, h4, h5, h6, h7, h8⟩ := h
  have hps : X.ps = ps := h1.sh.ps.trans h5
  have hb0 := h1.bnd.rd0
  have hb1 := h1.bnd.rd1
  have hf := h1.few
  have := followS (X := X) from_ h1.st hv (by omega) (by rw [h1.sh.rd]; exact hb0) (by rw [h1.sh.rd]; omega) h1.wt (fun b hb => by
    obtain ⟨r, hr, e⟩ := hvb b hb
    exact ⟨((h8 r hr).1.lt b e).2, (h8 r hr).2 b e⟩)
  rw [hps] at this
  refine this.mono ?_
  rintro e w' ⟨rfl, hh⟩
  have hR := unhide hh
  have hk := tReads_le ps ks from_
  refine ⟨rfl, _, _, (h1.read hR (by omega)).up8 (by omega) hn, rfl, h3, h4.trans (hR.2.2.1.below h4.size (fun b hb => h3 b hb)), h5, ?_, h7, fun r hr => ⟨nrow_kept (h8 r hr).1 (fun b e => (hR.2.2.old ((h8 r hr).1.lt b e).2 ((h8 r hr).2 b e)).1), (h8 r hr).2⟩⟩
  show g.rd + _ = rd + _
  rw [h6]
theorem kwThrough (h : KW w s ps vv ev rd wr n vs es rows W) (from_ : Int) {v : Value} {ks : List Int} (hv : SRow W v ks) (hvb : Part8 rows v) (hl : ks.length ≤ 60) (hn : n + 61 ≤ 1000) :
    Calls Tryz.prog 13 #[.iface 24 (.pointer (some ⟨s, 0, none⟩)), .int .i64 from_, v] W fun e w' => ∃ sa sn sc, e = .returned (.tuple #[.slice sa sn sc, .int .i64 (tPlace (trip ps from_ ks)), .int .i64 (tCode (trip ps from_ ks))]) ∧ Hid (KW w s ps vv ev (rd + (tReads (trip ps from_ ks) : Int)) wr (n + 61) vs es ((.slice sa sn sc, if (trip ps from_ ks).2 = none then stopsOf from_ (trip ps from_ ks).1 else []) :: rows) w' ∧ BRow W.heap.size w' (.slice sa sn sc) (if (trip ps from_ ks).2 = none then stopsOf from_ (trip ps from_ ks).1 else [])) := by
  obtain ⟨X, g, h1, rfl, h3, h4, h5, h6, h7, h8⟩ := h
  have hps : X.ps = ps := h1.sh.ps.trans h5
  have hb0 := h1.bnd.rd0
  have hb1 := h1.bnd.rd1
  have hf := h1.few
  have := throughS (X := X) from_ h1.st hv (by omega) (by rw [h1.sh.rd]; exact hb0) (by rw [h1.sh.rd]; omega) h1.wt (fun b hb => by
    obtain ⟨r, hr, e⟩ := hvb b hb
    exact ⟨((h8 r hr).1.lt b e).2, (h8 r hr).2 b e⟩)
  rw [hps] at this
  refine this.mono ?_
  rintro e w' hh
  obtain ⟨sa, sn, sc, rfl, hR, hB⟩ := unhide hh
  have hk := tReads_le ps ks from_
  refine ⟨sa, sn, sc, rfl, ⟨_, _, (h1.read hR (by omega)).up8 (by omega) hn, rfl, h3, h4.trans (hR.2.2.1.below h4.size (fun b hb => h3 b hb)), h5, ?_, h7, fun r hr => ?_⟩, hB⟩
  · show g.rd + _ = rd + _
    rw [h6]
  · rcases List.mem_cons.1 hr with e | e
    · subst e; exact ⟨brow_at0 hB, fun b hb' => h1.st.mem.new (hB.lt b hb').1⟩
    · exact ⟨nrow_kept (h8 r e).1 (fun b e' => (hR.2.2.old ((h8 r e).1.lt b e').2 ((h8 r e).2 b e')).1), (h8 r e).2⟩
theorem kwReads (h : KW w s ps vv ev rd wr n vs es rows W) : Calls Tryz.prog 11 #[.pointer (some ⟨s, 0, none⟩)] W fun e w' => e = .returned (.int .i64 rd) ∧ w' = W := by
  obtain ⟨X, g, h1, rfl, h3, h4, h5, h6, h7, h8⟩ := h
  rw [← h6, ← h1.sh.rd]
  exact readsS h1.st
theorem KW.up {m : Nat} (h : KW w s ps vv ev rd wr n vs es rows W) (hm : n ≤ m) (hf : m ≤ 1000) : KW w s ps vv ev rd wr m vs es rows W := by
  obtain ⟨X, g, h1, h2, h3, h4, h5⟩ := h
  exact ⟨X, g, h1.up8 hm hf, h2, h3, h4, h5⟩
/-- Behind Built. -/
theorem kw_of {m : Nat} {X : Sto} {g : Gr} (hG : Game m X g vv ev vs es W) (hL : ∀ b, X.L b ≠ none → w.heap.size ≤ b) (hB : Below w.heap.size w W) : KW w X.s g.ps vv ev g.rd g.wr m vs es [] W :=
  ⟨X, g, hG, rfl, hL, hB, rfl, rfl, rfl, fun r hr => by cases hr⟩
theorem kw_built {W0 : World} {s' : Nat} {rd' wr' : Int} {m : Nat} {X : Sto} {g : Gr} (hG : Game m X g vv ev vs es W) (hn : m ≤ 120) (hs : X.s = s') (hrd : g.rd = rd') (hwr : g.wr = wr') (h0 : Below w.heap.size w W0) (hL : ∀ b, X.L b ≠ none → W0.heap.size ≤ b) (hB : Below W0.heap.size W0 W) : KW w s' g.ps vv ev rd' wr' 120 vs es [] W := by
  have := (kw_of (w := w) hG (fun b hb => Nat.le_trans h0.size (hL b hb)) (h0.trans (hB.mono h0.size))).up hn (by omega)
  rw [hs, hrd, hwr] at this
  exact this
/-- Wander, beside it. -/
theorem kwWander (h : KW w s ps vv ev rd wr n vs es rows W) (from_ : Int) {pv : Value} {pks : List Int} (hp : SRow w pv pks) :
    Calls Tryz.prog 18 #[.agg #[vv, ev, .int .i64 rd, .int .i64 wr], .int .i64 from_, pv] W fun e w' => ∃ a n' c, e = .returned (.slice a n' c) ∧ Hid (∃ l d, Way ps from_ l d ∧ l.length ≤ 60 ∧ n' = l.length ∧ KW w s ps vv ev rd wr n vs es ((.slice a n' c, l) :: rows) w') := by
  obtain ⟨g1, g2, g3, g4, -⟩ := h.graph
  refine (wanderS (vv := vv) (rd := rd) (wr0 := wr) from_ g1 g2 g3 g4 (hp.below h.out)).mono ?_
  rintro e w' ⟨a, n', c, rfl, hh⟩
  obtain ⟨l, d, h1, h2, h3, h4⟩ := unhide hh
  obtain ⟨a', c', e, -⟩ := brow_shape h3
  injection e with e1 e2 e3
  exact ⟨a, n', c, rfl, l, d, h1, h2, e2, h.more h4 h3⟩
end
end

end Go.Proofs.YtgocbcacfcfblaaGreat
