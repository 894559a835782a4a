/- walk.Follow over a checker's records. -/
import Derived.Test.YtagibmgbjhemkaaGreatWRound
import Derived.RowKit3
import Derived.Test.YtagibmgbjhemkaaGreatMapG17
import Derived.Test.YtagibmgbjhemkaaGreatTail
import Derived.BigQuiet
import Derived.Test.YtagibmgbjhemkaaGreatWRefAdd
namespace Go.Proofs.YtagibmgbjhemkaaGreat

section
open Go.RowKit
theorem bits_cost {r : Nat} (h : r ≤ 2139095040) : bitsB r = (r : Int) := by
  rw [bitsB_eq (by omega)]
  have : M.nan r = false := decide_eq_false (by omega)
  rw [this]; rfl
theorem counts_cost {r : Nat} (h : r ≤ 2139095040) : M.counts r = r := by
  unfold M.counts; rw [if_neg (by omega), if_neg (by omega)]

theorem bits_nat {b : Nat} (h : b ≤ 2139095040) (w : World) :
    Calls Tryz.prog 44 #[.float .f32 b] w fun e w' => e = .returned (.int .u32 (b : Int)) ∧ w' = w := by
  have := bits_any b w
  rwa [bits_cost h] at this
namespace M
/-- Added from the left. -/
def foldN (bs : List Nat) : Nat := bs.foldl (fun c x => addC c (counts x)) 0
theorem foldN_snoc (bs : List Nat) (x : Nat) : foldN (bs ++ [x]) = addC (foldN bs) (counts x) := by simp [foldN]
theorem foldl_le (bs : List Nat) : ∀ c, c ≤ 2139095040 → bs.foldl (fun c x => addC c (counts x)) c ≤ 2139095040 := by
  induction bs with
  | nil => intro c h; exact h
  | cons x bs ih => intro c h; exact ih _ (addC_le h (counts_le x))
theorem foldN_le (bs : List Nat) : foldN bs ≤ 2139095040 := foldl_le bs 0 (by omega)
end M

theorem fold_step {c x : Nat} (hc : c ≤ 2139095040) (hx : x < 4294967296) (w : World) :
    Calls Tryz.prog 42 #[.float .f32 c, .float .f32 x] w fun e w' => e = .returned (.float .f32 (M.addC c (M.counts x))) ∧ w' = w := by
  have := add_nat c x (by omega) hx w
  rwa [counts_cost hc] at this

theorem fold_zero (a : Option Addr) (cap : Nat) (w : World) :
    Calls Tryz.prog 39 #[.slice a 0 cap] w fun e w' => e = .returned (.float .f32 0) ∧ w' = w := by
  go_enter Tryz.func39, Tryz.ntmps39
  go_wp2
  refine wp_loop_rounds 1 ?_
  rw [rounds_succ]
  go_wp2
  go_ret
  exact ⟨rfl, rfl⟩

theorem refFold_step {c : Nat} (x : Nat) (hc : c ≤ 2139095040) (w : World) :
    Calls Tryz.prog 50 #[.int .u32 (c : Int), .int .u32 (x : Int)] w fun e w' => e = .returned (.int .u32 (M.addC c (M.counts x) : Int)) ∧ ∃ nq, w' = w.drewN nq := by
  have := refAdd_nat c x w
  rwa [M.refAdd_eq (M.counts_le c) (M.counts_le x), counts_cost hc] at this
end

section
open Go.RowKit Go.Maps
/-- The cost of these records. -/
def costOf (d : List EdgeV) : Nat := M.foldN (d.map (fun x => x.2.2.2.toNat))
theorem costOf_le (d : List EdgeV) : costOf d ≤ 2139095040 := M.foldN_le _
theorem costOf_snoc (d : List EdgeV) (x : EdgeV) : costOf (d ++ [x]) = M.addC (costOf d) (M.counts x.2.2.2.toNat) := by
  unfold costOf; rw [List.map_append]; exact M.foldN_snoc _ _
def oI8 (n : Int) : Obj := .cells #[.int .i64 n] 3 (0, 0)
def oF8 (n : Nat) : Obj := .cells #[.float .f32 n] 95 (0, 0)
theorem cellI8 {w : World} {b : Nat} {n : Int} (h : w.heap[b]? = some (oI8 n)) : w.cell? ⟨b, 0, none⟩ = some (.int .i64 n) ∧ ∀ o, w.frozen? ⟨b, o, none⟩ = false := ⟨(cell_of_row _ _ 0 _ _ (0, 0) h).trans rfl, fun o => frozen_of_row _ _ o _ _ h⟩
theorem cellF8 {w : World} {b n : Nat} (h : w.heap[b]? = some (oF8 n)) : w.cell? ⟨b, 0, none⟩ = some (.float .f32 n) ∧ ∀ o, w.frozen? ⟨b, o, none⟩ = false := ⟨(cell_of_row _ _ 0 _ _ (0, 0) h).trans rfl, fun o => frozen_of_row _ _ o _ _ h⟩
/-- Follow's picture: the end and the cost, in boxes. -/
def FP (be bc : Nat) (a : Int) (d : List EdgeV) (A : Nat → Prop) (w : World) : Prop :=
  (∀ b, A b ↔ b = be ∨ b = bc) ∧ w.heap[be]? = some (oI8 (endOf a d)) ∧ w.heap[bc]? = some (oF8 (costOf d)) ∧ be ≠ bc
theorem heap_lt {w : World} {b : Nat} {o : Obj} (h : w.heap[b]? = some o) : b < w.heap.size := (Array.getElem?_eq_some_iff.1 h).1
theorem FP.step {be bc : Nat} {a : Int} {d : List EdgeV} {A : Nat → Prop} {w w1 : World} {x : EdgeV} (h : FP be bc a d A w) (hb : Below w.heap.size w w1) :
    FP be bc a (d ++ [x]) A ((w1.setCell ⟨be, 0, none⟩ (.int .i64 x.2.2.1)).setCell ⟨bc, 0, none⟩ (.float .f32 (M.addC (costOf d) (M.counts x.2.2.2.toNat)))) ∧ Turned A w ((w1.setCell ⟨be, 0, none⟩ (.int .i64 x.2.2.1)).setCell ⟨bc, 0, none⟩ (.float .f32 (M.addC (costOf d) (M.counts x.2.2.2.toNat)))) := by
  obtain ⟨h1, h2, h3, h4⟩ := h
  have k2 := (hb.block be (heap_lt h2)).trans h2
  have k3 := (hb.block bc (heap_lt h3)).trans h3
  refine ⟨⟨h1, ?_, ?_, h4⟩, ?_⟩
  · rw [heap_setCell_other _ _ _ _ (show be ≠ bc from h4), heap_setCell_same _ _ _ _ _ _ k2, endOf_snoc]; rfl
  · rw [heap_setCell_same _ _ _ _ _ _ ((heap_setCell_other _ _ _ _ (show bc ≠ be from h4.symm)).trans k3), costOf_snoc]; rfl
  · exact ((turned_of_below hb).trans (turned_setCell _ _ _ ((h1 _).2 (.inl rfl)))).trans (turned_setCell _ _ _ ((h1 _).2 (.inr rfl)))
/-- Weights as a store keeps them. -/
def Wt (x : EdgeV) : Prop := 0 ≤ x.2.2.2 ∧ x.2.2.2 < 2139095040

theorem run_storeF (w : World) (a : Addr) (n : Nat) (m : Mode) : (store a (.float .f32 n) m).run Tryz.prog w = stored Tryz.prog w a (.float .f32 n) m := run_store Tryz.prog w a (.float .f32 n) m rfl
set_option maxHeartbeats 2000000 in
set_option maxRecDepth 100000 in
theorem follow1 {be bc : Nat} {a : Int} {d : List EdgeV} {A : Nat → Prop} {w : World} (x : EdgeV) (e : Int) (h : FP be bc a d A w) (hx : Wt x) :
    Calls Tryz.prog 41 #[.int .i64 e, .agg #[.int .i64 x.1, .int .i64 x.2.1, .int .i64 x.2.2.1, .int .u32 x.2.2.2], .pointer (some ⟨bc, 0, none⟩), .pointer (some ⟨be, 0, none⟩)] w fun r w' => r = .returned (.tuple #[]) ∧ Hid (FP be bc a (d ++ [x]) A w' ∧ Turned A w w') := by
  have hb := below_new w (oE x)
  have HS := hide (h.step (x := x) hb)
  obtain ⟨x0, x1, x2, x3, -⟩ := box_cells (heap_alloc_new w (oE x))
  obtain ⟨-, h2, h3, h4⟩ := h
  obtain ⟨k2, f2⟩ := cellI8 ((hb.block be (heap_lt h2)).trans h2)
  obtain ⟨k3, f3⟩ := cellF8 ((hb.block bc (heap_lt h3)).trans h3)
  have CA : Hid (∀ W, Calls Tryz.prog 42 #[.float .f32 (costOf d), .float .f32 x.2.2.2.toNat] W fun e w' => e = .returned (.float .f32 (M.addC (costOf d) (M.counts x.2.2.2.toNat))) ∧ w' = W) := fun W => fold_step (costOf_le d) (by have := hx.1; have := hx.2; omega) W
  have hx' := run_frombits
  have hsf := run_storeF
  obtain ⟨k5, f5⟩ := cellF8 (w := (w.alloc (oE x)).setCell ⟨be, 0, none⟩ (.int .i64 x.2.2.1)) (b := bc) (n := costOf d) ((heap_setCell_other _ _ _ _ (show bc ≠ be from h4.symm)).trans ((hb.block bc (heap_lt h3)).trans h3))
  have hn1 : ¬ be = bc := h4
  have hn2 : ¬ bc = be := fun e => h4 e.symm
  clear hb h2 h3 hx h4
  generalize M.addC (costOf d) (M.counts x.2.2.2.toNat) = c' at *
  generalize costOf d = c at *
  generalize endOf a d = ae at *
  go_enter Tryz.func41, Tryz.ntmps41
  go_upto_region 1 with fail
  change Code.wp _ _ _ _ (w.alloc (oE x))
  generalize w.alloc (oE x) = w1 at *
  generalize w.heap.size = bx at *
  refine wp_region_noPanic ?_
  refine regionL [7, 8] (fun y => y.cell? ⟨bx, 2, none⟩ = some (.int .i64 x.2.2.1) ∧ y.cell? ⟨bc, 0, none⟩ = some (.float .f32 c) ∧ y.cell? ⟨bx, 3, none⟩ = some (.int .u32 x.2.2.2)) (by kernel_rfl) ⟨x2, k3, x3⟩ (fun hHeld => ?_)
  refine takeN 0 6 rfl ?_
  (try simp only [sl])
  refine takeN 1 7 rfl ?_
  (try simp only [sl])
  refine takeN 2 8 rfl ?_
  (try simp only [sl])
  refine takeN 3 9 rfl ?_
  (try simp only [sl])
  refine takeN 4 10 rfl ?_
  (try simp only [sl])
  refine takeN 5 11 rfl ?_
  (try simp only [sl])
  refine readyL (i := 6) (by kernel_rfl) rfl (fun K hK => ?_)
  go_simp
  refine (unhide CA _).mono ?_
  rintro e w' ⟨rfl, rfl⟩
  (try dsimp only)
  refine hK.out _ _ (fun _ => (And.intro x2 (And.intro k3 x3))) ?_
  clear hK K
  (try simp only [sl])
  have hH4 := (And.intro x2 (And.intro k3 x3))
  refine readyL (i := 7) (by kernel_rfl) rfl (fun K hK => ?_)
  go_simp
  refine hK.out _ _ (fun h => by cases h) ?_
  clear hK K
  (try simp only [sl])
  refine readyL (i := 8) (by kernel_rfl) rfl (fun K hK => ?_)
  go_simp
  refine hK.out _ _ (fun h => by cases h) ?_
  clear hK K
  (try simp only [sl])
  refine doneL (by kernel_rfl) ?_ _
  refine NoPanic.normal ?_
  go_wp2_with fail
  go_end0
  exact ⟨rfl, (unhide HS).1, (unhide HS).2.drewN 1⟩
theorem follow_fn (N be bc : Nat) (a : Int) : StepFn (.func (.func 41) #[] #[.pointer (some ⟨bc, 0, none⟩), .pointer (some ⟨be, 0, none⟩)]) N Wt (FP be bc a) := by
  refine ⟨⟨_, _, rfl, enters_of Tryz.func41 (by kernel_rfl) rfl, fun d x A w _ hx hP => ?_⟩, fun d A w w' hP hk hs => ?_, fun d A w b hP hb => ?_⟩
  · refine (follow1 x x.1 hP hx).mono ?_
    rintro r w' ⟨rfl, hh⟩
    exact ⟨rfl, A, (unhide hh).1, (unhide hh).2, fun b hb => .inl hb⟩
  · obtain ⟨h1, h2, h3, h4⟩ := hP
    exact ⟨h1, (hk be ((h1 be).2 (.inl rfl))).trans h2, (hk bc ((h1 bc).2 (.inr rfl))).trans h3, h4⟩
  · obtain ⟨h1, h2, h3, h4⟩ := hP
    rcases (h1 b).1 hb with rfl | rfl
    · exact heap_lt h2
    · exact heap_lt h3
/-- What Follow answers. -/
def fAns (a : Int) (t : List EdgeV × Option Int) : Value := if t.2 = none then .tuple #[.int .i64 (endOf a t.1), .int .u32 (costOf t.1), .int .i64 0, .int .i64 0] else .tuple #[.int .i64 0, .int .u32 0, .int .i64 t.1.length, .int .i64 (tCode t)]
/-- Of a step's own new blocks nothing is seen outside. -/
theorem Mid.out [Inhabited EntI] {P : List EdgeV → (Nat → Prop) → World → Prop} {w0 w w' : World} {X : Sto} {A A' : Nat → Prop} {n : Nat} {d : List EdgeV} (h : Mid P w X A n d A' w') (hb : Below w0.heap.size w0 w) (hA : ∀ b, A b → w0.heap.size ≤ b) : Step w0 X w' { X with rd := X.rd + (n : Int) } := by
  refine ⟨h.st, rfl, ?_, fun b hb => .inl hb⟩
  refine (turned_of_below hb).then_ h.turned (fun b hb' ho => ho.elim id (fun ha => ?_))
  have := hA b ha
  omega
/-- So many records were read. -/
def Rd [Inhabited EntI] (w : World) (X : Sto) (n : Nat) (w' : World) : Prop := Step w X w' { X with rd := X.rd + (n : Int) }
theorem Step.draw [Inhabited EntI] {w w' : World} {X X' : Sto} (h : Step w X w' X') (q : Nat) : Step w X (w'.drewN q) X' := h.trans (Step.below h.1 (below_drewN (Below.refl _ _) q))
theorem tCode_ne {ps : List (EdgeV × Bool)} {a : Int} : ∀ {es : List Int}, (trip ps a es).2 ≠ none → (trip ps a es).2 = some 6 ∨ (trip ps a es).2 = some 80 := by
  intro es
  induction es generalizing a with
  | nil => intro h; exact absurd rfl h
  | cons e es ih =>
    intro h
    rw [trip] at h ⊢
    cases hl : lk ps e with
    | none => exact .inl rfl
    | some x =>
      rw [hl] at h
      simp only at h ⊢
      by_cases hx : x.2.1 = a
      · rw [if_pos hx] at h ⊢; exact ih h
      · rw [if_neg hx]; exact .inr rfl
end

section
open Go.RowKit Go.Maps
/-- Some records were read, at most n; what is known in m may have grown. -/
def RdM [Inhabited EntI] (w : World) (X : Sto) (m n : Nat) (w' : World) : Prop := (∃ k : Nat, k ≤ n ∧ StAt w' { X with rd := X.rd + (k : Int) }) ∧ Turned (fun b => X.L b ≠ none ∨ b = m) w w'
theorem RdM.draw [Inhabited EntI] {w w' : World} {X : Sto} {m n : Nat} (h : RdM w X m n w') (q : Nat) : RdM w X m n (w'.drewN q) := by
  obtain ⟨⟨k, h1, h2⟩, h3⟩ := h
  have hb := below_drewN (Below.refl w'.heap.size w') q
  exact ⟨⟨k, h1, h2.below hb⟩, h3.trans (turned_of_below hb)⟩
theorem MidR.out [Inhabited EntI] {P : List EdgeV → (Nat → Prop) → World → Prop} {w0 w w' : World} {X : Sto} {A A' : Nat → Prop} {m n : Nat} {d : List EdgeV} (h : MidR P w X A m n d A' w') (hb : Below w0.heap.size w0 w) (hA : ∀ b, A b → w0.heap.size ≤ b) : RdM w0 X m n w' := by
  refine ⟨h.st, ?_⟩
  refine (turned_of_below hb).then_ h.turned (fun b hb' ho => ho.elim id (fun ha => ?_))
  have := hA b ha
  omega

set_option maxHeartbeats 2000000 in
set_option maxRecDepth 100000 in
theorem followR [Inhabited EntI] {w : World} {X : Sto} {m : Nat} (from_ : Int) {ev : Value} {es : List Int} (h : StAt w X) (hm : Kn X.ps 0 w m) (hmL : X.L m = none) (hok : ∀ e ∈ es, okN e) (hr : SRow w ev es) (hl : es.length ≤ 100000) (hx0 : 0 ≤ X.rd) (hx1 : X.rd ≤ 100000000)
    (hQ : ∀ (i : Nat) (x : EdgeV), X.ps[i]? = some (x, true) → Wt x) (hb : ∀ b, blkOf ev = some b → b < w.heap.size ∧ X.L b = none ∧ b ≠ m) :
    Calls Tryz.prog 21 #[.iface 139 (.agg #[.iface 24 (.pointer (some ⟨X.s, 0, none⟩)), .map (some m)]), .int .i64 from_, ev] w fun e w' => e = .returned (fAns from_ (trip X.ps from_ es)) ∧ Hid (RdM w X m es.length w') := by
  have CF := hide (fold_zero none 0 w)
  have hb1 := below_new w (oI8 from_)
  have hb2 := below_new (w.alloc (oI8 from_)) (oF8 0)
  have hs1 : (w.alloc (oI8 from_)).heap.size = w.heap.size + 1 := by simp
  have hbb : Below w.heap.size w ((w.alloc (oI8 from_)).alloc (oF8 0)) := hb1.trans (hb2.mono (by omega))
  obtain ⟨ea, ec, rfl, hcell⟩ := hr
  have CA : Hid (∀ be bc : Nat, be = w.heap.size → bc = w.heap.size + 1 → Calls Tryz.prog 40 #[.iface 139 (.agg #[.iface 24 (.pointer (some ⟨X.s, 0, none⟩)), .map (some m)]), .int .i64 from_, .slice ea es.length ec, .func (.func 41) #[] #[.pointer (some ⟨bc, 0, none⟩), .pointer (some ⟨be, 0, none⟩)]] ((w.alloc (oI8 from_)).alloc (oF8 0)) fun e w' => e = .returned (.tuple #[.int .i64 (tPlace (trip X.ps from_ es)), .int .i64 (tCode (trip X.ps from_ es))]) ∧ (w'.cell? ⟨be, 0, none⟩ = some (.int .i64 (endOf from_ (trip X.ps from_ es).1)) ∧ w'.cell? ⟨bc, 0, none⟩ = some (.float .f32 (costOf (trip X.ps from_ es).1))) ∧ Hid (RdM w X m es.length w')) := by
    rintro be bc rfl rfl
    have hs2 := h.mem.new (k := w.heap.size) (Nat.le_refl _)
    have hm2 := hm.below hbb
    have hmlt : m < w.heap.size := hm.lt
    refine (alongR (follow_fn 100000 w.heap.size (w.heap.size + 1) from_) from_ (A := fun b => b = w.heap.size ∨ b = w.heap.size + 1) (m := m) ⟨⟨0, Nat.le_refl _, by simpa using h.below hbb⟩, hm2, ⟨fun b => Iff.rfl, (heap_alloc_old _ _ (by omega)).trans (heap_alloc_new _ _), ?_, by omega⟩, Turned.refl _ _, fun b hb' => .inl hb', ?_, hmL⟩ (SRow.below ⟨ea, ec, rfl, hcell⟩ hbb) hok hl (Nat.le_refl _) hx0 hx1 hQ (fun b hb' _ => ⟨(hb b hb').2, fun ho => by have := (hb b hb').1; omega⟩)).mono ?_
    · have := heap_alloc_new (w.alloc (oI8 from_)) (oF8 0)
      rw [hs1] at this; exact this
    · rintro b (rfl | rfl)
      · exact ⟨hs2, by omega⟩
      · exact ⟨h.mem.new (by omega), by omega⟩
    · rintro e w' ⟨rfl, hh⟩
      obtain ⟨A', hM⟩ := unhide hh
      obtain ⟨-, p2, p3, -⟩ := hM.pic
      refine ⟨rfl, ⟨(cellI8 p2).1, (cellF8 p3).1⟩, hM.out hbb ?_⟩
      rintro b (rfl | rfl) <;> omega
  have HB := hide hbb
  generalize hsx : X.s = s at *
  obtain ⟨t, ht⟩ : ∃ t, t = trip X.ps from_ es := ⟨_, rfl⟩
  rw [← ht]
  rw [← ht] at CA
  have HT : Hid (t.2 ≠ none → tCode t ≠ 0) := fun hn => by
    rw [ht] at hn ⊢
    rcases tCode_ne hn with e | e <;> (unfold tCode; rw [e]; decide)
  have HLC := hide (costOf_le t.1)
  clear h hm hmL hok hcell hl hx0 hx1 hQ hb hb1 hb2 hs1 hbb hsx ht
  generalize es.length = len at *
  have hsf := run_storeF
  by_cases hn : t.2 = none
  · have e1 : tCode t = 0 := by unfold tCode; rw [hn]; rfl
    have e2 : fAns from_ t = .tuple #[.int .i64 (endOf from_ t.1), .int .u32 (costOf t.1), .int .i64 0, .int .i64 0] := if_pos hn
    rw [e2]
    rw [e1] at CA
    have CB : Hid (∀ W, Calls Tryz.prog 44 #[.float .f32 (costOf t.1)] W fun e w' => e = .returned (.int .u32 (costOf t.1 : Int)) ∧ w' = W) := fun W => bits_nat (unhide HLC) W
    clear HT HLC e1 e2 hn
    generalize costOf t.1 = c at *
    generalize endOf from_ t.1 = ae at *
    generalize tPlace t = pl at *
    go_enter Tryz.func21, Tryz.ntmps21
    go_wp2_with fail
    refine (unhide CF).mono ?_
    rintro e w ⟨rfl, rfl⟩
    clear CF
    go_upto_region 2 with fail
    change Code.wp _ _ _ _ ((w.alloc (oI8 from_)).alloc (oF8 0))
    have CA2 := hide (unhide CA _ _ rfl rfl)
    clear CA
    generalize (w.alloc (oI8 from_)).alloc (oF8 0) = w2 at *
    go_wp2_with fail
    refine (unhide CA2).mono ?_
    rintro e w3 ⟨rfl, ⟨k1, k2⟩, hR⟩
    clear CA2
    go_wp2_with fail
    go_quiet ((go_at_call 44; exact (unhide CB _).mono (fun _ _ h => ⟨h.1, _, h.2⟩)))
    go_wp2_with fail
    go_returns
    exact ⟨rfl, (unhide hR).draw _⟩
  · have e1 := unhide HT hn
    have e2 : fAns from_ t = .tuple #[.int .i64 0, .int .u32 0, .int .i64 t.1.length, .int .i64 (tCode t)] := if_neg hn
    have e3 : tPlace t = t.1.length := if_neg hn
    rw [e2]
    rw [e3] at CA
    have e4 : (tCode t == 0) = false := by simp [e1]
    clear HT HLC e2 hn e3 e1
    generalize costOf t.1 = c at *
    generalize endOf from_ t.1 = ae at *
    generalize tCode t = tc at *
    generalize t.1.length = tl at *
    go_enter Tryz.func21, Tryz.ntmps21
    go_wp2_with fail
    refine (unhide CF).mono ?_
    rintro e w ⟨rfl, rfl⟩
    clear CF
    go_upto_region 2 with fail
    change Code.wp _ _ _ _ ((w.alloc (oI8 from_)).alloc (oF8 0))
    have CA2 := hide (unhide CA _ _ rfl rfl)
    clear CA
    generalize (w.alloc (oI8 from_)).alloc (oF8 0) = w2 at *
    go_wp2_with fail
    refine (unhide CA2).mono ?_
    rintro e w3 ⟨rfl, ⟨k1, k2⟩, hR⟩
    clear CA2
    go_wp2_with fail
    go_returns
    exact ⟨rfl, hR⟩
end

end Go.Proofs.YtagibmgbjhemkaaGreat
