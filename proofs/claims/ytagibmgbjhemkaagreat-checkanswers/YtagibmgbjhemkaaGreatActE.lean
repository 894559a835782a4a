/- PutAt over a table of edges. -/
import Derived.Test.YtagibmgbjhemkaaGreatRawE
namespace Go.Proofs.YtagibmgbjhemkaaGreat
open Go.RowKit Go.Maps

/-- What a call leaves: the table with these places, its blocks old ones of its own or new. -/
def ThenE [Inhabited EntI] (w w' : World) (t hp : Nat) (v : Value) (most : Int) (ps : List (EdgeV × Bool)) (n : Nat) (G : Nat → Prop) : Prop :=
  ∃ v' ms' n' G', n' ≤ n + 65536 ∧ TAtE w' t hp v' most ps ms' n' G' ∧ Turned (Feet t v G) w w' ∧ ∀ j, Feet t v' G' j → Feet t v G j ∨ w.heap.size ≤ j

/-- An edge in a box. -/
def oE (x : EdgeV) : Obj := .cells #[.int .i64 x.1, .int .i64 x.2.1, .int .i64 x.2.2.1, .int .u32 x.2.2.2] 64 (0, 0)
theorem ThenE.boxed [Inhabited EntI] {w w' : World} {t hp : Nat} {v : Value} {most : Int} {ps ps' : List (EdgeV × Bool)} {ms : List EntI} {n n0 : Nat} {G : Nat → Prop} (_ : TAtE w t hp v most ps ms n0 G) (o : Obj) (h : ThenE (w.alloc o) w' t hp v most ps' n G) : ThenE w w' t hp v most ps' n G := by
  obtain ⟨v', ms', n', G', h1, h2, h3, h4⟩ := h
  have hs : (w.alloc o).heap.size = w.heap.size + 1 := by simp
  have hb : Below w.heap.size w (w.alloc o) := (Below.refl _ _).alloc (Nat.le_refl _) _
  refine ⟨v', ms', n', G', h1, h2, ⟨h3.os.trans hb.os, h3.tape.trans hb.tape, h3.output.trans hb.output, Nat.le_trans hb.size h3.size, fun j hj hf => (h3.block j (by omega) hf).trans (hb.block j hj)⟩, fun j hj => (h4 j hj).imp id (fun e => by omega)⟩

set_option maxHeartbeats 1000000 in
set_option maxRecDepth 100000 in
theorem putAtNoE [Inhabited EntI] {t hp : Nat} {v : Value} {most : Int} {ps : List (EdgeV × Bool)} {ms : List EntI} {n : Nat} {G : Nat → Prop} (k : Int) (x : EdgeV) (w : World) (h : TAtE w t hp v most ps ms n G) (hk : k < 1 ∨ most < k ∨ ∃ (i : Nat) (a : EdgeV), k = (i : Int) + 1 ∧ ps[i]? = some (a, true)) :
    Calls Tryz.prog 103 #[.pointer (some ⟨t, 0, none⟩), .int .i64 k, .agg #[.int .i64 (x).1, .int .i64 (x).2.1, .int .i64 (x).2.2.1, .int .u32 (x).2.2.2]] w fun e w' => e = .returned (.bool false) ∧ Below w.heap.size w w' := by
  have h' := h.kept (w' := w.alloc (oE x)) (fun j hj => heap_alloc_old _ _ (h.lt hj))
  obtain ⟨c0, -, -, -⟩ := h'.cells
  have HB : Hid (Below w.heap.size w (w.alloc (oE x))) := (Below.refl _ _).alloc (Nat.le_refl _) _
  have hm := h.top
  have hl := h.len
  by_cases h1 : k < 1
  · clear h h' hk hm hl
    go_enter Tryz.func103, Tryz.ntmps103
    go_upto_region 1 with fail
    change Code.wp _ _ _ _ (w.alloc (oE x))
    generalize w.alloc (oE x) = wb at *
    go_wp2_with fail
    go_ret
    exact ⟨rfl, unhide HB⟩
  · by_cases h2 : most < k
    · clear h h' hk hm hl
      go_enter Tryz.func103, Tryz.ntmps103
      go_upto_region 1 with fail
      change Code.wp _ _ _ _ (w.alloc (oE x))
      generalize w.alloc (oE x) = wb at *
      go_wp2_with fail
      go_ret
      exact ⟨rfl, unhide HB⟩
    · obtain ⟨i, a, rfl, hi⟩ : ∃ (i : Nat) (a : EdgeV), k = (i : Int) + 1 ∧ ps[i]? = some (a, true) := by
        rcases hk with hk | hk | hk
        · exact absurd hk h1
        · exact absurd hk h2
        · exact hk
      have CT := hide (takenAtE i (w.alloc (oE x)) h' hi)
      clear h h' hm hl hi hk
      go_enter Tryz.func103, Tryz.ntmps103
      go_upto_region 1 with fail
      change Code.wp _ _ _ _ (w.alloc (oE x))
      generalize w.alloc (oE x) = wb at *
      go_wp2_with fail
      refine (unhide CT).mono ?_
      rintro e w2 ⟨rfl, rfl⟩
      clear CT
      go_wp2_with fail
      go_ret
      exact ⟨rfl, unhide HB⟩

set_option maxHeartbeats 1000000 in
set_option maxRecDepth 100000 in
theorem putAtYesE [Inhabited EntI] {t hp : Nat} {v : Value} {most : Int} {ps : List (EdgeV × Bool)} {ms : List EntI} {n : Nat} {G : Nat → Prop} (i : Nat) (x : EdgeV) (w : World) (h : TAtE w t hp v most ps ms n G) (hi : (i : Int) < most) (hk : ∀ a, ps[i]? ≠ some (a, true)) (hn : n ≤ 1000000000) :
    Calls Tryz.prog 103 #[.pointer (some ⟨t, 0, none⟩), .int .i64 ((i : Int) + 1), .agg #[.int .i64 (x).1, .int .i64 (x).2.1, .int .i64 (x).2.2.1, .int .u32 (x).2.2.2]] w fun e w' => e = .returned (.bool true) ∧ Hid (ThenE w w' t hp v most ((groE ps (i + 1)).set i (x, true)) n G) := by
  have h' := h.kept (w' := w.alloc (oE x)) (fun j hj => heap_alloc_old _ _ (h.lt hj))
  obtain ⟨c0, -, -, -⟩ := h'.cells
  have HX : Hid (∀ w', ThenE (w.alloc (oE x)) w' t hp v most ((groE ps (i + 1)).set i (x, true)) n G → ThenE w w' t hp v most ((groE ps (i + 1)).set i (x, true)) n G) := fun w' hh => hh.boxed h _
  have HBX : Hid ((w.alloc (oE x)).heap[w.heap.size]? = some (oE x) ∧ ¬ Feet t v G w.heap.size) := ⟨heap_alloc_new _ _, fun e => by have := h.lt e; omega⟩
  have hm := h.top
  have CT := hide (takenNoE ((i : Int) + 1) (w.alloc (oE x)) h' (fun j a e => by
    obtain rfl : j = i := by omega
    exact hk a))
  have CG := hide (growToE (i + 1) (w.alloc (oE x)) h' (by push_cast; omega) hn)
  have HL := hide h.len
  obtain ⟨a, hia⟩ := groE_at hk
  have HIA := hide hia
  have h1 : ¬ (i : Int) + 1 < 1 := by omega
  have h2 : ¬ most < (i : Int) + 1 := by omega
  have HI := hide hi
  have HM := hide hm
  have h6 : (i : Int) < 65536 := by omega
  clear h h' hk hia hi hm
  go_enter Tryz.func103, Tryz.ntmps103
  go_upto_region 1 with fail
  change Code.wp _ _ _ _ (w.alloc (oE x))
  generalize w.alloc (oE x) = wb at *
  generalize w.heap.size = bb at *
  go_wp2_with fail
  refine (unhide CT).mono ?_
  rintro e w1 ⟨rfl, rfl⟩
  clear CT
  go_wp2_with fail
  refine (unhide CG).mono ?_
  rintro e w2 ⟨rfl, h2⟩
  obtain ⟨v1, ms1, G1, t1, T1, S1⟩ := unhide h2
  have t1' : TAtE w2 t hp v1 most (groE ps (i + 1)) ms1 (n + (i + 1 - ps.length)) G1 := t1
  obtain ⟨y, hy, ey⟩ := t1'.fr.all i a (unhide HIA)
  have CD := t1'.on.drop hy (by have := t1'.fr.cnt; have := t1'.len; have := t1'.top; omega)
  rw [ey] at CD
  have HCD := hide CD
  have e2 := t1'.raw.cells.2.2
  have HS := hide (And.intro t1' (And.intro T1 S1))
  clear CG h2 t1 t1' T1 S1 hy ey CD
  go_wp2_with fail
  refine (unhide HCD).mono ?_
  rintro e w3 ⟨rfl, G3, o1, o2, o3⟩
  obtain ⟨t1, T1, S1⟩ := unhide HS
  obtain ⟨r3, T3, S3⟩ := t1.raw.heap o1 o2 o3
  have hlt := lt_of_at (unhide HIA)
  obtain ⟨g, c, rfl, -, -, -⟩ := t1.some_ (by omega)
  have d1 := r3.cells.2.1
  have df : ∀ o, w3.frozen? ⟨g, o, none⟩ = false := fun o => by
    rcases r3.row.2 with ⟨e, -⟩ | ⟨g', cap, cur, e, -, hg, -⟩
    · cases e
    · cases e; exact frozen_of_row w3 g o _ _ hg
  obtain ⟨f1, f2, f3, f4, f5⟩ := encE_at _ i a false (unhide HIA)
  have add : ∀ j, (⟨g, 0, none⟩ : Addr).add j = ⟨g, j, none⟩ := fun j => by unfold Addr.add; split <;> simp_all
  have g1 := r3.row.cells (g := g) rfl _ _ f1
  have g2 := r3.row.cells (g := g) rfl _ _ f2
  have g3 := r3.row.cells (g := g) rfl _ _ f3
  have g4 := r3.row.cells (g := g) rfl _ _ f4
  have g5 := r3.row.cells (g := g) rfl _ _ f5
  rw [add] at g1 g2 g3 g4 g5
  have bx : w3.heap[bb]? = some (oE x) := by
    have l1 := (Array.getElem?_eq_some_iff.1 (unhide HBX).1).1
    have l2 := T1.size
    have e1 := (T1.block bb l1 (unhide HBX).2).trans (unhide HBX).1
    refine (T3.block bb (by omega) (fun e => ?_)).trans e1
    rcases S1 bb e with e | e
    · exact (unhide HBX).2 e
    · omega
  have hgt : ¬ g = t := fun e => r3.nv (by simp [Value.ownBlock, e])
  have hgt2 : ¬ t = g := fun e => hgt e.symm
  have hgb : ¬ g = bb := fun e => by
    have l1 := (Array.getElem?_eq_some_iff.1 (unhide HBX).1).1
    rcases S1 g (.inr (.inl rfl)) with e2 | e2
    · exact (unhide HBX).2 (e ▸ e2)
    · omega
  have hgb2 : ¬ bb = g := fun e => hgb e.symm
  have x0 : w3.cell? ⟨bb, 0, none⟩ = some (.int .i64 x.1) := (cell_of_row _ _ 0 _ 64 (0, 0) bx).trans rfl
  have x1 : w3.cell? ⟨bb, 1, none⟩ = some (.int .i64 x.2.1) := (cell_of_row _ _ 1 _ 64 (0, 0) bx).trans rfl
  have x2 : w3.cell? ⟨bb, 2, none⟩ = some (.int .i64 x.2.2.1) := (cell_of_row _ _ 2 _ 64 (0, 0) bx).trans rfl
  have x3 : w3.cell? ⟨bb, 3, none⟩ = some (.int .u32 x.2.2.2) := (cell_of_row _ _ 3 _ 64 (0, 0) bx).trans rfl
  have HF : Hid (∀ q, ThenE w ((setP (w3.drewN q) g i x true)) t hp v most ((groE ps (i + 1)).set i (x, true)) n G) := fun q => by
    refine unhide HX _ ?_
    replace r3 : TRawE (w3.drewN q) t hp (.slice (some ⟨g, 0, none⟩) (groE ps (i + 1)).length c) most (groE ps (i + 1)) _ _ G3 := ⟨r3.box, row_kept5 r3.row (fun _ _ => rfl), r3.on.kept (fun _ _ => rfl), r3.nt, r3.nv, r3.ng, r3.len, r3.top⟩
    replace T3 : Turned (Feet t (.slice (some ⟨g, 0, none⟩) (groE ps (i + 1)).length c) G1) w2 (w3.drewN q) := by
      have bq := below_drewN (Below.refl w3.heap.size w3) q
      exact T3.then_ (T := fun _ => False) ⟨bq.os, bq.tape, bq.output, bq.size, fun _ _ _ => rfl⟩ (fun _ _ h => h.elim)
    obtain ⟨r4, T4⟩ := r3.store i x true
    refine ⟨_, _, _, _, ?_, r4.full (frees_take t1.fr t1.on.once (unhide HIA) x), ?_, ?_⟩
    · have := unhide HI; have := unhide HM; omega
    · refine T1.then_ (T3.then_ T4 (fun j hj hf => (S3 j hf).elim id (fun e => by omega))) (fun j hj hf => (S1 j hf).elim id (fun e => by omega))
    · intro j hj
      rcases S3 j hj with e | e
      · exact S1 j e
      · exact .inr (Nat.le_trans T1.size e)
  have hltz : (i : Int) < ((groE ps (i + 1)).length : Int) := by omega
  have HL6 : Hid (((groE ps (i + 1)).length : Int) ≤ 65536) := by have := r3.len; have := r3.top; show _ ≤ _; omega
  generalize (groE ps (i + 1)).length = L at *
  clear HCD HS t1 T1 S1 r3 T3 S3 o1 o2 o3 f1 f2 f3 f4 f5 hlt bx HX HBX
  have h0 : (0 : Int) ≤ (i : Int) := by omega
  have hw1 : IntKind.i64.wrap ((i : Int) + 1 - 1) = (i : Int) := by rw [IntKind.wrap_i64]; omega
  have hl6 : (L : Int) ≤ 65536 := unhide HL6
  go_upto_region 5 with fail
  clear add hw1 c0 e2
  clear HL6 HIA HL HI HM
  go_region
  all_goals
    go_wp2_with fail
    go_ret
    exact ⟨rfl, unhide HF 1⟩
end Go.Proofs.YtagibmgbjhemkaaGreat
