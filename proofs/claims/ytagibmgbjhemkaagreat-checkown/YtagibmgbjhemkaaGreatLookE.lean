/- A table's calls that only read: taken, Free, At. -/
import Derived.Test.YtagibmgbjhemkaaGreatGrowE
import Derived.Laws.ResultCell
import Derived.Deep.MidRow
import Derived.Deep.CutRange
namespace Go.Proofs.YtagibmgbjhemkaaGreat

section
open Go.RowKit Go.Maps
set_option maxHeartbeats 1000000 in
set_option maxRecDepth 100000 in
theorem growToE [Inhabited EntI] {t hp : Nat} {v : Value} {most : Int} {ps : List (EdgeV × Bool)} {ms : List EntI} {n : Nat} {G : Nat → Prop} (k : Nat) (w : World) (h : TAtE w t hp v most ps ms n G) (hk : (k : Int) ≤ most) (hn : n ≤ 1000000000) :
    Calls Tryz.prog 120 #[.pointer (some ⟨t, 0, none⟩), .int .i64 k] w fun e w' => e = .returned (.tuple #[]) ∧ Hid (∃ v' ms' G', TAtE w' t hp v' most (ps ++ List.replicate (k - ps.length) (((0, 0, 0, 0) : EdgeV), false)) ms' (n + (k - ps.length)) G' ∧ Turned (Feet t v G) w w' ∧ ∀ j, Feet t v' G' j → Feet t v G j ∨ w.heap.size ≤ j) := by
  have HK := hide hk
  have HN := hide hn
  have HT := hide h
  clear h hk hn
  go_enter Tryz.func120, Tryz.ntmps120
  go_wp2_with fail
  go_loopw [8] (fun _ wr => ∃ (d : Nat) (v' : Value) (ms' : List EntI) (G' : Nat → Prop), Hid (d ≤ k - ps.length) ∧ Hid (TAtE wr t hp v' most (ps ++ List.replicate d (((0, 0, 0, 0) : EdgeV), false)) ms' (n + d) G' ∧ Turned (Feet t v G) w wr ∧ ∀ j, Feet t v' G' j → Feet t v G j ∨ w.heap.size ≤ j)) (fun _ wr => k - plen wr t)
  case atStart => exact ⟨0, v, ms, G, Nat.zero_le _, by simpa using unhide HT, Turned.refl _ _, fun j hj => .inl hj⟩
  case round =>
    obtain ⟨d, v', ms', G', hd, hh⟩ := hrel
    obtain ⟨h1, h2, h3⟩ := unhide hh
    have hlen : (ps ++ List.replicate d ((((0, 0, 0, 0) : EdgeV), false) : EdgeV × Bool)).length = ps.length + d := by simp
    obtain ⟨-, c1, -, cf⟩ := h1.cells
    obtain ⟨a, c, rfl⟩ := h1.shape
    have hm1 := h1.len
    have hm2 := h1.top
    have HPL := hide (plen_of c1)
    by_cases hlt : (ps ++ List.replicate d ((((0, 0, 0, 0) : EdgeV), false) : EdgeV × Bool)).length < k
    · have hltm : ((ps ++ List.replicate d ((((0, 0, 0, 0) : EdgeV), false) : EdgeV × Bool)).length : Int) < most := by have := unhide HK; omega
      obtain ⟨g, c', w', hr, e2, ⟨u, e1⟩, ef, box, row, on, hgt, hgG, hgo, ht⟩ := growMemE h1 hltm
      have hnot : ∀ x ∈ ms', x.key ≠ ((ps ++ List.replicate d ((((0, 0, 0, 0) : EdgeV), false) : EdgeV × Bool)).length : Int) + 1 := frees_not h1.fr (fun a e => by have := lt_of_at e; omega)
      have hml : ms'.length ≤ 65536 := by have := h1.fr.cnt; omega
      have HQ : Hid (∀ w3 G3, OnI w3 hp G3 (ms' ++ [⟨((ps ++ List.replicate d ((((0, 0, 0, 0) : EdgeV), false) : EdgeV × Bool)).length : Int) + 1, ((ps ++ List.replicate d ((((0, 0, 0, 0) : EdgeV), false) : EdgeV × Bool)).length : Int) + 1, n + d⟩]) (n + d + 1) → Turned G' (w'.setCell ⟨t, 1, none⟩ (.slice (some ⟨g, 0, none⟩) ((ps ++ List.replicate d ((((0, 0, 0, 0) : EdgeV), false) : EdgeV × Bool)).length + 1) c')) w3 → (∀ j, G3 j → G' j ∨ (w'.setCell ⟨t, 1, none⟩ (.slice (some ⟨g, 0, none⟩) ((ps ++ List.replicate d ((((0, 0, 0, 0) : EdgeV), false) : EdgeV × Bool)).length + 1) c')).heap.size ≤ j) → _) := fun w3 G3 => grownE h1 hltm box row hgt hgG hgo ht
      have CP : Hid (∀ q, Calls Tryz.prog 106 #[.pointer (some ⟨hp, 0, none⟩), .int .i64 (((ps ++ List.replicate d ((((0, 0, 0, 0) : EdgeV), false) : EdgeV × Bool)).length : Int) + 1), .int .i64 (((ps ++ List.replicate d ((((0, 0, 0, 0) : EdgeV), false) : EdgeV × Bool)).length : Int) + 1)] ((w'.setCell ⟨t, 1, none⟩ (.slice (some ⟨g, 0, none⟩) ((ps ++ List.replicate d ((((0, 0, 0, 0) : EdgeV), false) : EdgeV × Bool)).length + 1) c')).drewN q) fun e w3 => e = .returned (.bool true) ∧ Hid (∃ G3, OnI w3 hp G3 (ms' ++ [⟨((ps ++ List.replicate d ((((0, 0, 0, 0) : EdgeV), false) : EdgeV × Bool)).length : Int) + 1, ((ps ++ List.replicate d ((((0, 0, 0, 0) : EdgeV), false) : EdgeV × Bool)).length : Int) + 1, n + d⟩]) (n + d + 1) ∧ Turned G' (w'.setCell ⟨t, 1, none⟩ (.slice (some ⟨g, 0, none⟩) ((ps ++ List.replicate d ((((0, 0, 0, 0) : EdgeV), false) : EdgeV × Bool)).length + 1) c')) w3 ∧ ∀ j, G3 j → G' j ∨ (w'.setCell ⟨t, 1, none⟩ (.slice (some ⟨g, 0, none⟩) ((ps ++ List.replicate d ((((0, 0, 0, 0) : EdgeV), false) : EdgeV × Bool)).length + 1) c')).heap.size ≤ j)) := fun q => by
        refine ((on.kept (w' := (w'.setCell ⟨t, 1, none⟩ (.slice (some ⟨g, 0, none⟩) ((ps ++ List.replicate d ((((0, 0, 0, 0) : EdgeV), false) : EdgeV × Bool)).length + 1) c')).drewN q) (fun _ _ => rfl)).push _ _ (key_fit _ (by omega)) hnot (by omega) (by have := unhide HN; have := unhide hd; omega)).mono ?_
        rintro e w3 ⟨he, F', g1, g2, g3⟩
        exact ⟨he, F', g1, ⟨g2.os, g2.tape, g2.output, g2.size, g2.block⟩, g3⟩
      have d1 : (w'.setCell ⟨t, 1, none⟩ (.slice (some ⟨g, 0, none⟩) ((ps ++ List.replicate d ((((0, 0, 0, 0) : EdgeV), false) : EdgeV × Bool)).length + 1) c')).cell? ⟨t, 1, none⟩ = some (.slice (some ⟨g, 0, none⟩) ((ps ++ List.replicate d ((((0, 0, 0, 0) : EdgeV), false) : EdgeV × Bool)).length + 1) c') := by rw [cell_of_row _ t _ _ _ _ box]; rfl
      have d2 : (w'.setCell ⟨t, 1, none⟩ (.slice (some ⟨g, 0, none⟩) ((ps ++ List.replicate d ((((0, 0, 0, 0) : EdgeV), false) : EdgeV × Bool)).length + 1) c')).cell? ⟨t, 2, none⟩ = some (.pointer (some ⟨hp, 0, none⟩)) := by rw [cell_of_row _ t _ _ _ _ box]; rfl
      have HR := hide hr
      have HLN := hide hlen
      have HH2 := hide (And.intro h2 h3)
      have hltz : ((ps ++ List.replicate d ((((0, 0, 0, 0) : EdgeV), false) : EdgeV × Bool)).length : Int) < (k : Int) := by omega
      have hl6 : ((ps ++ List.replicate d ((((0, 0, 0, 0) : EdgeV), false) : EdgeV × Bool)).length : Int) ≤ 65536 := by omega
      clear hlen hh h1 h2 h3 hr hnot hml box row on hgt hgG hgo ht hm1 hm2 hltm cf
      generalize (ps ++ List.replicate d ((((0, 0, 0, 0) : EdgeV), false) : EdgeV × Bool)).length = L at *
      go_wp2_with (at_builtin; refine Lib.wpList_append_run _ rfl _ _ 164 164 rfl (.slice a L c) (.slice (some ⟨wr.heap.size, 0, none⟩) 1 1) rfl rfl _ _ HR.out ?_)
      generalize (w'.setCell ⟨t, 1, none⟩ (.slice (some ⟨g, 0, none⟩) (L + 1) c')) = w2 at *
      refine region_still_tail 14 mixed (by kernel_rfl) ?_
      simp only [List.take_succ_cons, List.take_zero, List.drop_succ_cons, List.drop_zero]
      repeat still_step
      refine wpStill_nil ?_
      go_wp2_with fail
      refine (unhide CP 1).mono ?_
      rintro e w3 ⟨rfl, h3⟩
      obtain ⟨G3, o1, o2, o3⟩ := unhide h3
      have HQ3 := hide (unhide HQ w3 G3 o1 o2 o3)
      clear CP HQ h3 o1 o2 o3
      go_wp2_with fail
      go_roundw
      case rel =>
        obtain ⟨q1, q2, q3⟩ := unhide HQ3
        obtain ⟨p2, p3⟩ := unhide HH2
        rw [List.append_assoc, ← List.replicate_succ'] at q1
        have l1 : d + 1 ≤ k - ps.length := by have := unhide HLN; omega
        exact ⟨d + 1, _, _, G3, l1, q1, p2.then_ q2 (fun i hi hf => (p3 i hf).elim id (fun e => by omega)), fun j hj => (q3 j hj).elim (p3 j) (fun e => .inr (Nat.le_trans p2.size e))⟩
      case measure =>
        obtain ⟨q1, -, -⟩ := unhide HQ3
        have := plen_of q1.cells.2.1
        rw [this, unhide HPL]; omega
    · have hltz : ¬ ((ps ++ List.replicate d ((((0, 0, 0, 0) : EdgeV), false) : EdgeV × Bool)).length : Int) < (k : Int) := by omega
      have HE : Hid (d = k - ps.length) := by show d = _; have := unhide hd; omega
      have HH := hide (And.intro h1 (And.intro h2 h3))
      clear hh h1 h2 h3 hlen hlt hm1 hm2
      generalize (ps ++ List.replicate d ((((0, 0, 0, 0) : EdgeV), false) : EdgeV × Bool)).length = L at *
      go_wp2_with fail
      go_end0
      obtain ⟨h1, h2, h3⟩ := unhide HH
      have e := unhide HE
      subst e
      exact ⟨rfl, _, _, _, h1, h2, h3⟩
end

section
open Go.RowKit Go.Maps
/-- Nothing stands at k. -/
theorem takenNoE [Inhabited EntI] {t hp : Nat} {v : Value} {most : Int} {ps : List (EdgeV × Bool)} {ms : List EntI} {n : Nat} {G : Nat → Prop} (k : Int) (w : World) (h : TAtE w t hp v most ps ms n G) (hk : ∀ (i : Nat) a, k = (i : Int) + 1 → ps[i]? ≠ some (a, true)) :
    Calls Tryz.prog 118 #[.pointer (some ⟨t, 0, none⟩), .int .i64 k] w fun e w' => e = .returned (.bool false) ∧ w' = w := by
  by_cases h1 : k < 1 ∨ (ps.length : Int) < k
  · exact takenOutE k w h h1
  · obtain ⟨i, rfl⟩ : ∃ i : Nat, k = (i : Int) + 1 := ⟨(k - 1).toNat, by omega⟩
    obtain ⟨a, b, hi⟩ := at_of_lt (ps := ps) (i := i) (by omega)
    cases b with
    | true => exact absurd hi (hk i a rfl)
    | false => exact takenAtE i w h hi

set_option maxHeartbeats 1000000 in
set_option maxRecDepth 100000 in
theorem freeE [Inhabited EntI] {t hp : Nat} {v : Value} {most : Int} {ps : List (EdgeV × Bool)} {ms : List EntI} {n : Nat} {G : Nat → Prop} (w : World) (h : TAtE w t hp v most ps ms n G) :
    Calls Tryz.prog 94 #[.pointer (some ⟨t, 0, none⟩)] w fun e w' => ∃ r, e = .returned (.int .i64 r) ∧ Hid (FreeIs ps most r ∧ ∃ q, w' = w.drewN q) := by
  obtain ⟨c0, c1, c2, -⟩ := h.cells
  rcases Nat.eq_zero_or_pos ms.length with h0 | h0
  · obtain rfl : ms = [] := List.length_eq_zero_iff.1 h0
    have CP := hide h.on.peekNone
    have HF := hide (frees_none h.fr)
    have hl := h.len
    have ht := h.top
    obtain ⟨a, c, rfl⟩ := h.shape
    have hL : (ps.length : Int) ≤ 65536 := by omega
    by_cases hm : (ps.length : Int) = most
    · have HR : Hid (FreeIs ps most 0) := .inr ⟨unhide HF, .inl ⟨hm, rfl⟩⟩
      subst hm
      generalize ps.length = L at *
      clear h HF hl ht h0
      go_enter Tryz.func94, Tryz.ntmps94
      go_wp2_with fail
      refine (unhide CP).mono ?_
      rintro e w2 ⟨rfl, rfl⟩
      clear CP
      go_wp2_with fail
      go_quiet (fail)
      go_wp2_with fail
      go_ret
      exact ⟨0, rfl, unhide HR, _, rfl⟩
    · have HR : Hid (FreeIs ps most ((ps.length : Int) + 1)) := .inr ⟨unhide HF, .inr ⟨hm, rfl⟩⟩
      have hm2 : ((ps.length : Int) == most) = false := by simpa using hm
      generalize ps.length = L at *
      clear h HF hl ht h0
      go_enter Tryz.func94, Tryz.ntmps94
      go_wp2_with fail
      refine (unhide CP).mono ?_
      rintro e w2 ⟨rfl, rfl⟩
      clear CP
      go_wp2_with fail
      go_quiet (fail)
      go_wp2_with fail
      go_ret
      exact ⟨_, rfl, unhide HR, _, rfl⟩
  · have CP := hide (h.on.peek h0)
    have HF := hide h.fr
    clear h h0
    go_enter Tryz.func94, Tryz.ntmps94
    go_wp2_with fail
    refine (unhide CP).mono ?_
    rintro e w2 ⟨x, hx, rfl, hle, q, rfl⟩
    have HR : Hid (FreeIs ps most x.key) := .inl (frees_first (unhide HF) hx hle)
    clear CP hx hle
    go_wp2_with fail
    go_ret
    exact ⟨_, rfl, unhide HR, _, rfl⟩

/-- An edge's four cells, as a value. -/
theorem load34 (w : World) (g : Nat) (a b c d : Value) (h : w.heap[g]? = some (.cells #[a, b, c, d] 64 (0, 0))) : (loadVar 64 ⟨g, 0, none⟩).run Tryz.prog w = .ok (.agg #[a, b, c, d]) w :=
  run_loadVar_mid (P := Tryz.prog) w g 0 64 [a, b, c, d] _ (fun j v hj => by
    match j with
    | 0 => simp at hj; subst hj; exact (cell_of_row _ _ 0 _ 64 (0, 0) h).trans rfl
    | 1 => simp at hj; subst hj; exact (cell_of_row _ _ 1 _ 64 (0, 0) h).trans rfl
    | 2 => simp at hj; subst hj; exact (cell_of_row _ _ 2 _ 64 (0, 0) h).trans rfl
    | 3 => simp at hj; subst hj; exact (cell_of_row _ _ 3 _ 64 (0, 0) h).trans rfl
    | j + 4 => simp at hj) Tryz.underlying64 rfl (by kernel_rfl)
theorem resE {fn : Func} {p u : Tmp} (h : fn.results = #[.cell p 64, .tmp u]) (tmps : Array Value) (w : World) (g : Nat) (a b c d : Value) (hp : tmps.getD p undef = .pointer (some ⟨g, 0, none⟩)) (hg : w.heap[g]? = some (.cells #[a, b, c, d] 64 (0, 0))) :
    (results fn tmps).run Tryz.prog w = .ok (.tuple #[.agg #[a, b, c, d], tmps.getD u undef]) w := by
  rw [results_cell_tmp h, hp]
  simp only [asAddr, Sem.run_pure, Result.andThen_ok, load34 w g a b c d hg]
/-- The four cells of a result, written. -/
def set4 (w : World) (g : Nat) (a b c d : Value) : World := (((w.setCell ⟨g, 0, none⟩ a).setCell ⟨g, 1, none⟩ b).setCell ⟨g, 2, none⟩ c).setCell ⟨g, 3, none⟩ d
theorem set4_at {w : World} {g : Nat} {x0 x1 x2 x3 : Value} (h : w.heap[g]? = some (.cells #[x0, x1, x2, x3] 64 (0, 0))) (a b c d : Value) : (set4 w g a b c d).heap[g]? = some (.cells #[a, b, c, d] 64 (0, 0)) := by
  have e0 : (w.setCell ⟨g, 0, none⟩ a).heap[g]? = some (.cells #[a, x1, x2, x3] 64 (0, 0)) := by rw [heap_setCell_same _ _ _ _ _ _ h]; rfl
  have e1 : ((w.setCell ⟨g, 0, none⟩ a).setCell ⟨g, 1, none⟩ b).heap[g]? = some (.cells #[a, b, x2, x3] 64 (0, 0)) := by rw [heap_setCell_same _ _ _ _ _ _ e0]; rfl
  have e2 : (((w.setCell ⟨g, 0, none⟩ a).setCell ⟨g, 1, none⟩ b).setCell ⟨g, 2, none⟩ c).heap[g]? = some (.cells #[a, b, c, x3] 64 (0, 0)) := by rw [heap_setCell_same _ _ _ _ _ _ e1]; rfl
  unfold set4
  rw [heap_setCell_same _ _ _ _ _ _ e2]; rfl
theorem set4_below {w0 w : World} {g B : Nat} (h : Below B w0 w) (hg : B ≤ g) (a b c d : Value) : Below B w0 (set4 w g a b c d) :=
  (((h.setCell (p := ⟨g, 0, none⟩) hg a).setCell (p := ⟨g, 1, none⟩) hg b).setCell (p := ⟨g, 2, none⟩) hg c).setCell (p := ⟨g, 3, none⟩) hg d
def o34 : Obj := .cells #[.int .i64 0, .int .i64 0, .int .i64 0, .int .u32 0] 64 (0, 0)

set_option maxHeartbeats 1000000 in
set_option maxRecDepth 100000 in
theorem atNoE [Inhabited EntI] {t hp : Nat} {v : Value} {most : Int} {ps : List (EdgeV × Bool)} {ms : List EntI} {n : Nat} {G : Nat → Prop} (k : Int) (w : World) (h : TAtE w t hp v most ps ms n G) (hk : ∀ (i : Nat) a, k = (i : Int) + 1 → ps[i]? ≠ some (a, true)) :
    Calls Tryz.prog 100 #[.pointer (some ⟨t, 0, none⟩), .int .i64 k] w fun e w' => e = .returned (.tuple #[.agg #[.int .i64 0, .int .i64 0, .int .i64 0, .int .u32 0], .bool false]) ∧ Below w.heap.size w w' := by
  have CT := hide (takenNoE k (w.alloc o34) (h.kept (fun j hj => heap_alloc_old _ _ (h.lt hj))) hk)
  have hg : (w.alloc o34).heap[w.heap.size]? = some o34 := heap_alloc_new _ _
  have HB : Hid (Below w.heap.size w (w.alloc o34)) := (Below.refl _ _).alloc (Nat.le_refl _) _
  have HG := hide hg
  have g0 : (w.alloc o34).cell? ⟨w.heap.size, 0, none⟩ = some (.int .i64 0) := (cell_of_row _ _ 0 _ 64 (0, 0) hg).trans rfl
  have g1 : (w.alloc o34).cell? ⟨w.heap.size, 1, none⟩ = some (.int .i64 0) := (cell_of_row _ _ 1 _ 64 (0, 0) hg).trans rfl
  have g2 : (w.alloc o34).cell? ⟨w.heap.size, 2, none⟩ = some (.int .i64 0) := (cell_of_row _ _ 2 _ 64 (0, 0) hg).trans rfl
  have g3 : (w.alloc o34).cell? ⟨w.heap.size, 3, none⟩ = some (.int .u32 0) := (cell_of_row _ _ 3 _ 64 (0, 0) hg).trans rfl
  have gf : ∀ o, (w.alloc o34).frozen? ⟨w.heap.size, o, none⟩ = false := fun o => frozen_of_row _ _ o _ _ hg
  clear h hk hg
  go_enter Tryz.func100, Tryz.ntmps100
  go_upto_region 1 with fail
  change Code.wp _ _ _ _ (w.alloc o34)
  generalize w.alloc o34 = w1 at *
  generalize hb : w.heap.size = b at *
  go_wp2_with fail
  refine (unhide CT).mono ?_
  rintro e w2 ⟨rfl, rfl⟩
  clear CT
  go_wp2_with fail
  (try simp only [Exit.inBlock, Exit.then])
  change bodyPost _ _ _ _ _ (set4 w2 b _ _ _ _)
  refine bodyPost_ret (resE rfl _ _ b _ _ _ _ rfl (set4_at (unhide HG) _ _ _ _)) rfl ?_
  exact ⟨rfl, by rw [hb]; exact set4_below (unhide HB) (Nat.le_refl _) _ _ _ _⟩

set_option maxHeartbeats 1000000 in
set_option maxRecDepth 100000 in
theorem atYesE [Inhabited EntI] {t hp : Nat} {v : Value} {most : Int} {ps : List (EdgeV × Bool)} {ms : List EntI} {n : Nat} {G : Nat → Prop} {a : EdgeV} (i : Nat) (w : World) (h : TAtE w t hp v most ps ms n G) (hi : ps[i]? = some (a, true)) :
    Calls Tryz.prog 100 #[.pointer (some ⟨t, 0, none⟩), .int .i64 ((i : Int) + 1)] w fun e w' => e = .returned (.tuple #[.agg #[.int .i64 (a).1, .int .i64 (a).2.1, .int .i64 (a).2.2.1, .int .u32 (a).2.2.2], .bool true]) ∧ Below w.heap.size w w' := by
  have h' := h.kept (w' := w.alloc o34) (fun j hj => heap_alloc_old _ _ (h.lt hj))
  have CT := hide (takenAtE i (w.alloc o34) h' hi)
  obtain ⟨-, c1, -, -⟩ := h'.cells
  have hil := lt_of_at hi
  obtain ⟨g, c, rfl, -, -, hc⟩ := h'.some_ (by omega)
  obtain ⟨d1, d2, d3, d4⟩ := (hc i a true hi).1
  have hl := h.len
  have ht := h.top
  generalize ps.length = L at *
  have h3 : (i : Int) < (L : Int) := by omega
  have h4 : (L : Int) ≤ 65536 := by omega
  have hg : (w.alloc o34).heap[w.heap.size]? = some o34 := heap_alloc_new _ _
  have HB : Hid (Below w.heap.size w (w.alloc o34)) := (Below.refl _ _).alloc (Nat.le_refl _) _
  have HG := hide hg
  have g0 : (w.alloc o34).cell? ⟨w.heap.size, 0, none⟩ = some (.int .i64 0) := (cell_of_row _ _ 0 _ 64 (0, 0) hg).trans rfl
  have g1 : (w.alloc o34).cell? ⟨w.heap.size, 1, none⟩ = some (.int .i64 0) := (cell_of_row _ _ 1 _ 64 (0, 0) hg).trans rfl
  have g2 : (w.alloc o34).cell? ⟨w.heap.size, 2, none⟩ = some (.int .i64 0) := (cell_of_row _ _ 2 _ 64 (0, 0) hg).trans rfl
  have g3 : (w.alloc o34).cell? ⟨w.heap.size, 3, none⟩ = some (.int .u32 0) := (cell_of_row _ _ 3 _ 64 (0, 0) hg).trans rfl
  have gf : ∀ o, (w.alloc o34).frozen? ⟨w.heap.size, o, none⟩ = false := fun o => frozen_of_row _ _ o _ _ hg
  clear h h' hc hi hl ht hil hg
  go_enter Tryz.func100, Tryz.ntmps100
  go_upto_region 1 with fail
  change Code.wp _ _ _ _ (w.alloc o34)
  generalize w.alloc o34 = w1 at *
  generalize hb : w.heap.size = b at *
  go_wp2_with fail
  refine (unhide CT).mono ?_
  rintro e w2 ⟨rfl, rfl⟩
  clear CT
  go_wp2_with fail
  (try simp only [Exit.inBlock, Exit.then])
  change bodyPost _ _ _ _ _ (set4 w2 b _ _ _ _)
  refine bodyPost_ret (resE rfl _ _ b _ _ _ _ rfl (set4_at (unhide HG) _ _ _ _)) rfl ?_
  exact ⟨rfl, by rw [hb]; exact set4_below (unhide HB) (Nat.le_refl _) _ _ _ _⟩
end

end Go.Proofs.YtagibmgbjhemkaaGreat
