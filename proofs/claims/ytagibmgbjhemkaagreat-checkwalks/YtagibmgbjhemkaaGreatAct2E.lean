/- Drop and New over a table of edges. -/
import Derived.Test.YtagibmgbjhemkaaGreatGrowE
import Derived.Laws.ResultCell
import Derived.Deep.MidRow
import Derived.Deep.CutRange
namespace Go.Proofs.YtagibmgbjhemkaaGreat

section
open Go.RowKit Go.Maps
set_option maxHeartbeats 1000000 in
set_option maxRecDepth 100000 in
theorem growToE [Inhabited EntI] {t hp : Nat} {v : Value} {most : Int} {ps : List (EdgeV × Bool)} {ms : List EntI} {n : Nat} {G : Nat → Prop} (k : Nat) (w : World) (h : TAtE w t hp v most ps ms n G) (hk : (k : Int) ≤ most) (hn : n ≤ 1000000000) :
    Calls Tryz.prog 120 #[.pointer (some ⟨t, 0, none⟩), .int .i64 k] w fun e w' => e = .returned (.tuple #[]) ∧ Hid (∃ v' ms' G', TAtE w' t hp v' most (ps ++ List.replicate (k - ps.length) (((0, 0, 0, 0) : EdgeV), false)) ms' (n + (k - ps.length)) G' ∧ Turned (Feet t v G) w w' ∧ ∀ j, Feet t v' G' j → Feet t v G j ∨ w.heap.size ≤ j) := by
  have HK := hide hk; have HN := hide hn; have HT := hide h; clear h hk hn
  go_enter Tryz.func120, Tryz.ntmps120
  go_wp2_with fail
  go_loopw [8] (fun _ wr => ∃ (d : Nat) (v' : Value) (ms' : List EntI) (G' : Nat → Prop), Hid (d ≤ k - ps.length) ∧ Hid (TAtE wr t hp v' most (ps ++ List.replicate d (((0, 0, 0, 0) : EdgeV), false)) ms' (n + d) G' ∧ Turned (Feet t v G) w wr ∧ ∀ j, Feet t v' G' j → Feet t v G j ∨ w.heap.size ≤ j)) (fun _ wr => k - plen wr t)
  case atStart => exact ⟨0, v, ms, G, Nat.zero_le _, by simpa using unhide HT, Turned.refl _ _, fun j hj => .inl hj⟩
  case round =>
    obtain ⟨d, v', ms', G', hd, hh⟩ := hrel; obtain ⟨h1, h2, h3⟩ := unhide hh; have hlen : (ps ++ List.replicate d ((((0, 0, 0, 0) : EdgeV), false) : EdgeV × Bool)).length = ps.length + d := by simp
    obtain ⟨-, c1, -, cf⟩ := h1.cells; obtain ⟨a, c, rfl⟩ := h1.shape; have hm1 := h1.len; have hm2 := h1.top; have HPL := hide (plen_of c1)
    by_cases hlt : (ps ++ List.replicate d ((((0, 0, 0, 0) : EdgeV), false) : EdgeV × Bool)).length < k
    · have hltm : ((ps ++ List.replicate d ((((0, 0, 0, 0) : EdgeV), false) : EdgeV × Bool)).length : Int) < most := by have := unhide HK; omega
      obtain ⟨g, c', w', hr, e2, ⟨u, e1⟩, ef, box, row, on, hgt, hgG, hgo, ht⟩ := growMemE h1 hltm; have hnot : ∀ x ∈ ms', x.key ≠ ((ps ++ List.replicate d ((((0, 0, 0, 0) : EdgeV), false) : EdgeV × Bool)).length : Int) + 1 := frees_not h1.fr (fun a e => by have := lt_of_at e; omega)
      have hml : ms'.length ≤ 65536 := by have := h1.fr.cnt; omega
      have HQ : Hid (∀ w3 G3, OnI w3 hp G3 (ms' ++ [⟨((ps ++ List.replicate d ((((0, 0, 0, 0) : EdgeV), false) : EdgeV × Bool)).length : Int) + 1, ((ps ++ List.replicate d ((((0, 0, 0, 0) : EdgeV), false) : EdgeV × Bool)).length : Int) + 1, n + d⟩]) (n + d + 1) → Turned G' (w'.setCell ⟨t, 1, none⟩ (.slice (some ⟨g, 0, none⟩) ((ps ++ List.replicate d ((((0, 0, 0, 0) : EdgeV), false) : EdgeV × Bool)).length + 1) c')) w3 → (∀ j, G3 j → G' j ∨ (w'.setCell ⟨t, 1, none⟩ (.slice (some ⟨g, 0, none⟩) ((ps ++ List.replicate d ((((0, 0, 0, 0) : EdgeV), false) : EdgeV × Bool)).length + 1) c')).heap.size ≤ j) → _) := fun w3 G3 => grownE h1 hltm box row hgt hgG hgo ht
      have CP : Hid (∀ q, Calls Tryz.prog 106 #[.pointer (some ⟨hp, 0, none⟩), .int .i64 (((ps ++ List.replicate d ((((0, 0, 0, 0) : EdgeV), false) : EdgeV × Bool)).length : Int) + 1), .int .i64 (((ps ++ List.replicate d ((((0, 0, 0, 0) : EdgeV), false) : EdgeV × Bool)).length : Int) + 1)] ((w'.setCell ⟨t, 1, none⟩ (.slice (some ⟨g, 0, none⟩) ((ps ++ List.replicate d ((((0, 0, 0, 0) : EdgeV), false) : EdgeV × Bool)).length + 1) c')).drewN q) fun e w3 => e = .returned (.bool true) ∧ Hid (∃ G3, OnI w3 hp G3 (ms' ++ [⟨((ps ++ List.replicate d ((((0, 0, 0, 0) : EdgeV), false) : EdgeV × Bool)).length : Int) + 1, ((ps ++ List.replicate d ((((0, 0, 0, 0) : EdgeV), false) : EdgeV × Bool)).length : Int) + 1, n + d⟩]) (n + d + 1) ∧ Turned G' (w'.setCell ⟨t, 1, none⟩ (.slice (some ⟨g, 0, none⟩) ((ps ++ List.replicate d ((((0, 0, 0, 0) : EdgeV), false) : EdgeV × Bool)).length + 1) c')) w3 ∧ ∀ j, G3 j → G' j ∨ (w'.setCell ⟨t, 1, none⟩ (.slice (some ⟨g, 0, none⟩) ((ps ++ List.replicate d ((((0, 0, 0, 0) : EdgeV), false) : EdgeV × Bool)).length + 1) c')).heap.size ≤ j)) := fun q => by
        refine ((on.kept (w' := (w'.setCell ⟨t, 1, none⟩ (.slice (some ⟨g, 0, none⟩) ((ps ++ List.replicate d ((((0, 0, 0, 0) : EdgeV), false) : EdgeV × Bool)).length + 1) c')).drewN q) (fun _ _ => rfl)).push _ _ (key_fit _ (by omega)) hnot (by omega) (by have := unhide HN; have := unhide hd; omega)).mono ?_
        rintro e w3 ⟨he, F', g1, g2, g3⟩
        exact ⟨he, F', g1, ⟨g2.os, g2.tape, g2.output, g2.size, g2.block⟩, g3⟩
      have d1 : (w'.setCell ⟨t, 1, none⟩ (.slice (some ⟨g, 0, none⟩) ((ps ++ List.replicate d ((((0, 0, 0, 0) : EdgeV), false) : EdgeV × Bool)).length + 1) c')).cell? ⟨t, 1, none⟩ = some (.slice (some ⟨g, 0, none⟩) ((ps ++ List.replicate d ((((0, 0, 0, 0) : EdgeV), false) : EdgeV × Bool)).length + 1) c') := by rw [cell_of_row _ t _ _ _ _ box]; rfl
      have d2 : (w'.setCell ⟨t, 1, none⟩ (.slice (some ⟨g, 0, none⟩) ((ps ++ List.replicate d ((((0, 0, 0, 0) : EdgeV), false) : EdgeV × Bool)).length + 1) c')).cell? ⟨t, 2, none⟩ = some (.pointer (some ⟨hp, 0, none⟩)) := by rw [cell_of_row _ t _ _ _ _ box]; rfl
      have HR := hide hr; have HLN := hide hlen; have HH2 := hide (And.intro h2 h3); have hltz : ((ps ++ List.replicate d ((((0, 0, 0, 0) : EdgeV), false) : EdgeV × Bool)).length : Int) < (k : Int) := by omega
      have hl6 : ((ps ++ List.replicate d ((((0, 0, 0, 0) : EdgeV), false) : EdgeV × Bool)).length : Int) ≤ 65536 := by omega
      clear hlen hh h1 h2 h3 hr hnot hml box row on hgt hgG hgo ht hm1 hm2 hltm cf; generalize (ps ++ List.replicate d ((((0, 0, 0, 0) : EdgeV), false) : EdgeV × Bool)).length = L at *
      go_wp2_with (at_builtin; refine Lib.wpList_append_run _ rfl _ _ 164 164 rfl (.slice a L c) (.slice (some ⟨wr.heap.size, 0, none⟩) 1 1) rfl rfl _ _ HR.out ?_)
      generalize (w'.setCell ⟨t, 1, none⟩ (.slice (some ⟨g, 0, none⟩) (L + 1) c')) = w2 at *; refine region_still_tail 14 mixed (by kernel_rfl) ?_
      simp only [List.take_succ_cons, List.take_zero, List.drop_succ_cons, List.drop_zero]
      repeat still_step
      refine wpStill_nil ?_
      go_wp2_with fail
      refine (unhide CP 1).mono ?_
      rintro e w3 ⟨rfl, h3⟩
      obtain ⟨G3, o1, o2, o3⟩ := unhide h3; have HQ3 := hide (unhide HQ w3 G3 o1 o2 o3); clear CP HQ h3 o1 o2 o3
      go_wp2_with fail
      go_roundw
      case rel =>
        obtain ⟨q1, q2, q3⟩ := unhide HQ3; obtain ⟨p2, p3⟩ := unhide HH2; rw [List.append_assoc, ← List.replicate_succ'] at q1; have l1 : d + 1 ≤ k - ps.length := by have := unhide HLN; omega
        exact ⟨d + 1, _, _, G3, l1, q1, p2.then_ q2 (fun i hi hf => (p3 i hf).elim id (fun e => by omega)), fun j hj => (q3 j hj).elim (p3 j) (fun e => .inr (Nat.le_trans p2.size e))⟩
      case measure =>
        obtain ⟨q1, -, -⟩ := unhide HQ3; have := plen_of q1.cells.2.1; rw [this, unhide HPL]; omega
    · have hltz : ¬ ((ps ++ List.replicate d ((((0, 0, 0, 0) : EdgeV), false) : EdgeV × Bool)).length : Int) < (k : Int) := by omega
      have HE : Hid (d = k - ps.length) := by show d = _; have := unhide hd; omega
      have HH := hide (And.intro h1 (And.intro h2 h3)); clear hh h1 h2 h3 hlen hlt hm1 hm2; generalize (ps ++ List.replicate d ((((0, 0, 0, 0) : EdgeV), false) : EdgeV × Bool)).length = L at *
      go_wp2_with fail
      go_end0
      obtain ⟨h1, h2, h3⟩ := unhide HH; have e := unhide HE; subst e; exact ⟨rfl, _, _, _, h1, h2, h3⟩
end

section
open Go.RowKit Go.Maps
theorem takenNoE [Inhabited EntI] {t hp : Nat} {v : Value} {most : Int} {ps : List (EdgeV × Bool)} {ms : List EntI} {n : Nat} {G : Nat → Prop} (k : Int) (w : World) (h : TAtE w t hp v most ps ms n G) (hk : ∀ (i : Nat) a, k = (i : Int) + 1 → ps[i]? ≠ some (a, true)) :
    Calls Tryz.prog 118 #[.pointer (some ⟨t, 0, none⟩), .int .i64 k] w fun e w' => e = .returned (.bool false) ∧ w' = w := by
  by_cases h1 : k < 1 ∨ (ps.length : Int) < k
  · exact takenOutE k w h h1
  · obtain ⟨i, rfl⟩ : ∃ i : Nat, k = (i : Int) + 1 := ⟨(k - 1).toNat, by omega⟩
    obtain ⟨a, b, hi⟩ := at_of_lt (ps := ps) (i := i) (by omega)
    cases b with
    | true => exact absurd hi (hk i a rfl)
    | false => exact takenAtE i w h hi
set_option maxHeartbeats 1000000 in
set_option maxRecDepth 100000 in
theorem freeE [Inhabited EntI] {t hp : Nat} {v : Value} {most : Int} {ps : List (EdgeV × Bool)} {ms : List EntI} {n : Nat} {G : Nat → Prop} (w : World) (h : TAtE w t hp v most ps ms n G) :
    Calls Tryz.prog 94 #[.pointer (some ⟨t, 0, none⟩)] w fun e w' => ∃ r, e = .returned (.int .i64 r) ∧ Hid (FreeIs ps most r ∧ ∃ q, w' = w.drewN q) := by
  obtain ⟨c0, c1, c2, -⟩ := h.cells; rcases Nat.eq_zero_or_pos ms.length with h0 | h0
  · obtain rfl : ms = [] := List.length_eq_zero_iff.1 h0; have CP := hide h.on.peekNone; have HF := hide (frees_none h.fr); have hl := h.len; have ht := h.top; obtain ⟨a, c, rfl⟩ := h.shape; have hL : (ps.length : Int) ≤ 65536 := by omega
    by_cases hm : (ps.length : Int) = most
    · have HR : Hid (FreeIs ps most 0) := .inr ⟨unhide HF, .inl ⟨hm, rfl⟩⟩; subst hm; generalize ps.length = L at *; clear h HF hl ht h0
      go_enter Tryz.func94, Tryz.ntmps94
      go_wp2_with fail
      refine (unhide CP).mono ?_
      rintro e w2 ⟨rfl, rfl⟩
      clear CP
      go_wp2_with fail
      go_quiet (fail)
      go_wp2_with fail
      go_ret
      exact ⟨0, rfl, unhide HR, _, rfl⟩
    · have HR : Hid (FreeIs ps most ((ps.length : Int) + 1)) := .inr ⟨unhide HF, .inr ⟨hm, rfl⟩⟩; have hm2 : ((ps.length : Int) == most) = false := by simpa using hm
      generalize ps.length = L at *; clear h HF hl ht h0
      go_enter Tryz.func94, Tryz.ntmps94
      go_wp2_with fail
      refine (unhide CP).mono ?_
      rintro e w2 ⟨rfl, rfl⟩
      clear CP
      go_wp2_with fail
      go_quiet (fail)
      go_wp2_with fail
      go_ret
      exact ⟨_, rfl, unhide HR, _, rfl⟩
  · have CP := hide (h.on.peek h0); have HF := hide h.fr; clear h h0
    go_enter Tryz.func94, Tryz.ntmps94
    go_wp2_with fail
    refine (unhide CP).mono ?_
    rintro e w2 ⟨x, hx, rfl, hle, q, rfl⟩
    have HR : Hid (FreeIs ps most x.key) := .inl (frees_first (unhide HF) hx hle); clear CP hx hle
    go_wp2_with fail
    go_ret
    exact ⟨_, rfl, unhide HR, _, rfl⟩
theorem load34 (w : World) (g : Nat) (a b c d : Value) (h : w.heap[g]? = some (.cells #[a, b, c, d] 64 (0, 0))) : (loadVar 64 ⟨g, 0, none⟩).run Tryz.prog w = .ok (.agg #[a, b, c, d]) w :=
  run_loadVar_mid (P := Tryz.prog) w g 0 64 [a, b, c, d] _ (fun j v hj => by
    match j with
    | 0 => simp at hj; subst hj; exact (cell_of_row _ _ 0 _ 64 (0, 0) h).trans rfl
    | 1 => simp at hj; subst hj; exact (cell_of_row _ _ 1 _ 64 (0, 0) h).trans rfl
    | 2 => simp at hj; subst hj; exact (cell_of_row _ _ 2 _ 64 (0, 0) h).trans rfl
    | 3 => simp at hj; subst hj; exact (cell_of_row _ _ 3 _ 64 (0, 0) h).trans rfl
    | j + 4 => simp at hj) Tryz.underlying64 rfl (by kernel_rfl)
theorem resE {fn : Func} {p u : Tmp} (h : fn.results = #[.cell p 64, .tmp u]) (tmps : Array Value) (w : World) (g : Nat) (a b c d : Value) (hp : tmps.getD p undef = .pointer (some ⟨g, 0, none⟩)) (hg : w.heap[g]? = some (.cells #[a, b, c, d] 64 (0, 0))) :
    (results fn tmps).run Tryz.prog w = .ok (.tuple #[.agg #[a, b, c, d], tmps.getD u undef]) w := by
  rw [results_cell_tmp h, hp]; simp only [asAddr, Sem.run_pure, Result.andThen_ok, load34 w g a b c d hg]
def set4 (w : World) (g : Nat) (a b c d : Value) : World := (((w.setCell ⟨g, 0, none⟩ a).setCell ⟨g, 1, none⟩ b).setCell ⟨g, 2, none⟩ c).setCell ⟨g, 3, none⟩ d
theorem set4_at {w : World} {g : Nat} {x0 x1 x2 x3 : Value} (h : w.heap[g]? = some (.cells #[x0, x1, x2, x3] 64 (0, 0))) (a b c d : Value) : (set4 w g a b c d).heap[g]? = some (.cells #[a, b, c, d] 64 (0, 0)) := by
  have e0 : (w.setCell ⟨g, 0, none⟩ a).heap[g]? = some (.cells #[a, x1, x2, x3] 64 (0, 0)) := by rw [heap_setCell_same _ _ _ _ _ _ h]; rfl
  have e1 : ((w.setCell ⟨g, 0, none⟩ a).setCell ⟨g, 1, none⟩ b).heap[g]? = some (.cells #[a, b, x2, x3] 64 (0, 0)) := by rw [heap_setCell_same _ _ _ _ _ _ e0]; rfl
  have e2 : (((w.setCell ⟨g, 0, none⟩ a).setCell ⟨g, 1, none⟩ b).setCell ⟨g, 2, none⟩ c).heap[g]? = some (.cells #[a, b, c, x3] 64 (0, 0)) := by rw [heap_setCell_same _ _ _ _ _ _ e1]; rfl
  unfold set4; rw [heap_setCell_same _ _ _ _ _ _ e2]; rfl
theorem set4_below {w0 w : World} {g B : Nat} (h : Below B w0 w) (hg : B ≤ g) (a b c d : Value) : Below B w0 (set4 w g a b c d) :=
  (((h.setCell (p := ⟨g, 0, none⟩) hg a).setCell (p := ⟨g, 1, none⟩) hg b).setCell (p := ⟨g, 2, none⟩) hg c).setCell (p := ⟨g, 3, none⟩) hg d
def o34 : Obj := .cells #[.int .i64 0, .int .i64 0, .int .i64 0, .int .u32 0] 64 (0, 0)
set_option maxHeartbeats 1000000 in
set_option maxRecDepth 100000 in
theorem atNoE [Inhabited EntI] {t hp : Nat} {v : Value} {most : Int} {ps : List (EdgeV × Bool)} {ms : List EntI} {n : Nat} {G : Nat → Prop} (k : Int) (w : World) (h : TAtE w t hp v most ps ms n G) (hk : ∀ (i : Nat) a, k = (i : Int) + 1 → ps[i]? ≠ some (a, true)) :
    Calls Tryz.prog 100 #[.pointer (some ⟨t, 0, none⟩), .int .i64 k] w fun e w' => e = .returned (.tuple #[.agg #[.int .i64 0, .int .i64 0, .int .i64 0, .int .u32 0], .bool false]) ∧ Below w.heap.size w w' := by
  have CT := hide (takenNoE k (w.alloc o34) (h.kept (fun j hj => heap_alloc_old _ _ (h.lt hj))) hk)
  have hg : (w.alloc o34).heap[w.heap.size]? = some o34 := heap_alloc_new _ _; have HB : Hid (Below w.heap.size w (w.alloc o34)) := (Below.refl _ _).alloc (Nat.le_refl _) _; have HG := hide hg; have g0 : (w.alloc o34).cell? ⟨w.heap.size, 0, none⟩ = some (.int .i64 0) := (cell_of_row _ _ 0 _ 64 (0, 0) hg).trans rfl; have g1 : (w.alloc o34).cell? ⟨w.heap.size, 1, none⟩ = some (.int .i64 0) := (cell_of_row _ _ 1 _ 64 (0, 0) hg).trans rfl; have g2 : (w.alloc o34).cell? ⟨w.heap.size, 2, none⟩ = some (.int .i64 0) := (cell_of_row _ _ 2 _ 64 (0, 0) hg).trans rfl; have g3 : (w.alloc o34).cell? ⟨w.heap.size, 3, none⟩ = some (.int .u32 0) := (cell_of_row _ _ 3 _ 64 (0, 0) hg).trans rfl; have gf : ∀ o, (w.alloc o34).frozen? ⟨w.heap.size, o, none⟩ = false := fun o => frozen_of_row _ _ o _ _ hg
  clear h hk hg
  go_enter Tryz.func100, Tryz.ntmps100
  go_upto_region 1 with fail
  change Code.wp _ _ _ _ (w.alloc o34); generalize w.alloc o34 = w1 at *; generalize hb : w.heap.size = b at *
  go_wp2_with fail
  refine (unhide CT).mono ?_
  rintro e w2 ⟨rfl, rfl⟩
  clear CT
  go_wp2_with fail
  (try simp only [Exit.inBlock, Exit.then])
  change bodyPost _ _ _ _ _ (set4 w2 b _ _ _ _); refine bodyPost_ret (resE rfl _ _ b _ _ _ _ rfl (set4_at (unhide HG) _ _ _ _)) rfl ?_; exact ⟨rfl, by rw [hb]; exact set4_below (unhide HB) (Nat.le_refl _) _ _ _ _⟩
set_option maxHeartbeats 1000000 in
set_option maxRecDepth 100000 in
theorem atYesE [Inhabited EntI] {t hp : Nat} {v : Value} {most : Int} {ps : List (EdgeV × Bool)} {ms : List EntI} {n : Nat} {G : Nat → Prop} {a : EdgeV} (i : Nat) (w : World) (h : TAtE w t hp v most ps ms n G) (hi : ps[i]? = some (a, true)) :
    Calls Tryz.prog 100 #[.pointer (some ⟨t, 0, none⟩), .int .i64 ((i : Int) + 1)] w fun e w' => e = .returned (.tuple #[.agg #[.int .i64 (a).1, .int .i64 (a).2.1, .int .i64 (a).2.2.1, .int .u32 (a).2.2.2], .bool true]) ∧ Below w.heap.size w w' := by
  have h' := h.kept (w' := w.alloc o34) (fun j hj => heap_alloc_old _ _ (h.lt hj))
  have CT := hide (takenAtE i (w.alloc o34) h' hi); obtain ⟨-, c1, -, -⟩ := h'.cells; have hil := lt_of_at hi; obtain ⟨g, c, rfl, -, -, hc⟩ := h'.some_ (by omega)
  obtain ⟨d1, d2, d3, d4⟩ := (hc i a true hi).1; have hl := h.len; have ht := h.top; generalize ps.length = L at *; have h3 : (i : Int) < (L : Int) := by omega
  have h4 : (L : Int) ≤ 65536 := by omega
  have hg : (w.alloc o34).heap[w.heap.size]? = some o34 := heap_alloc_new _ _; have HB : Hid (Below w.heap.size w (w.alloc o34)) := (Below.refl _ _).alloc (Nat.le_refl _) _; have HG := hide hg; have g0 : (w.alloc o34).cell? ⟨w.heap.size, 0, none⟩ = some (.int .i64 0) := (cell_of_row _ _ 0 _ 64 (0, 0) hg).trans rfl; have g1 : (w.alloc o34).cell? ⟨w.heap.size, 1, none⟩ = some (.int .i64 0) := (cell_of_row _ _ 1 _ 64 (0, 0) hg).trans rfl; have g2 : (w.alloc o34).cell? ⟨w.heap.size, 2, none⟩ = some (.int .i64 0) := (cell_of_row _ _ 2 _ 64 (0, 0) hg).trans rfl; have g3 : (w.alloc o34).cell? ⟨w.heap.size, 3, none⟩ = some (.int .u32 0) := (cell_of_row _ _ 3 _ 64 (0, 0) hg).trans rfl; have gf : ∀ o, (w.alloc o34).frozen? ⟨w.heap.size, o, none⟩ = false := fun o => frozen_of_row _ _ o _ _ hg
  clear h h' hc hi hl ht hil hg
  go_enter Tryz.func100, Tryz.ntmps100
  go_upto_region 1 with fail
  change Code.wp _ _ _ _ (w.alloc o34); generalize w.alloc o34 = w1 at *; generalize hb : w.heap.size = b at *
  go_wp2_with fail
  refine (unhide CT).mono ?_
  rintro e w2 ⟨rfl, rfl⟩
  clear CT
  go_wp2_with fail
  (try simp only [Exit.inBlock, Exit.then])
  change bodyPost _ _ _ _ _ (set4 w2 b _ _ _ _); refine bodyPost_ret (resE rfl _ _ b _ _ _ _ rfl (set4_at (unhide HG) _ _ _ _)) rfl ?_; exact ⟨rfl, by rw [hb]; exact set4_below (unhide HB) (Nat.le_refl _) _ _ _ _⟩
end

section
open Go.RowKit Go.Maps
def setP (w : World) (g i : Nat) (x : EdgeV) (b : Bool) : World := ((((w.setCell ⟨g, i * 5, none⟩ (.int .i64 x.1)).setCell ⟨g, i * 5 + 1, none⟩ (.int .i64 x.2.1)).setCell ⟨g, i * 5 + 2, none⟩ (.int .i64 x.2.2.1)).setCell ⟨g, i * 5 + 3, none⟩ (.int .u32 x.2.2.2)).setCell ⟨g, i * 5 + 4, none⟩ (.bool b)
structure TRawE [Inhabited EntI] (w : World) (t hp : Nat) (v : Value) (most : Int) (ps : List (EdgeV × Bool)) (ms : List EntI) (n : Nat) (G : Nat → Prop) : Prop where
  box : w.heap[t]? = some (.cells #[.int .i64 most, v, .pointer (some ⟨hp, 0, none⟩)] 166 (0, 0))
  row : w.ownsRow 0 172 5 v ps.length (encE ps)
  on : OnI w hp G ms n
  nt : ¬ G t
  nv : v.ownBlock ≠ some t
  ng : ∀ b, v.ownBlock = some b → ¬ G b
  len : (ps.length : Int) ≤ most
  top : most ≤ 65536
section
variable [Inhabited EntI] {w w' : World} {t hp : Nat} {v : Value} {most : Int} {ps : List (EdgeV × Bool)} {ms ms' : List EntI} {n n' : Nat} {G G' : Nat → Prop}
theorem TAtE.raw (h : TAtE w t hp v most ps ms n G) : TRawE w t hp v most ps ms n G := ⟨h.box, h.row, h.on, h.nt, h.nv, h.ng, h.len, h.top⟩
theorem TRawE.full (h : TRawE w t hp v most ps ms n G) (hf : Frees ps ms) : TAtE w t hp v most ps ms n G := ⟨h.box, h.row, h.on, hf, h.nt, h.nv, h.ng, h.len, h.top⟩
theorem TRawE.cells (h : TRawE w t hp v most ps ms n G) : w.cell? ⟨t, 0, none⟩ = some (.int .i64 most) ∧ w.cell? ⟨t, 1, none⟩ = some v ∧ w.cell? ⟨t, 2, none⟩ = some (.pointer (some ⟨hp, 0, none⟩)) := by
  refine ⟨?_, ?_, ?_⟩ <;> rw [cell_of_row w t _ _ _ _ h.box] <;> rfl
theorem TRawE.heap (h : TRawE w t hp v most ps ms n G) (on : OnI w' hp G' ms' n') (ht : Turned G w w') (hG : ∀ j, G' j → G j ∨ w.heap.size ≤ j) : TRawE w' t hp v most ps ms' n' G' ∧ Turned (Feet t v G) w w' ∧ ∀ j, Feet t v G' j → Feet t v G j ∨ w.heap.size ≤ j := by
  have htl := (Array.getElem?_eq_some_iff.1 h.box).1; refine ⟨⟨(ht.block t htl h.nt).trans h.box, row_kept5 h.row (fun b hb => ht.block b (h.row.lt b hb).2 (h.ng b hb)), on, fun e => ?_, h.nv, fun b hb e => ?_, h.len, h.top⟩, ht.mono (fun k _ hk => .inr (.inr hk)), fun j hj => ?_⟩
  · rcases hG t e with e | e
    · exact h.nt e
    · omega
  · rcases hG b e with e | e
    · exact h.ng b hb e
    · have := (h.row.lt b hb).2; omega
  · rcases hj with hj | hj | hj
    · exact .inl (.inl hj)
    · exact .inl (.inr (.inl hj))
    · exact (hG j hj).imp (fun e => .inr (.inr e)) id
theorem TRawE.store {g L c : Nat} (h : TRawE w t hp (.slice (some ⟨g, 0, none⟩) L c) most ps ms n G) (i : Nat) (x : EdgeV) (b : Bool) :
    TRawE (setP w g i x b) t hp (.slice (some ⟨g, 0, none⟩) L c) most (ps.set i (x, b)) ms n G ∧ Turned (Feet t (.slice (some ⟨g, 0, none⟩) L c) G) w (setP w g i x b) := by
  have hgt : t ≠ g := fun e => h.nv (by simp [Value.ownBlock, e])
  have hgG := h.ng g rfl; have hL : L = ps.length := by
    rcases h.row.2 with ⟨e, -⟩ | ⟨g', cap, cur, e, -⟩
    · cases e
    · cases e; rfl
  subst hL; have oth : ∀ k, k ≠ g → (setP w g i x b).heap[k]? = w.heap[k]? := fun k hk => by
    unfold setP; rw [heap_setCell_other _ _ _ _ hk, heap_setCell_other _ _ _ _ hk, heap_setCell_other _ _ _ _ hk, heap_setCell_other _ _ _ _ hk, heap_setCell_other _ _ _ _ hk]
  refine ⟨⟨(oth t hgt).trans h.box, ?_, h.on.kept (fun k hk => oth k (fun e => hgG (by rw [← e]; exact hk))), h.nt, h.nv, h.ng, by simpa using h.len, h.top⟩, ?_⟩
  · rw [encE_set, List.length_set]; exact (((((h.row.stored _ _).1.stored _ _).1.stored _ _).1.stored _ _).1.stored _ _).1
  · exact ((((turned_setCell _ _ _ (.inr (.inl rfl))).trans (turned_setCell _ _ _ (.inr (.inl rfl)))).trans (turned_setCell _ _ _ (.inr (.inl rfl)))).trans (turned_setCell _ _ _ (.inr (.inl rfl)))).trans (turned_setCell _ _ _ (.inr (.inl rfl)))
end
def groE (ps : List (EdgeV × Bool)) (k : Nat) : List (EdgeV × Bool) := ps ++ List.replicate (k - ps.length) (((0, 0, 0, 0) : EdgeV), false)
theorem groE_at {ps : List (EdgeV × Bool)} {i : Nat} (hk : ∀ a, ps[i]? ≠ some (a, true)) : ∃ a, (groE ps (i + 1))[i]? = some (a, false) := by
  unfold groE; rcases Nat.lt_or_ge i ps.length with h | h
  · obtain ⟨a, b, e⟩ := at_of_lt h; rw [List.getElem?_append_left h, e]
    cases b with
    | true => exact absurd e (hk a)
    | false => exact ⟨a, rfl⟩
  · refine ⟨((0, 0, 0, 0) : EdgeV), ?_⟩; rw [List.getElem?_append_right h, List.getElem?_replicate, if_pos (by omega)]
end

section
open Go.RowKit Go.Maps
def ThenE [Inhabited EntI] (w w' : World) (t hp : Nat) (v : Value) (most : Int) (ps : List (EdgeV × Bool)) (n : Nat) (G : Nat → Prop) : Prop :=
  ∃ v' ms' n' G', n' ≤ n + 65536 ∧ TAtE w' t hp v' most ps ms' n' G' ∧ Turned (Feet t v G) w w' ∧ ∀ j, Feet t v' G' j → Feet t v G j ∨ w.heap.size ≤ j
def oE (x : EdgeV) : Obj := .cells #[.int .i64 x.1, .int .i64 x.2.1, .int .i64 x.2.2.1, .int .u32 x.2.2.2] 64 (0, 0)
theorem ThenE.boxed [Inhabited EntI] {w w' : World} {t hp : Nat} {v : Value} {most : Int} {ps ps' : List (EdgeV × Bool)} {ms : List EntI} {n n0 : Nat} {G : Nat → Prop} (_ : TAtE w t hp v most ps ms n0 G) (o : Obj) (h : ThenE (w.alloc o) w' t hp v most ps' n G) : ThenE w w' t hp v most ps' n G := by
  obtain ⟨v', ms', n', G', h1, h2, h3, h4⟩ := h; have hs : (w.alloc o).heap.size = w.heap.size + 1 := by simp
  have hb : Below w.heap.size w (w.alloc o) := (Below.refl _ _).alloc (Nat.le_refl _) _; refine ⟨v', ms', n', G', h1, h2, ⟨h3.os.trans hb.os, h3.tape.trans hb.tape, h3.output.trans hb.output, Nat.le_trans hb.size h3.size, fun j hj hf => (h3.block j (by omega) hf).trans (hb.block j hj)⟩, fun j hj => (h4 j hj).imp id (fun e => by omega)⟩
set_option maxHeartbeats 1000000 in
set_option maxRecDepth 100000 in
theorem putAtNoE [Inhabited EntI] {t hp : Nat} {v : Value} {most : Int} {ps : List (EdgeV × Bool)} {ms : List EntI} {n : Nat} {G : Nat → Prop} (k : Int) (x : EdgeV) (w : World) (h : TAtE w t hp v most ps ms n G) (hk : k < 1 ∨ most < k ∨ ∃ (i : Nat) (a : EdgeV), k = (i : Int) + 1 ∧ ps[i]? = some (a, true)) :
    Calls Tryz.prog 103 #[.pointer (some ⟨t, 0, none⟩), .int .i64 k, .agg #[.int .i64 (x).1, .int .i64 (x).2.1, .int .i64 (x).2.2.1, .int .u32 (x).2.2.2]] w fun e w' => e = .returned (.bool false) ∧ Below w.heap.size w w' := by
  have h' := h.kept (w' := w.alloc (oE x)) (fun j hj => heap_alloc_old _ _ (h.lt hj))
  obtain ⟨c0, -, -, -⟩ := h'.cells; have HB : Hid (Below w.heap.size w (w.alloc (oE x))) := (Below.refl _ _).alloc (Nat.le_refl _) _; have hm := h.top; have hl := h.len
  by_cases h1 : k < 1
  · clear h h' hk hm hl
    go_enter Tryz.func103, Tryz.ntmps103
    go_upto_region 1 with fail
    change Code.wp _ _ _ _ (w.alloc (oE x)); generalize w.alloc (oE x) = wb at *
    go_wp2_with fail
    go_ret
    exact ⟨rfl, unhide HB⟩
  · by_cases h2 : most < k
    · clear h h' hk hm hl
      go_enter Tryz.func103, Tryz.ntmps103
      go_upto_region 1 with fail
      change Code.wp _ _ _ _ (w.alloc (oE x)); generalize w.alloc (oE x) = wb at *
      go_wp2_with fail
      go_ret
      exact ⟨rfl, unhide HB⟩
    · obtain ⟨i, a, rfl, hi⟩ : ∃ (i : Nat) (a : EdgeV), k = (i : Int) + 1 ∧ ps[i]? = some (a, true) := by
        rcases hk with hk | hk | hk
        · exact absurd hk h1
        · exact absurd hk h2
        · exact hk
      have CT := hide (takenAtE i (w.alloc (oE x)) h' hi); clear h h' hm hl hi hk
      go_enter Tryz.func103, Tryz.ntmps103
      go_upto_region 1 with fail
      change Code.wp _ _ _ _ (w.alloc (oE x)); generalize w.alloc (oE x) = wb at *
      go_wp2_with fail
      refine (unhide CT).mono ?_
      rintro e w2 ⟨rfl, rfl⟩
      clear CT
      go_wp2_with fail
      go_ret
      exact ⟨rfl, unhide HB⟩
set_option maxHeartbeats 1000000 in
set_option maxRecDepth 100000 in
theorem putAtYesE [Inhabited EntI] {t hp : Nat} {v : Value} {most : Int} {ps : List (EdgeV × Bool)} {ms : List EntI} {n : Nat} {G : Nat → Prop} (i : Nat) (x : EdgeV) (w : World) (h : TAtE w t hp v most ps ms n G) (hi : (i : Int) < most) (hk : ∀ a, ps[i]? ≠ some (a, true)) (hn : n ≤ 1000000000) :
    Calls Tryz.prog 103 #[.pointer (some ⟨t, 0, none⟩), .int .i64 ((i : Int) + 1), .agg #[.int .i64 (x).1, .int .i64 (x).2.1, .int .i64 (x).2.2.1, .int .u32 (x).2.2.2]] w fun e w' => e = .returned (.bool true) ∧ Hid (ThenE w w' t hp v most ((groE ps (i + 1)).set i (x, true)) n G) := by
  have h' := h.kept (w' := w.alloc (oE x)) (fun j hj => heap_alloc_old _ _ (h.lt hj))
  obtain ⟨c0, -, -, -⟩ := h'.cells; have HX : Hid (∀ w', ThenE (w.alloc (oE x)) w' t hp v most ((groE ps (i + 1)).set i (x, true)) n G → ThenE w w' t hp v most ((groE ps (i + 1)).set i (x, true)) n G) := fun w' hh => hh.boxed h _
  have HBX : Hid ((w.alloc (oE x)).heap[w.heap.size]? = some (oE x) ∧ ¬ Feet t v G w.heap.size) := ⟨heap_alloc_new _ _, fun e => by have := h.lt e; omega⟩
  have hm := h.top; have CT := hide (takenNoE ((i : Int) + 1) (w.alloc (oE x)) h' (fun j a e => by
    obtain rfl : j = i := by omega
    exact hk a))
  have CG := hide (growToE (i + 1) (w.alloc (oE x)) h' (by push_cast; omega) hn)
  have HL := hide h.len; obtain ⟨a, hia⟩ := groE_at hk; have HIA := hide hia; have h1 : ¬ (i : Int) + 1 < 1 := by omega
  have h2 : ¬ most < (i : Int) + 1 := by omega
  have HI := hide hi; have HM := hide hm; have h6 : (i : Int) < 65536 := by omega
  clear h h' hk hia hi hm
  go_enter Tryz.func103, Tryz.ntmps103
  go_upto_region 1 with fail
  change Code.wp _ _ _ _ (w.alloc (oE x)); generalize w.alloc (oE x) = wb at *; generalize w.heap.size = bb at *
  go_wp2_with fail
  refine (unhide CT).mono ?_
  rintro e w1 ⟨rfl, rfl⟩
  clear CT
  go_wp2_with fail
  refine (unhide CG).mono ?_
  rintro e w2 ⟨rfl, h2⟩
  obtain ⟨v1, ms1, G1, t1, T1, S1⟩ := unhide h2; have t1' : TAtE w2 t hp v1 most (groE ps (i + 1)) ms1 (n + (i + 1 - ps.length)) G1 := t1; obtain ⟨y, hy, ey⟩ := t1'.fr.all i a (unhide HIA); have CD := t1'.on.drop hy (by have := t1'.fr.cnt; have := t1'.len; have := t1'.top; omega)
  rw [ey] at CD; have HCD := hide CD; have e2 := t1'.raw.cells.2.2; have HS := hide (And.intro t1' (And.intro T1 S1)); clear CG h2 t1 t1' T1 S1 hy ey CD
  go_wp2_with fail
  refine (unhide HCD).mono ?_
  rintro e w3 ⟨rfl, G3, o1, o2, o3⟩
  obtain ⟨t1, T1, S1⟩ := unhide HS; obtain ⟨r3, T3, S3⟩ := t1.raw.heap o1 o2 o3; have hlt := lt_of_at (unhide HIA); obtain ⟨g, c, rfl, -, -, -⟩ := t1.some_ (by omega)
  have d1 := r3.cells.2.1; have df : ∀ o, w3.frozen? ⟨g, o, none⟩ = false := fun o => by
    rcases r3.row.2 with ⟨e, -⟩ | ⟨g', cap, cur, e, -, hg, -⟩
    · cases e
    · cases e; exact frozen_of_row w3 g o _ _ hg
  obtain ⟨f1, f2, f3, f4, f5⟩ := encE_at _ i a false (unhide HIA); have add : ∀ j, (⟨g, 0, none⟩ : Addr).add j = ⟨g, j, none⟩ := fun j => by unfold Addr.add; split <;> simp_all
  have g1 := r3.row.cells (g := g) rfl _ _ f1; have g2 := r3.row.cells (g := g) rfl _ _ f2; have g3 := r3.row.cells (g := g) rfl _ _ f3; have g4 := r3.row.cells (g := g) rfl _ _ f4; have g5 := r3.row.cells (g := g) rfl _ _ f5; rw [add] at g1 g2 g3 g4 g5; have bx : w3.heap[bb]? = some (oE x) := by
    have l1 := (Array.getElem?_eq_some_iff.1 (unhide HBX).1).1; have l2 := T1.size; have e1 := (T1.block bb l1 (unhide HBX).2).trans (unhide HBX).1; refine (T3.block bb (by omega) (fun e => ?_)).trans e1
    rcases S1 bb e with e | e
    · exact (unhide HBX).2 e
    · omega
  have hgt : ¬ g = t := fun e => r3.nv (by simp [Value.ownBlock, e])
  have hgt2 : ¬ t = g := fun e => hgt e.symm
  have hgb : ¬ g = bb := fun e => by
    have l1 := (Array.getElem?_eq_some_iff.1 (unhide HBX).1).1; rcases S1 g (.inr (.inl rfl)) with e2 | e2
    · exact (unhide HBX).2 (e ▸ e2)
    · omega
  have hgb2 : ¬ bb = g := fun e => hgb e.symm
  have x0 : w3.cell? ⟨bb, 0, none⟩ = some (.int .i64 x.1) := (cell_of_row _ _ 0 _ 64 (0, 0) bx).trans rfl; have x1 : w3.cell? ⟨bb, 1, none⟩ = some (.int .i64 x.2.1) := (cell_of_row _ _ 1 _ 64 (0, 0) bx).trans rfl; have x2 : w3.cell? ⟨bb, 2, none⟩ = some (.int .i64 x.2.2.1) := (cell_of_row _ _ 2 _ 64 (0, 0) bx).trans rfl; have x3 : w3.cell? ⟨bb, 3, none⟩ = some (.int .u32 x.2.2.2) := (cell_of_row _ _ 3 _ 64 (0, 0) bx).trans rfl; have HF : Hid (∀ q, ThenE w ((setP (w3.drewN q) g i x true)) t hp v most ((groE ps (i + 1)).set i (x, true)) n G) := fun q => by
    refine unhide HX _ ?_
    replace r3 : TRawE (w3.drewN q) t hp (.slice (some ⟨g, 0, none⟩) (groE ps (i + 1)).length c) most (groE ps (i + 1)) _ _ G3 := ⟨r3.box, row_kept5 r3.row (fun _ _ => rfl), r3.on.kept (fun _ _ => rfl), r3.nt, r3.nv, r3.ng, r3.len, r3.top⟩
    replace T3 : Turned (Feet t (.slice (some ⟨g, 0, none⟩) (groE ps (i + 1)).length c) G1) w2 (w3.drewN q) := by
      have bq := below_drewN (Below.refl w3.heap.size w3) q; exact T3.then_ (T := fun _ => False) ⟨bq.os, bq.tape, bq.output, bq.size, fun _ _ _ => rfl⟩ (fun _ _ h => h.elim)
    obtain ⟨r4, T4⟩ := r3.store i x true; refine ⟨_, _, _, _, ?_, r4.full (frees_take t1.fr t1.on.once (unhide HIA) x), ?_, ?_⟩
    · have := unhide HI; have := unhide HM; omega
    · refine T1.then_ (T3.then_ T4 (fun j hj hf => (S3 j hf).elim id (fun e => by omega))) (fun j hj hf => (S1 j hf).elim id (fun e => by omega))
    · intro j hj; rcases S3 j hj with e | e
      · exact S1 j e
      · exact .inr (Nat.le_trans T1.size e)
  have hltz : (i : Int) < ((groE ps (i + 1)).length : Int) := by omega
  have HL6 : Hid (((groE ps (i + 1)).length : Int) ≤ 65536) := by have := r3.len; have := r3.top; show _ ≤ _; omega
  generalize (groE ps (i + 1)).length = L at *; clear HCD HS t1 T1 S1 r3 T3 S3 o1 o2 o3 f1 f2 f3 f4 f5 hlt bx HX HBX; have h0 : (0 : Int) ≤ (i : Int) := by omega
  have hw1 : IntKind.i64.wrap ((i : Int) + 1 - 1) = (i : Int) := by rw [IntKind.wrap_i64]; omega
  have hl6 : (L : Int) ≤ 65536 := unhide HL6
  go_upto_region 5 with fail
  clear add hw1 c0 e2; clear HL6 HIA HL HI HM
  go_region
  all_goals
    go_wp2_with fail
    go_ret
    exact ⟨rfl, unhide HF 1⟩
end

section
open Go.RowKit Go.Maps
theorem set4_other {w : World} {g k : Nat} (hk : k ≠ g) (a b c d : Value) : (set4 w g a b c d).heap[k]? = w.heap[k]? := by
  unfold set4; rw [heap_setCell_other _ _ _ _ hk, heap_setCell_other _ _ _ _ hk, heap_setCell_other _ _ _ _ hk, heap_setCell_other _ _ _ _ hk]
theorem set4_size {w : World} {g : Nat} (a b c d : Value) : (set4 w g a b c d).heap.size = w.heap.size := by simp [set4]
theorem set4_turned {w : World} {g : Nat} (S : Nat → Prop) (hg : S g) (a b c d : Value) : Turned S w (set4 w g a b c d) :=
  (((turned_setCell _ ⟨g, 0, none⟩ _ hg).trans (turned_setCell _ ⟨g, 1, none⟩ _ hg)).trans (turned_setCell _ ⟨g, 2, none⟩ _ hg)).trans (turned_setCell _ ⟨g, 3, none⟩ _ hg)
theorem cells34 {w : World} {g : Nat} {a b c d : Value} (h : w.heap[g]? = some (.cells #[a, b, c, d] 64 (0, 0))) : w.cell? ⟨g, 0, none⟩ = some a ∧ w.cell? ⟨g, 1, none⟩ = some b ∧ w.cell? ⟨g, 2, none⟩ = some c ∧ w.cell? ⟨g, 3, none⟩ = some d ∧ ∀ o, w.frozen? ⟨g, o, none⟩ = false :=
  ⟨(cell_of_row _ _ 0 _ 64 (0, 0) h).trans rfl, (cell_of_row _ _ 1 _ 64 (0, 0) h).trans rfl, (cell_of_row _ _ 2 _ 64 (0, 0) h).trans rfl, (cell_of_row _ _ 3 _ 64 (0, 0) h).trans rfl, fun o => frozen_of_row _ _ o _ _ h⟩
set_option maxHeartbeats 1000000 in
set_option maxRecDepth 100000 in
theorem dropNoE [Inhabited EntI] {t hp : Nat} {v : Value} {most : Int} {ps : List (EdgeV × Bool)} {ms : List EntI} {n : Nat} {G : Nat → Prop} (k : Int) (w : World) (h : TAtE w t hp v most ps ms n G) (hk : ∀ (i : Nat) a, k = (i : Int) + 1 → ps[i]? ≠ some (a, true)) :
    Calls Tryz.prog 85 #[.pointer (some ⟨t, 0, none⟩), .int .i64 k] w fun e w' => e = .returned (.tuple #[(.agg #[.int .i64 0, .int .i64 0, .int .i64 0, .int .u32 0]), .bool false]) ∧ Below w.heap.size w w' := by
  have CT := hide (atNoE k (w.alloc o34) (h.kept (fun j hj => heap_alloc_old _ _ (h.lt hj))) hk)
  have hg : (w.alloc o34).heap[w.heap.size]? = some o34 := heap_alloc_new _ _; have HB : Hid (Below w.heap.size w (w.alloc o34)) := (Below.refl _ _).alloc (Nat.le_refl _) _; have HG := hide hg; have hsz : (w.alloc o34).heap.size = w.heap.size + 1 := by simp
  have HS := hide hsz; clear h hk hg hsz
  go_enter Tryz.func85, Tryz.ntmps85
  go_upto_region 1 with fail
  change Code.wp _ _ _ _ (w.alloc o34); generalize w.alloc o34 = w1 at *; generalize hb : w.heap.size = b at *
  go_wp2_with fail
  refine (unhide CT).mono ?_
  rintro e w2 ⟨rfl, hb2⟩
  have hg2 : w2.heap[b]? = some o34 := (hb2.block b (by have := unhide HS; omega)).trans (unhide HG)
  have HB2 : Hid (Below b w w2) := (unhide HB).trans (hb2.mono (by have := unhide HS; omega))
  obtain ⟨g0, g1, g2, g3, gf⟩ := cells34 hg2; have HG2 := hide hg2; clear CT hb2 hg2 HB HG HS
  go_upto_region 2 with fail
  change Code.wp _ _ _ _ (set4 w2 b (.int .i64 0) (.int .i64 0) (.int .i64 0) (.int .u32 0)); have hg3 := set4_at (unhide HG2) (.int .i64 0) (.int .i64 0) (.int .i64 0) (.int .u32 0); have HB3 := hide (set4_below (unhide HB2) (Nat.le_refl _) (.int .i64 0) (.int .i64 0) (.int .i64 0) (.int .u32 0)); generalize set4 w2 b (.int .i64 0) (.int .i64 0) (.int .i64 0) (.int .u32 0) = w3 at *; clear g0 g1 g2 g3 gf; obtain ⟨g0, g1, g2, g3, gf⟩ := cells34 hg3; have HG3 := hide hg3; clear hg3
  go_wp2_with fail
  (try simp only [Exit.inBlock, Exit.then])
  change bodyPost _ _ _ _ _ (set4 w3 b _ _ _ _); refine bodyPost_ret (resE rfl _ _ b _ _ _ _ rfl (set4_at (unhide HG3) _ _ _ _)) rfl ?_; exact ⟨rfl, by rw [hb]; exact set4_below (unhide HB3) (Nat.le_refl _) _ _ _ _⟩
set_option maxHeartbeats 1000000 in
set_option maxRecDepth 100000 in
theorem dropYesE [Inhabited EntI] {t hp : Nat} {v : Value} {most : Int} {ps : List (EdgeV × Bool)} {ms : List EntI} {n : Nat} {G : Nat → Prop} {a : EdgeV} (i : Nat) (w : World) (h : TAtE w t hp v most ps ms n G) (hi : ps[i]? = some (a, true)) (hn : n ≤ 1000000000) :
    Calls Tryz.prog 85 #[.pointer (some ⟨t, 0, none⟩), .int .i64 ((i : Int) + 1)] w fun e w' => e = .returned (.tuple #[.agg #[.int .i64 (a).1, .int .i64 (a).2.1, .int .i64 (a).2.2.1, .int .u32 (a).2.2.2], .bool true]) ∧ Hid (ThenE w w' t hp v most (ps.set i (((0, 0, 0, 0) : EdgeV), false)) n G) := by
  have h' := h.kept (w' := w.alloc o34) (fun j hj => heap_alloc_old _ _ (h.lt hj))
  have CT := hide (atYesE i (w.alloc o34) h' hi); have hg : (w.alloc o34).heap[w.heap.size]? = some o34 := heap_alloc_new _ _; have HB : Hid (Below w.heap.size w (w.alloc o34)) := (Below.refl _ _).alloc (Nat.le_refl _) _; have HG := hide hg; have hsz : (w.alloc o34).heap.size = w.heap.size + 1 := by simp
  have HS := hide hsz; have hbF : Hid (∀ k, Feet t v G k → k < w.heap.size) := fun k hk => h.lt hk
  have H0 := hide h; have hil := lt_of_at hi; have hl := h.len; have ht := h.top; have HI := hide hi; have HN := hide hn; have h3 : Hid ((i : Int) < (ps.length : Int) ∧ (ps.length : Int) ≤ 65536) := ⟨by omega, by omega⟩
  clear h h' hg hsz hi hn hl ht hil
  go_enter Tryz.func85, Tryz.ntmps85
  go_upto_region 1 with fail
  change Code.wp _ _ _ _ (w.alloc o34); generalize w.alloc o34 = w1 at *; generalize hb : w.heap.size = b at *
  go_wp2_with fail
  refine (unhide CT).mono ?_
  rintro e w2 ⟨rfl, hb2⟩
  have hg2 : w2.heap[b]? = some o34 := (hb2.block b (by have := unhide HS; omega)).trans (unhide HG)
  have HB2 : Hid (Below b w w2) := (unhide HB).trans (hb2.mono (by have := unhide HS; omega))
  obtain ⟨g0, g1, g2, g3, gf⟩ := cells34 hg2; have HG2 := hide hg2; clear CT hb2 hg2 HB HG HS
  go_upto_region 2 with fail
  change Code.wp _ _ _ _ (set4 w2 b (.int .i64 a.1) (.int .i64 a.2.1) (.int .i64 a.2.2.1) (.int .u32 a.2.2.2)); have hg3 := set4_at (unhide HG2) (.int .i64 a.1) (.int .i64 a.2.1) (.int .i64 a.2.2.1) (.int .u32 a.2.2.2); have HB3 := hide (set4_below (unhide HB2) (Nat.le_refl _) (.int .i64 a.1) (.int .i64 a.2.1) (.int .i64 a.2.2.1) (.int .u32 a.2.2.2)); generalize set4 w2 b (.int .i64 a.1) (.int .i64 a.2.1) (.int .i64 a.2.2.1) (.int .u32 a.2.2.2) = w3 at *; clear g0 g1 g2 g3 gf HG2 HB2; have T3 : TAtE w3 t hp v most ps ms n G := (unhide H0).kept (fun k hk => (unhide HB3).block k (unhide hbF k hk))
  obtain ⟨-, c1, c2, -⟩ := T3.cells; obtain ⟨g, c, rfl, hgt, df, hc⟩ := T3.some_ (by have := unhide h3; omega)
  obtain ⟨⟨d1, d2, d3, d4⟩, d5⟩ := hc i a true (unhide HI); obtain ⟨r1, T1⟩ := T3.raw.store i ((0, 0, 0, 0) : EdgeV) false; have hgb : g ≠ b := fun e => by have := unhide hbF g (.inr (.inl rfl)); omega
  have hg4 : (setP w3 g i ((0, 0, 0, 0) : EdgeV) false).heap[b]? = some (.cells #[.int .i64 a.1, .int .i64 a.2.1, .int .i64 a.2.2.1, .int .u32 a.2.2.2] 64 (0, 0)) := by
    unfold setP; rw [heap_setCell_other _ _ _ _ hgb.symm, heap_setCell_other _ _ _ _ hgb.symm, heap_setCell_other _ _ _ _ hgb.symm, heap_setCell_other _ _ _ _ hgb.symm, heap_setCell_other _ _ _ _ hgb.symm]; exact hg3
  have hs4 : (setP w3 g i ((0, 0, 0, 0) : EdgeV) false).heap.size = w3.heap.size := by simp [setP]
  have CP := hide (r1.on.push ((i : Int) + 1) ((i : Int) + 1) (key_fit i (by have := unhide h3; omega)) (frees_not T3.fr (fun b e => by rw [unhide HI] at e; cases e)) (by have := T3.fr.cnt; have := T3.len; have := T3.top; omega) (by have := unhide HN; omega))
  have e2 := r1.cells.2.2; have HR1 := hide (And.intro r1 (And.intro T1 (And.intro hg4 hs4))); have HT3 := hide T3; have z3 : (i : Int) < (ps.length : Int) := (unhide h3).1; have z4 : (ps.length : Int) ≤ 65536 := (unhide h3).2; have hgt1 : ¬ g = t := hgt; have gtg : ¬ t = g := fun e => hgt e.symm
  generalize hL : ps.length = L at *; clear hc T3 r1 T1 hg3 hg4 hs4 h3 hgt
  go_upto_region 4 with fail
  change Code.wp _ _ _ _ (setP w3 g i ((0, 0, 0, 0) : EdgeV) false); generalize setP w3 g i ((0, 0, 0, 0) : EdgeV) false = w4 at *; clear d1 d2 d3 d4 d5 df c1 c2 z3 z4
  go_wp2_with fail
  refine (unhide CP).mono ?_
  rintro e w5 ⟨rfl, G2, o1, o2, o3⟩
  obtain ⟨r1, T1, hg4, hs4⟩ := unhide HR1; have hbw3 : b < w3.heap.size := by have := (Array.getElem?_eq_some_iff.1 hg4).1; omega
  have hg5 : w5.heap[b]? = some (.cells #[.int .i64 a.1, .int .i64 a.2.1, .int .i64 a.2.2.1, .int .u32 a.2.2.2] 64 (0, 0)) :=
    (o2.block b (by omega) (fun e => by have := unhide hbF b (.inr (.inr e)); omega)).trans hg4
  have HT : Hid (∀ x0 x1 x2 x3, ThenE w (set4 w5 b x0 x1 x2 x3) t hp (.slice (some ⟨g, 0, none⟩) L c) most (ps.set i (((0, 0, 0, 0) : EdgeV), false)) n G) := fun x0 x1 x2 x3 => by
    obtain ⟨r2, T2, S2⟩ := r1.heap o1 o2 o3; have hbs : Below b w w3 := unhide HB3; have hs5 := T2.size; have F2 : ∀ j, Feet t (.slice (some ⟨g, 0, none⟩) L c) G2 j → j ≠ b := fun j hj e => by
      subst e; rcases S2 _ hj with e | e
      · have := unhide hbF _ e; omega
      · omega
    refine ⟨_, _, n + 1, G2, by omega, (r2.full (frees_free (unhide HT3).fr (unhide HI) _ n)).kept (fun k hk => set4_other (F2 k hk) _ _ _ _), ?_, fun j hj => ?_⟩
    · refine ⟨?_, ?_, ?_, ?_, fun j hj hf => ?_⟩
      · exact ((set4_turned (fun _ => True) trivial _ _ _ _).os.trans T2.os).trans (T1.os.trans hbs.os)
      · exact ((set4_turned (fun _ => True) trivial _ _ _ _).tape.trans T2.tape).trans (T1.tape.trans hbs.tape)
      · exact ((set4_turned (fun _ => True) trivial _ _ _ _).output.trans T2.output).trans (T1.output.trans hbs.output)
      · rw [set4_size]; have := hbs.size; omega
      · rw [hb] at hj; rw [set4_other (by omega)]
        exact (T2.block j (by omega) hf).trans ((T1.block j (by omega) hf).trans (hbs.block j hj))
    · rcases S2 j hj with e | e
      · exact .inl e
      · exact .inr (by omega)
  obtain ⟨g0, g1, g2, g3, gf⟩ := cells34 hg5; have HG5 := hide hg5; clear CP HR1 r1 T1 hg4 hs4 hg5 o1 o2 o3 hbw3 HB3 H0 hbF HT3 e2
  go_wp2_with fail
  (try simp only [Exit.inBlock, Exit.then])
  change bodyPost _ _ _ _ _ (set4 w5 b _ _ _ _); refine bodyPost_ret (resE rfl _ _ b _ _ _ _ rfl (set4_at (unhide HG5) _ _ _ _)) rfl ?_; exact ⟨rfl, unhide HT _ _ _ _⟩
set_option maxHeartbeats 1000000 in
set_option maxRecDepth 100000 in
theorem newE [Inhabited EntI] (w : World) :
    Calls Tryz.prog 62 #[.int .i64 1024] w fun e w' => ∃ t hp G, e = .returned (.pointer (some ⟨t, 0, none⟩)) ∧ Hid (Below w.heap.size w w' ∧ TAtE w' t hp (.slice none 0 0) 1024 [] [] 0 G ∧ ∀ j, Feet t (.slice none 0 0) G j → w.heap.size ≤ j) := by
  have CN := hide (newOnI 97 w less23); have HF : Hid (∀ w2 p, Below w.heap.size w w2 ∧ (∃ F, OnI w2 p F [] 0 ∧ ∀ j, F j → w.heap.size ≤ j) → ∃ hp G, Below w.heap.size w (w2.alloc (.cells #[.int .i64 1024, .slice none 0 0, .pointer (some ⟨p, 0, none⟩)] 166)) ∧ TAtE (w2.alloc (.cells #[.int .i64 1024, .slice none 0 0, .pointer (some ⟨p, 0, none⟩)] 166)) w2.heap.size hp (.slice none 0 0) 1024 [] [] 0 G ∧ ∀ j, Feet w2.heap.size (.slice none 0 0) G j → w.heap.size ≤ j) := by
    rintro w2 p ⟨hb, F, h1, h2⟩
    have hb2 : Below w2.heap.size w2 (w2.alloc (.cells #[.int .i64 1024, .slice none 0 0, .pointer (some ⟨p, 0, none⟩)] 166)) := (Below.refl _ _).alloc (Nat.le_refl _) _; refine ⟨p, F, hb.trans (hb2.mono hb.size), ⟨heap_alloc_new _ _, ⟨rfl, .inl ⟨rfl, rfl⟩⟩, h1.kept (fun k hk => hb2.block k (h1.lt hk)), frees_nil, fun e => ?_, by simp [Value.ownBlock], by simp [Value.ownBlock], by simp, by omega⟩, fun j hj => ?_⟩
    · have := h1.lt e; omega
    · rcases hj with rfl | hj | hj
      · exact hb.size
      · simp [Value.ownBlock] at hj
      · exact h2 j hj
  go_enter Tryz.func62, Tryz.ntmps62
  go_wp2_with fail
  refine (unhide CN).mono ?_
  rintro e w2 ⟨rfl, hb, ho⟩
  have HG := hide (unhide HF w2 _ ⟨hb, ho⟩); clear CN HF hb ho
  go_wp2_with fail
  go_ret
  obtain ⟨hp, G, q⟩ := unhide HG; exact ⟨_, hp, G, rfl, q⟩
end

end Go.Proofs.YtagibmgbjhemkaaGreat
