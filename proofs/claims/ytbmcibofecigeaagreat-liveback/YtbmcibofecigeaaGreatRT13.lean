/- The reference's Through and Cost, along a walk. -/
import Derived.Test.YtbmcibofecigeaaGreatRP13
import Derived.Test.YtbmcibofecigeaaGreatLvO14
import Derived.Test.YtbmcibofecigeaaGreatBuild13
namespace Go.Proofs.YtbmcibofecigeaaGreat

section
open Go.RowKit Go.Maps
set_option maxHeartbeats 4000000 in
set_option maxRecDepth 100000 in
theorem sameInts9 {w : World} {v1 v2 : Value} {a b : List Int} (h1 : NRow w v1 a) (h2 : NRow w v2 b) (hl : a.length ≤ 1000000) :
    Calls Tryz.prog 16 #[v1, v2] w fun e w' => e = .returned (.bool (decide (a = b))) ∧ ∃ q, w' = w.drewN q := by
  obtain ⟨x1, c1, e1, -⟩ := brow_shape h1
  obtain ⟨x2, c2, e2, -⟩ := brow_shape h2
  obtain ⟨n1, hn1⟩ : ∃ n1, n1 = a.length := ⟨_, rfl⟩
  obtain ⟨n2, hn2⟩ : ∃ n2, n2 = b.length := ⟨_, rfl⟩
  rw [← hn1] at e1
  rw [← hn2] at e2
  have HN : Hid (n1 = a.length ∧ n2 = b.length ∧ n1 ≤ 1000000) := ⟨hn1, hn2, by omega⟩
  have HC := hide (And.intro h1 h2)
  clear h1 h2 hl hn1 hn2
  subst e1 e2
  generalize hrr : decide (a = b) = rr
  have HRR := hide hrr
  clear hrr
  by_cases hlen : n1 = n2
  · subst hlen
    go_enter Tryz.func16, Tryz.ntmps16
    go_wp2_with fail
    go_loopw [13] (fun s13 wr => ∃ i q : Nat, s13 = .int .i64 (i : Nat) ∧ wr = w.drewN q ∧ i ≤ n1 ∧ Hid (∀ j, j < i → a[j]? = b[j]?)) (fun s13 _ => n1 - (intOf s13).toNat)
    case atStart => exact ⟨0, 0, rfl, rfl, Nat.zero_le _, fun j hj => absurd hj (Nat.not_lt_zero _)⟩
    case round =>
      obtain ⟨i, q, rfl, rfl, hi, hS⟩ := hrel
      obtain ⟨l1, l2, l3⟩ := unhide HN
      by_cases hlt : i < n1
      · obtain ⟨y1, hy1⟩ : ∃ y, a[i]? = some y := ⟨_, List.getElem?_eq_getElem (by omega)⟩
        obtain ⟨y2, hy2⟩ : ∃ y, b[i]? = some y := ⟨_, List.getElem?_eq_getElem (by omega)⟩
        obtain ⟨g1, hg1⟩ := brow_some (unhide HC).1 (by omega)
        subst hg1
        obtain ⟨g2, hg2⟩ := brow_some (unhide HC).2 (by omega)
        subst hg2
        have k1 := brow_at (unhide HC).1 hy1
        have k2 := brow_at (unhide HC).2 hy2
        have z1 : (i : Int) < (n1 : Int) := by omega
        obtain ⟨i1, hi1⟩ : ∃ i1, i1 = i + 1 := ⟨_, rfl⟩
        have zw : Hid (wrap64 ((i : Int) + 1) = (i1 : Int)) := by show wrap64 ((i : Int) + 1) = (i1 : Int); unfold wrap64; omega
        by_cases hyy : y1 = y2
        · subst hyy
          have HJ : Hid ((∀ j, j < i1 → a[j]? = b[j]?) ∧ i1 ≤ n1 ∧ n1 - i1 < n1 - i) := ⟨fun j hj => by
            by_cases e : j = i
            · rw [e, hy1, hy2]
            · exact unhide hS j (by omega), by omega, by omega⟩
          clear hy1 hy2 hi1 hlt hi hS l1 l2 l3
          go_wp2_with fail
          go_quiet (fail)
          go_wp2_with fail
          rw [unhide zw]
          exact ⟨⟨i1, _, rfl, rfl, (unhide HJ).2.1, (unhide HJ).1⟩, by have := (unhide HJ).2.2; simp [intOf]; omega⟩
        · have hz : (y1 == y2) = false := by simpa using hyy
          have HG : Hid (rr = false) := by
            rw [← unhide HRR]
            refine decide_eq_false (fun e => ?_)
            rw [e, hy2] at hy1
            injection hy1 with hy1
            exact hyy hy1.symm
          clear hy1 hy2 hi1 hlt hi hS l1 l2 l3 hyy
          go_wp2_with fail
          go_quiet (fail)
          go_wp2_with fail
          go_ret
          exact ⟨by rw [unhide HG]; rfl, _, World.drewN_drewN _ _ _⟩
      · have z1 : ¬ (i : Int) < (n1 : Int) := by omega
        have HG : Hid (rr = true) := by
          rw [← unhide HRR]
          refine decide_eq_true (List.ext_getElem? (fun j => ?_))
          by_cases hj : j < n1
          · exact unhide hS j (by omega)
          · rw [List.getElem?_eq_none (by omega), List.getElem?_eq_none (by omega)]
        clear hlt hi hS l1 l2 l3
        go_wp2_with fail
        go_ret
        exact ⟨by rw [unhide HG]; rfl, _, rfl⟩
  · have hz : ((n1 : Int) == (n2 : Int)) = false := by simp; omega
    have HG : Hid (rr = false) := by
      rw [← unhide HRR]
      refine decide_eq_false (fun e => ?_)
      obtain ⟨l1, l2, -⟩ := unhide HN
      rw [e] at l1; omega
    clear hlen
    go_enter Tryz.func16, Tryz.ntmps16
    go_wp2_with fail
    go_ret
    exact ⟨by rw [unhide HG]; rfl, 0, rfl⟩
end

section
open Go.RowKit Go.Maps
/-- Words in memory. -/
def encU (x : Nat) : List Value := [.int .u32 (x : Nat)]
theorem kitU : Kit Nat 1 encU := ⟨by omega, fun _ => rfl, fun x v hv => by simp [encU] at hv; rcases hv with rfl; rfl⟩
abbrev URow (B : Nat) (w : World) (v : Value) (us : List Nat) : Prop := RRow 36 1 encU B w v us
theorem infoU : (Tryz.prog.info? 36).map (fun i => (i.zero, i.size, i.bytes)) = some (some (.int .u32 0), 1, 4) := by kernel_rfl
theorem urow_at {B : Nat} {w : World} {g n c i : Nat} {us : List Nat} {x : Nat} (h : URow B w (.slice (some ⟨g, 0, none⟩) n c) us) (hi : us[i]? = some x) : w.cell? ⟨g, i, none⟩ = some (.int .u32 (x : Nat)) := by
  have := rrow_at kitU h hi (j := 0) rfl
  rwa [Nat.mul_one, Nat.add_zero] at this
theorem urow_set {B : Nat} {w : World} {g n c i : Nat} {us : List Nat} {x : Nat} (y : Nat) (h : URow B w (.slice (some ⟨g, 0, none⟩) n c) us) (hi : us[i]? = some x) : URow B (w.setCell ⟨g, i, none⟩ (.int .u32 (y : Nat))) (.slice (some ⟨g, 0, none⟩) n c) (us.set i y) := by
  have := rrow_set kitU h hi (x' := y) (j := 0) (by omega) (u := .int .u32 (y : Nat)) rfl
  rwa [Nat.mul_one, Nat.add_zero] at this
theorem mkU {n : Nat} (hn : n ≤ 1000000) (w : World) : (Instr.makeSlice 65 (.int .i64 (n : Nat)) (.int .i64 (n : Nat))).run Tryz.prog w = .ok (.slice (some ⟨w.heap.size, 0, none⟩) n n) (w.alloc (.cells (madeCells #[.int .u32 0] n) 36)) :=
  run_make_row' 65 36 (.int .u32 0) 4 Tryz.underlying65 infoU rfl .i64 .i64 n (by omega) (by omega) w
theorem flat_repU (n : Nat) : (List.replicate n 0).flatMap encU = List.replicate n (Value.int .u32 0) := by
  induction n with
  | zero => rfl
  | succ n ih => rw [List.replicate_succ, List.flatMap_cons, ih, List.replicate_succ]; rfl
theorem urow_made {n : Nat} (hn : n ≤ 1000000) (w : World) : URow w.heap.size (w.alloc (.cells (madeCells #[.int .u32 0] n) 36)) (.slice (some ⟨w.heap.size, 0, none⟩) n n) (List.replicate n 0) := by
  have hs : (madeCells #[.int .u32 0] n).size = n := by rw [← Array.length_toList, made_list, List.length_replicate]
  refine ⟨by rw [flat_len kitU], .inr ⟨w.heap.size, n, madeCells #[.int .u32 0] n, by rw [List.length_replicate], Nat.le_refl _, heap_alloc_new _ _, by rw [List.length_replicate]; exact Nat.le_refl _, by unfold maxLen; omega, by rw [hs, Nat.mul_one], ?_⟩⟩
  rw [made_list, flat_repU, List.length_replicate, Nat.mul_one, List.take_of_length_le (by simp)]
/-- The place of a number among these records, or -1. -/
def atOf (gs : List EdV) (e : Int) : Int := placeOf (gs.map (·.1)) e
theorem atOf_some {gs : List EdV} {x : EdV} {i : Nat} (hn : (gs.map (·.1)).Nodup) (h : gs[i]? = some x) : atOf gs x.1 = (i : Int) := by
  have h1 : (gs.map (·.1))[i]? = some x.1 := by rw [List.getElem?_map, h]; rfl
  unfold atOf placeOf
  rw [if_pos (List.mem_of_getElem? h1)]
  obtain ⟨l1, e1⟩ := List.getElem?_eq_some_iff.1 h1
  rw [← e1, hn.idxOf_getElem i l1]
theorem idx_le : ∀ {l : List Int} {i : Nat} {x : Int}, l[i]? = some x → l.idxOf x ≤ i
  | [], i, x, h => by simp at h
  | y :: l, i, x, h => by
    rw [List.idxOf_cons]
    by_cases e : y = x
    · rw [e]; simp
    · have hb : (y == x) = false := by simpa using e
      rw [hb]
      cases i with
      | zero => exact absurd (by simpa using h) e
      | succ i => have := idx_le (l := l) (i := i) (x := x) (by simpa using h); simpa using this
def NotIn (gs : List EdV) (e : Int) (i : Nat) : Prop := ∀ (j : Nat) (y : EdV), j < i → gs[j]? = some y → y.1 ≠ e
theorem atOf_first {gs : List EdV} {e : Int} {i : Nat} {x : EdV} (h : NotIn gs e i) (hx : gs[i]? = some x) (he : x.1 = e) : atOf gs e = (i : Int) := by
  have h1 : (gs.map (·.1))[i]? = some e := by rw [List.getElem?_map, hx, ← he]; rfl
  have hm := List.mem_of_getElem? h1
  unfold atOf placeOf
  rw [if_pos hm]
  have h2 := idx_some hm
  have hle : (gs.map (·.1)).idxOf e ≤ i := idx_le h1
  rcases Nat.lt_or_ge ((gs.map (·.1)).idxOf e) i with q | q
  · rw [List.getElem?_map] at h2
    cases hy : gs[(gs.map (·.1)).idxOf e]? with
    | none => rw [hy] at h2; cases h2
    | some y => rw [hy] at h2; exact absurd (Option.some.inj h2) (h _ y q hy)
  · have : (gs.map (·.1)).idxOf e = i := by omega
    rw [this]
theorem atOf_none {gs : List EdV} {e : Int} (h : NotIn gs e gs.length) : atOf gs e = -1 := by
  unfold atOf placeOf
  rw [if_neg]
  intro hm
  obtain ⟨x, hx, rfl⟩ := List.mem_map.1 hm
  obtain ⟨i, hi⟩ := List.mem_iff_getElem?.1 hx
  exact h i x (List.getElem?_eq_some_iff.1 hi).1 hi rfl
set_option maxHeartbeats 2000000 in
set_option maxRecDepth 100000 in
theorem atR {w : World} {vv ev : Value} {rd wr e : Int} {gs : List EdV} (h : ERow 0 w ev gs) (hl : gs.length ≤ 100000) :
    Calls Tryz.prog 58 #[.agg #[vv, ev, .int .i64 rd, .int .i64 wr], .int .i64 e] w fun r w' => r = .returned (.int .i64 (atOf gs e)) ∧ Hid (Below w.heap.size w w') := by
  have hb := below_new w (oGr vv ev rd wr)
  have h1 := rrow_below h hb
  obtain ⟨-, c1, -, -, -⟩ := cellsGr (heap_alloc_new w (oGr vv ev rd wr))
  have HB := hide hb
  obtain ⟨a, c, hvv⟩ := rrow_shape h1
  obtain ⟨n, hn⟩ : ∃ n, n = gs.length := ⟨_, rfl⟩
  rw [← hn] at hvv
  have HC := hide h1
  have HN : Hid (n = gs.length ∧ n ≤ 100000) := ⟨hn, by omega⟩
  generalize hrr : atOf gs e = rr
  have HRR := hide hrr
  clear h h1 hb hl hn hrr
  subst hvv
  go_enter Tryz.func58, Tryz.ntmps58
  go_upto_region 1 with fail
  change Code.wp _ _ _ _ (w.alloc (oGr vv (.slice a n c) rd wr))
  generalize w.alloc (oGr vv (.slice a n c) rd wr) = wb at *
  obtain ⟨bb, hbb⟩ : ∃ bb, bb = w.heap.size := ⟨_, rfl⟩
  rw [← hbb] at c1 ⊢
  clear hbb
  go_wp2_with fail
  go_loopw [5] (fun s5 wr => ∃ i : Nat, s5 = .int .i64 (i : Nat) ∧ wr = wb ∧ Hid (i ≤ n ∧ NotIn gs e i)) (fun s5 _ => n - (intOf s5).toNat)
  case atStart => exact ⟨0, rfl, rfl, Nat.zero_le _, fun j _ hj => absurd hj (Nat.not_lt_zero _)⟩
  case round =>
    obtain ⟨i, rfl, rfl, HI⟩ := hrel
    obtain ⟨i1, i2⟩ := unhide HI
    obtain ⟨l1, l2⟩ := unhide HN
    by_cases hlt : i < n
    · obtain ⟨x, hx⟩ : ∃ x, gs[i]? = some x := ⟨_, List.getElem?_eq_getElem (by omega)⟩
      obtain ⟨g, rfl⟩ := rrow_some (unhide HC) (by omega)
      obtain ⟨k0, -, -, -⟩ := erow_at (unhide HC) hx
      have z1 : (i : Int) < (n : Int) := by omega
      obtain ⟨j, hj⟩ : ∃ j, j = i + 1 := ⟨_, rfl⟩
      have zw : Hid (wrap64 ((i : Int) + 1) = (j : Int)) := by show wrap64 ((i : Int) + 1) = (j : Int); unfold wrap64; omega
      by_cases hxe : x.1 = e
      · have HG : Hid (rr = (i : Int)) := by show rr = (i : Int); rw [← unhide HRR]; exact atOf_first i2 hx hxe
        subst hxe
        clear HI i1 i2 l1 l2 hlt hx hj
        go_wp2_with fail
        go_ret
        exact ⟨by rw [unhide HG]; rfl, HB⟩
      · have z3 : (x.1 == e) = false := by simpa using hxe
        have HJ : Hid (j = i + 1 ∧ j ≤ n ∧ NotIn gs e j ∧ n - j < n - i) := ⟨hj, by omega, fun q y hq hy => by
          by_cases eq : q = i
          · rw [eq, hx] at hy; rw [← Option.some.inj hy]; exact hxe
          · exact i2 q y (by omega) hy, by omega⟩
        clear HI i1 i2 l1 l2 hlt hx hj hxe
        go_wp2_with fail
        (try rw [unhide zw])
        exact ⟨⟨j, by first | rfl | (rw [(unhide HJ).1]; rfl), trivial, (unhide HJ).2.1, (unhide HJ).2.2.1⟩, by have := (unhide HJ).2.2.2; simp [intOf]; omega⟩
    · have z1 : ¬ (i : Int) < (n : Int) := by omega
      have HG : Hid (rr = -1) := by
        show rr = -1
        rw [← unhide HRR]; exact atOf_none (fun q y hq hy => i2 q y (by omega) hy)
      clear HI i1 i2 l1 l2 hlt
      go_wp2_with fail
      go_ret
      exact ⟨by rw [unhide HG]; rfl, HB⟩
end

section
open Go.RowKit Go.Maps
theorem below_set {w W : World} {b o : Nat} {v : Value} (h : Below w.heap.size w W) (hb : w.heap.size ≤ b) : Below w.heap.size w (W.setCell ⟨b, o, none⟩ v) := h.trans ((turned_setCell (S := fun j => j = b) W ⟨b, o, none⟩ v rfl).below h.size (fun j e => by omega))
def uA (us : List Nat) (q : Nat) : Nat := us.getD q 0
/-- Distances of cheapest walks: no edge makes its end nearer, and whatever no edge lowers lies nowhere above them. -/
structure Lst (ys : List Int) (gs : List EdV) (s : Int) (far : Nat → Bool) (bits : Nat → Nat) : Prop where
  src : s ∈ ys
  rise : ys.Pairwise (· < ·)
  l1 : ys.length ≤ 1000
  l2 : gs.length ≤ 2000
  ok : ∀ y ∈ gs, y.2.1 ∈ ys ∧ y.2.2.1 ∈ ys ∧ 0 ≤ y.2.2.2 ∧ y.2.2.2 < 2139095040
  st : far (plc ys s) = false ∧ bits (plc ys s) = 0
  le_ : ∀ p, bits p ≤ 2139095040
  han : ∀ y ∈ gs, far (plc ys y.2.1) = false → far (plc ys y.2.2.1) = false ∧ bits (plc ys y.2.2.1) ≤ M.addC (bits (plc ys y.2.1)) y.2.2.2.toNat
  up : ∀ us : List Nat, uA us (plc ys s) = 0 → (∀ y ∈ gs, uA us (plc ys y.2.1) ≠ 4294967295 → uA us (plc ys y.2.2.1) ≤ M.addC (uA us (plc ys y.2.1)) y.2.2.2.toNat) → ∀ q, q < ys.length → far q = false → uA us q ≤ bits q
def Clos (ys : List Int) (us : List Nat) (y : EdV) : Prop := uA us (plc ys y.2.1) ≠ 4294967295 → uA us (plc ys y.2.2.1) ≤ M.addC (uA us (plc ys y.2.1)) y.2.2.2.toNat
/-- In the midst. -/
structure DI (ys : List Int) (s : Int) (far : Nat → Bool) (bits : Nat → Nat) (us : List Nat) : Prop where
  len : us.length = ys.length
  st : uA us (plc ys s) = 0
  lo : ∀ q, uA us q ≠ 4294967295 → q < ys.length → far q = false ∧ bits q ≤ uA us q
  fin : ∀ q, uA us q = 4294967295 ∨ uA us q ≤ 2139095040
theorem uA_set {us : List Nat} {v c : Nat} (hv : v < us.length) (q : Nat) : uA (us.set v c) q = if q = v then c else uA us q := by
  unfold uA
  rw [List.getD_eq_getElem?_getD, List.getD_eq_getElem?_getD]
  by_cases h : q = v
  · subst h; rw [if_pos rfl, List.getElem?_set_self hv]; rfl
  · rw [if_neg h, List.getElem?_set_ne (fun e => h e.symm)]
theorem uA_at {us : List Nat} {q x : Nat} (h : us[q]? = some x) : uA us q = x := by unfold uA; rw [List.getD_eq_getElem?_getD, h]; rfl
theorem at_uA {us : List Nat} {q : Nat} (h : q < us.length) : us[q]? = some (uA us q) := by unfold uA; rw [List.getD_eq_getElem?_getD, List.getElem?_eq_getElem h]; rfl
theorem sum_set : ∀ {us : List Nat} {v c : Nat}, v < us.length → c < uA us v → (us.set v c).sum < us.sum
  | [], v, c, h, _ => by simp at h
  | x :: us, 0, c, _, h => by
    have h1 : c < x := h
    simp only [List.set_cons_zero, List.sum_cons]; omega
  | x :: us, v + 1, c, h, h2 => by
    have := sum_set (us := us) (v := v) (c := c) (by simpa using h) h2
    simp only [List.set_cons_succ, List.sum_cons]; omega
theorem DI.step {ys : List Int} {gs : List EdV} {s : Int} {far : Nat → Bool} {bits : Nat → Nat} {us : List Nat} (hL : Lst ys gs s far bits) (h : DI ys s far bits us) {y : EdV} (hy : y ∈ gs) (h1 : uA us (plc ys y.2.1) ≠ 4294967295) {c : Nat} (hc : c = M.addC (uA us (plc ys y.2.1)) y.2.2.2.toNat) (h2 : c < uA us (plc ys y.2.2.1)) :
    DI ys s far bits (us.set (plc ys y.2.2.1) c) ∧ (us.set (plc ys y.2.2.1) c).sum < us.sum := by
  obtain ⟨o1, o2, o3, o4⟩ := hL.ok y hy
  have hu := plc_lt o1
  have hv := plc_lt o2
  have hvl : plc ys y.2.2.1 < us.length := by rw [h.len]; exact hv
  have hle : uA us (plc ys y.2.1) ≤ 2139095040 := (h.fin _).resolve_left h1
  obtain ⟨a1, a2⟩ := h.lo _ h1 hu
  obtain ⟨b1, b2⟩ := hL.han y hy a1
  have hcI : c ≤ 2139095040 := by rw [hc]; exact M.addC_le hle (by omega)
  refine ⟨⟨by rw [List.length_set]; exact h.len, ?_, fun q hq hql => ?_, fun q => ?_⟩, sum_set hvl h2⟩
  · rw [uA_set hvl, if_neg]
    · exact h.st
    · intro e
      rw [← e, h.st] at h2; omega
  · rw [uA_set hvl] at hq ⊢
    by_cases e : q = plc ys y.2.2.1
    · rw [if_pos e, e]
      refine ⟨b1, Nat.le_trans b2 ?_⟩
      rw [hc]; exact M.addC_mono (hL.le_ _) hle (by omega) a2
    · rw [if_neg e] at hq ⊢; exact h.lo q hq hql
  · rw [uA_set hvl]
    by_cases e : q = plc ys y.2.2.1
    · rw [if_pos e]; exact .inr hcI
    · rw [if_neg e]; exact h.fin q
/-- What is told of a graph. -/
def refD (n : Nat) (far : Nat → Bool) (bits : Nat → Nat) : List Nat := (List.range n).map (fun q => if far q = true then 4294967295 else bits q)
theorem DI.done {ys : List Int} {gs : List EdV} {s : Int} {far : Nat → Bool} {bits : Nat → Nat} {us : List Nat} (hL : Lst ys gs s far bits) (h : DI ys s far bits us) (hc : ∀ y ∈ gs, Clos ys us y) : us = refD ys.length far bits := by
  have hu := hL.up us h.st hc
  apply List.ext_getElem?
  intro q
  rcases Nat.lt_or_ge q ys.length with hq | hq
  · unfold refD
    rw [List.getElem?_map, List.getElem?_range hq, at_uA (by rw [h.len]; exact hq)]
    show some (uA us q) = some (if far q = true then 4294967295 else bits q)
    congr 1
    cases hf : far q with
    | true =>
      rw [if_pos rfl]
      by_cases e : uA us q = 4294967295
      · exact e
      · have := (h.lo q e hq).1; rw [hf] at this; cases this
    | false =>
      rw [if_neg (by decide)]
      have h1 := hu q hq hf
      have h2 := hL.le_ q
      have := (h.lo q (by omega) hq).2
      omega
  · rw [List.getElem?_eq_none (by rw [h.len]; exact hq), List.getElem?_eq_none (by unfold refD; simp; omega)]
theorem DI.init {ys : List Int} {gs : List EdV} {s : Int} {far : Nat → Bool} {bits : Nat → Nat} {us : List Nat} (hL : Lst ys gs s far bits) (hl : us.length = ys.length) (h : ∀ (j : Nat) (v : Int), ys[j]? = some v → us[j]? = some (if v = s then 0 else 4294967295)) : DI ys s far bits us := by
  have hst := at_plc hL.rise hL.src
  refine ⟨hl, by rw [uA_at (h _ _ hst), if_pos rfl], fun q hq hql => ?_, fun q => ?_⟩
  · obtain ⟨v, hv⟩ : ∃ v, ys[q]? = some v := ⟨_, List.getElem?_eq_getElem hql⟩
    have e := uA_at (h q v hv)
    by_cases hvs : v = s
    · have : q = plc ys s := by rw [← hvs]; exact (plc_at hL.rise hv).symm
      rw [this, hL.st.2]; exact ⟨hL.st.1, Nat.zero_le _⟩
    · rw [if_neg hvs] at e; exact absurd e hq
  · rcases Nat.lt_or_ge q ys.length with hq | hq
    · obtain ⟨v, hv⟩ : ∃ v, ys[q]? = some v := ⟨_, List.getElem?_eq_getElem hq⟩
      rw [uA_at (h q v hv)]
      split
      · exact .inr (by omega)
      · exact .inl rfl
    · refine .inr ?_
      unfold uA
      rw [List.getD_eq_getElem?_getD, List.getElem?_eq_none (by omega)]
      show 0 ≤ _; omega
/-- The distances in memory, beside the graph's box. -/
structure DsM (w : World) (gb : Nat) (o : Obj) (g n : Nat) (us : List Nat) (W : World) : Prop where
  bl : Below w.heap.size w W
  bx : W.heap[gb]? = some o
  row : URow w.heap.size W (.slice (some ⟨g, 0, none⟩) n n) us
  ne : g ≠ gb
section
variable {w W W' : World} {gb g n : Nat} {o : Obj} {us : List Nat}
theorem DsM.g_lt (h : DsM w gb o g n us W) : w.heap.size ≤ g ∧ g < W.heap.size := h.row.lt g rfl
theorem DsM.below (h : DsM w gb o g n us W) (hb : Below W.heap.size W W') : DsM w gb o g n us W' :=
  ⟨h.bl.trans (hb.mono h.bl.size), (hb.block gb (Array.getElem?_eq_some_iff.1 h.bx).1).trans h.bx, rrow_below h.row hb, h.ne⟩
theorem DsM.set (h : DsM w gb o g n us W) {i x : Nat} (hi : us[i]? = some x) (y : Nat) : DsM w gb o g n (us.set i y) (W.setCell ⟨g, i, none⟩ (.int .u32 (y : Nat))) :=
  ⟨below_set h.bl h.g_lt.1, (heap_setCell_other _ _ _ _ (show gb ≠ g from fun e => h.ne e.symm)).trans h.bx, urow_set y h.row hi, h.ne⟩
theorem DsM.setFar (h : DsM w gb o g n us W) {i x : Nat} (hi : us[i]? = some x) : DsM w gb o g n (us.set i 4294967295) (W.setCell ⟨g, i, none⟩ (.int .u32 4294967295)) := h.set hi 4294967295
theorem DsM.set0 (h : DsM w gb o g n us W) {i x : Nat} (hi : us[i]? = some x) : DsM w gb o g n (us.set i 0) (W.setCell ⟨g, i, none⟩ (.int .u32 0)) := h.set hi 0
end
/-- So far the beginning is laid. -/
def Begun (ys : List Int) (s : Int) (us : List Nat) (i : Nat) : Prop := us.length = ys.length ∧ ∀ (j : Nat) (v : Int), j < i → ys[j]? = some v → us[j]? = some (if v = s then 0 else 4294967295)
theorem Begun.next {ys : List Int} {s v : Int} {us : List Nat} {i c : Nat} (h : Begun ys s us i) (hv : ys[i]? = some v) (hc : c = if v = s then 0 else 4294967295) : Begun ys s (us.set i c) (i + 1) := by
  refine ⟨by rw [List.length_set]; exact h.1, fun j u hj hu => ?_⟩
  by_cases e : j = i
  · subst e
    rw [hv] at hu
    rw [List.getElem?_set_self (by rw [h.1]; exact (List.getElem?_eq_some_iff.1 hv).1), hc, Option.some.inj hu]
  · rw [List.getElem?_set_ne (fun z => e z.symm)]; exact h.2 j u (by omega) hu
/-- What Dists answers. -/
def RDAns (w : World) (us : List Nat) (e : Ending) (w' : World) : Prop := ∃ g n, e = .returned (.slice (some ⟨g, 0, none⟩) n n) ∧ n = us.length ∧ URow w.heap.size w' (.slice (some ⟨g, 0, none⟩) n n) us ∧ Below w.heap.size w w'
end

section
open Go.RowKit Go.Maps
theorem row_new (w : World) (x : Array Value) (ks : List Int) (h : x.toList = ks.map (Value.int .i64)) (hl : ks.length ≤ 1000000) : BRow w.heap.size (w.alloc (.cells x 3)) (.slice (some ⟨w.heap.size, 0, none⟩) ks.length ks.length) ks := by
  have hs : x.size = ks.length := by rw [← Array.length_toList, h, List.length_map]
  refine ⟨by simp, .inr ⟨w.heap.size, ks.length, x, rfl, Nat.le_refl _, heap_alloc_new _ _, Nat.le_refl _, by unfold maxLen; omega, by omega, ?_⟩⟩
  rw [h, List.take_of_length_le (by simp)]
theorem readyL2 {P : Program} {ops : Array Oper} {Q : Exit → Act → World → Prop} {md : Region.Mode} {S : World → Prop} {T : List Nat} {i k : Nat} {o o2 : Oper} {fuel : Nat} {listed : Array Bool} {a : Act} {w : World} (hr : Region.ready md ops listed = [i, k]) (ho : ops[i]? = some o) (ho2 : ops[k]? = some o2)
    (h : ∀ K' : Act → World → Prop, Shut (∀ a w, (T.contains i = false → S w) → wpAnyL P md ops Q S T fuel (listed.setIfInBounds i true) a w → K' a w) → if Region.wanted o (yielded ops a.tmps) = true then Oper.wp P o a w K' Q else K' (a.put o.dst undef) w)
    (h2 : ∀ K' : Act → World → Prop, Shut (∀ a w, (T.contains k = false → S w) → wpAnyL P md ops Q S T fuel (listed.setIfInBounds k true) a w → K' a w) → if Region.wanted o2 (yielded ops a.tmps) = true then Oper.wp P o2 a w K' Q else K' (a.put o2.dst undef) w) :
    wpAnyL P md ops Q S T (fuel + 1) listed a w := by
  refine ⟨fun h0 => (by rw [hr] at h0; cases h0), fun j hj => ?_⟩
  rw [hr] at hj
  rcases List.mem_cons.1 hj with e | e
  · subst e
    exact wpOp_step ho (fun K' hK => h K' (fun a w hS hW => hK a w ⟨hS, hW⟩))
  · obtain rfl : j = k := by simpa using e
    exact wpOp_step ho2 (fun K' hK => h2 K' (fun a w hS hW => hK a w ⟨hS, hW⟩))
/-- The four cells of a result, written. -/
def set4 (w : World) (g : Nat) (a b c d : Value) : World := (((w.setCell ⟨g, 0, none⟩ a).setCell ⟨g, 1, none⟩ b).setCell ⟨g, 2, none⟩ c).setCell ⟨g, 3, none⟩ d
theorem set4_at {w : World} {g : Nat} {x0 x1 x2 x3 : Value} (h : w.heap[g]? = some (.cells #[x0, x1, x2, x3] 51 (0, 0))) (a b c d : Value) : (set4 w g a b c d).heap[g]? = some (.cells #[a, b, c, d] 51 (0, 0)) := by
  have e0 : (w.setCell ⟨g, 0, none⟩ a).heap[g]? = some (.cells #[a, x1, x2, x3] 51 (0, 0)) := by rw [heap_setCell_same _ _ _ _ _ _ h]; rfl
  have e1 : ((w.setCell ⟨g, 0, none⟩ a).setCell ⟨g, 1, none⟩ b).heap[g]? = some (.cells #[a, b, x2, x3] 51 (0, 0)) := by rw [heap_setCell_same _ _ _ _ _ _ e0]; rfl
  have e2 : (((w.setCell ⟨g, 0, none⟩ a).setCell ⟨g, 1, none⟩ b).setCell ⟨g, 2, none⟩ c).heap[g]? = some (.cells #[a, b, c, x3] 51 (0, 0)) := by rw [heap_setCell_same _ _ _ _ _ _ e1]; rfl
  unfold set4
  rw [heap_setCell_same _ _ _ _ _ _ e2]; rfl
theorem set4_below {w0 w : World} {g B : Nat} (h : Below B w0 w) (hg : B ≤ g) (a b c d : Value) : Below B w0 (set4 w g a b c d) :=
  (((h.setCell (p := ⟨g, 0, none⟩) hg a).setCell (p := ⟨g, 1, none⟩) hg b).setCell (p := ⟨g, 2, none⟩) hg c).setCell (p := ⟨g, 3, none⟩) hg d
def o34 : Obj := .cells #[.int .i64 0, .int .i64 0, .int .i64 0, .int .u32 0] 51 (0, 0)
theorem set4_other {w : World} {g k : Nat} (hk : k ≠ g) (a b c d : Value) : (set4 w g a b c d).heap[k]? = w.heap[k]? := by
  unfold set4
  rw [heap_setCell_other _ _ _ _ hk, heap_setCell_other _ _ _ _ hk, heap_setCell_other _ _ _ _ hk, heap_setCell_other _ _ _ _ hk]
theorem cells34 {w : World} {g : Nat} {a b c d : Value} (h : w.heap[g]? = some (.cells #[a, b, c, d] 51 (0, 0))) : w.cell? ⟨g, 0, none⟩ = some a ∧ w.cell? ⟨g, 1, none⟩ = some b ∧ w.cell? ⟨g, 2, none⟩ = some c ∧ w.cell? ⟨g, 3, none⟩ = some d ∧ ∀ o, w.frozen? ⟨g, o, none⟩ = false :=
  ⟨(cell_of_row _ _ 0 _ 51 (0, 0) h).trans rfl, (cell_of_row _ _ 1 _ 51 (0, 0) h).trans rfl, (cell_of_row _ _ 2 _ 51 (0, 0) h).trans rfl, (cell_of_row _ _ 3 _ 51 (0, 0) h).trans rfl, fun o => frozen_of_row _ _ o _ _ h⟩
/-- These records are a walk from here. -/
def Wlk (gs : List EdV) : Int → List EdV → Prop
  | _, [] => True
  | a, x :: ms => x ∈ gs ∧ x.2.1 = a ∧ Wlk gs x.2.2.1 ms
def stops (a : Int) (ms : List EdV) : List Int := a :: ms.map (·.2.2.1)
theorem wlk_at {gs : List EdV} : ∀ {ms : List EdV} {a : Int} {i : Nat} {x : EdV}, Wlk gs a ms → ms[i]? = some x → x ∈ gs ∧ (stops a ms)[i]? = some x.2.1
  | [], a, i, x, _, h => by simp at h
  | y :: ms, a, 0, x, ⟨h1, h2, h3⟩, h => by
    have e : y = x := by simpa using h
    subst e
    exact ⟨h1, by rw [h2]; rfl⟩
  | y :: ms, a, i + 1, x, ⟨h1, h2, h3⟩, h => by
    have := wlk_at h3 (i := i) (x := x) (by simpa using h)
    exact this
theorem stops_take {a : Int} {ms : List EdV} {i : Nat} (h : i ≤ ms.length) : (stops a (ms.take i))[i]? = (stops a ms)[i]? := by
  unfold stops
  cases i with
  | zero => rfl
  | succ i => simp
theorem stops_len (a : Int) (ms : List EdV) : (stops a ms).length = ms.length + 1 := by simp [stops]
theorem stops_snoc {a : Int} {ms : List EdV} {i : Nat} {x : EdV} (h : ms[i]? = some x) : stops a (ms.take (i + 1)) = stops a (ms.take i) ++ [x.2.2.1] := by
  unfold stops
  rw [List.take_add_one, h]; simp
def ThrAns (w : World) (l : List Int) (e : Ending) (w' : World) : Prop := ∃ sa sn sc, e = .returned (.tuple #[.slice sa sn sc, .int .i64 0, .int .i64 0]) ∧ BRow w.heap.size w' (.slice sa sn sc) l ∧ Below w.heap.size w w'
set_option maxHeartbeats 4000000 in
set_option maxRecDepth 100000 in
theorem throughR {w : World} {vv ev kv : Value} {rd wr0 a : Int} {gs ms : List EdV} (h : ERow 0 w ev gs) (hn : (gs.map (·.1)).Nodup) (hk : NRow w kv (ms.map (·.1))) (hW : Wlk gs a ms) (hg1 : gs.length ≤ 2000) (hm1 : ms.length ≤ 2000) :
    Calls Tryz.prog 96 #[.agg #[vv, ev, .int .i64 rd, .int .i64 wr0], .int .i64 a, kv] w fun e w' => Hid (ThrAns w (stops a ms) e w') := by
  have hb := below_new w (oGr vv ev rd wr0)
  have hbx := heap_alloc_new w (oGr vv ev rd wr0)
  obtain ⟨ea, ec, rfl⟩ := rrow_shape h
  obtain ⟨ka, kc, hkv, -⟩ := brow_shape hk
  rw [List.length_map] at hkv
  obtain ⟨m, hm⟩ : ∃ m, m = gs.length := ⟨_, rfl⟩
  obtain ⟨n, hnn⟩ : ∃ n, n = ms.length := ⟨_, rfl⟩
  rw [← hnn] at hkv
  rw [← hm] at h hb hbx ⊢
  obtain ⟨gb, hgb⟩ : ∃ gb, gb = w.heap.size := ⟨_, rfl⟩
  obtain ⟨W1, hW1⟩ : ∃ W1, W1 = w.alloc (oGr vv (.slice ea m ec) rd wr0) := ⟨_, rfl⟩
  rw [← hW1] at hb hbx
  rw [← hgb] at hbx
  have hrow := row_new W1 #[.int .i64 a] [a] rfl (by simp)
  have hb2 := below_new W1 (.cells #[.int .i64 a] 3)
  have HN : Hid (m = gs.length ∧ n = ms.length ∧ m ≤ 2000 ∧ n ≤ 2000 ∧ (gs.map (·.1)).Nodup ∧ Wlk gs a ms) := ⟨hm, hnn, by omega, by omega, hn, hW⟩
  have hgl : gb < W1.heap.size := (Array.getElem?_eq_some_iff.1 hbx).1
  have HX : Hid (∀ W, Below W1.heap.size W1 W → (W.cell? ⟨gb, 0, none⟩ = some vv ∧ W.cell? ⟨gb, 1, none⟩ = some (.slice ea m ec) ∧ W.cell? ⟨gb, 2, none⟩ = some (.int .i64 rd) ∧ W.cell? ⟨gb, 3, none⟩ = some (.int .i64 wr0)) ∧ ERow 0 W (.slice ea m ec) gs ∧ NRow W kv (ms.map (·.1)) ∧ Below w.heap.size w W) := fun W hW' => by
    obtain ⟨c0, c1, c2, c3, -⟩ := cellsGr ((hW'.block gb hgl).trans hbx)
    exact ⟨⟨c0, c1, c2, c3⟩, rrow_below (rrow_below h hb) hW', nrow_below (nrow_below hk hb) hW', hb.trans (hW'.mono hb.size)⟩
  have H2 : Hid (BRow W1.heap.size (W1.alloc (.cells #[.int .i64 a] 3)) (.slice (some ⟨W1.heap.size, 0, none⟩) 1 1) [a] ∧ Below W1.heap.size W1 (W1.alloc (.cells #[.int .i64 a] 3)) ∧ w.heap.size ≤ W1.heap.size) := ⟨hrow, hb2, hb.size⟩
  have HW1 := hide hW1
  have HGB := hide hgb
  clear h hn hk hW hg1 hm1 hb hbx hm hnn hgb hW1 hrow hb2 hgl
  subst hkv
  go_enter Tryz.func96, Tryz.ntmps96
  go_upto_region 1 with fail
  rw [show w.alloc (.cells #[vv, .slice ea m ec, .int .i64 rd, .int .i64 wr0] 27 (0, 0)) = W1 from (unhide HW1).symm, ← unhide HGB]
  clear HW1 HGB
  go_wp2_with fail
  obtain ⟨B1, hB1⟩ : ∃ B1, B1 = W1.heap.size := ⟨_, rfl⟩
  rw [← hB1] at H2 HX ⊢
  have HB1 := hide hB1
  clear hB1
  go_loopw [10, 9] (fun s10 s9 wr => ∃ (i : Nat) (y : Option Addr) (yn yc : Nat), s10 = .int .i64 i ∧ s9 = .slice y yn yc ∧ Hid (i ≤ n ∧ BRow B1 wr (.slice y yn yc) (stops a (ms.take i)) ∧ Below B1 W1 wr)) (fun s10 _ _ => n - (intOf s10).toNat)
  case atStart => exact ⟨0, some ⟨B1, 0, none⟩, 1, 1, rfl, rfl, Nat.zero_le _, (unhide H2).1, (unhide H2).2.1⟩
  case round =>
    obtain ⟨i, y, yn, yc, rfl, rfl, HI⟩ := hrel
    obtain ⟨i1, i2, i3⟩ := unhide HI
    obtain ⟨l1, l2, l3, l4, l5, l6⟩ := unhide HN
    have hyn : yn = i + 1 := by
      obtain ⟨_, _, e, -⟩ := brow_shape i2
      injection e with _ e2 _
      rw [e2, stops_len, List.length_take]; omega
    by_cases hlt : i < n
    · obtain ⟨x, hx⟩ : ∃ x, ms[i]? = some x := ⟨_, List.getElem?_eq_getElem (by omega)⟩
      obtain ⟨hxm, hxs⟩ := wlk_at l6 hx
      obtain ⟨k, hk⟩ := List.mem_iff_getElem?.1 hxm
      have hkl := (List.getElem?_eq_some_iff.1 hk).1
      obtain ⟨⟨c0, c1, c2, c3⟩, hE, hK, -⟩ := unhide HX wr i3
      obtain ⟨ge, rfl⟩ := rrow_some hE (by omega)
      have hkx : (ms.map (·.1))[i]? = some x.1 := by rw [List.getElem?_map, hx]; rfl
      obtain ⟨gk, rfl⟩ := brow_some hK (by rw [List.length_map]; omega)
      have kk := brow_at hK hkx
      obtain ⟨gy, rfl⟩ := brow_some i2 (by rw [stops_len]; omega)
      have hsx : (stops a (ms.take i))[i]? = some x.2.1 := by rw [stops_take (by omega)]; exact hxs
      have CA : Hid (∀ W, Below wr.heap.size wr W → Calls Tryz.prog 58 #[.agg #[vv, .slice (some ⟨ge, 0, none⟩) m ec, .int .i64 rd, .int .i64 wr0], .int .i64 x.1] W fun r w' => r = .returned (.int .i64 (k : Nat)) ∧ Hid (Below W.heap.size W w')) := fun W hW => by
        have := atR (vv := vv) (rd := rd) (wr := wr0) (e := x.1) (rrow_below hE hW) (by omega)
        rwa [atOf_some l5 hk] at this
      have HM : Hid (∀ W, Below wr.heap.size wr W → ((W.cell? ⟨gb, 0, none⟩ = some vv ∧ W.cell? ⟨gb, 1, none⟩ = some (.slice (some ⟨ge, 0, none⟩) m ec) ∧ W.cell? ⟨gb, 2, none⟩ = some (.int .i64 rd) ∧ W.cell? ⟨gb, 3, none⟩ = some (.int .i64 wr0)) ∧ W.cell? ⟨gk, i, none⟩ = some (.int .i64 x.1)) ∧ (W.cell? ⟨ge, k * 4 + 1, none⟩ = some (.int .i64 x.2.1) ∧ W.cell? ⟨ge, k * 4 + 2, none⟩ = some (.int .i64 x.2.2.1) ∧ W.cell? ⟨gy, i, none⟩ = some (.int .i64 x.2.1)) ∧ BRow B1 W (.slice (some ⟨gy, 0, none⟩) yn yc) (stops a (ms.take i)) ∧ Below B1 W1 W) := fun W hW => by
        have h3 : Below B1 W1 W := i3.trans (hW.mono (by have := i3.size; have := unhide HB1; omega))
        obtain ⟨c', hE', hK', -⟩ := unhide HX W h3
        obtain ⟨-, q1, q2, -⟩ := erow_at hE' hk
        have hb' := brow_kept i2 (fun b e => hW.block b (i2.lt b e).2)
        exact ⟨⟨c', brow_at hK' hkx⟩, ⟨q1, q2, brow_at hb' hsx⟩, hb', h3⟩
      obtain ⟨j, hj⟩ : ∃ j, j = i + 1 := ⟨_, rfl⟩
      have zw : Hid (wrap64 ((i : Int) + 1) = (j : Int)) := by show wrap64 ((i : Int) + 1) = (j : Int); unfold wrap64; omega
      have HJ : Hid (j = i + 1 ∧ n - j < n - i ∧ j ≤ n ∧ stops a (ms.take j) = stops a (ms.take i) ++ [x.2.2.1] ∧ (stops a (ms.take i)).length ≤ 3000 ∧ B1 = W1.heap.size) := ⟨hj, by omega, by omega, by rw [hj]; exact stops_snoc hx, by rw [stops_len, List.length_take]; omega, unhide HB1⟩
      have z1 : (i : Int) < (n : Int) := by omega
      have z2 : (k : Int) < (m : Int) := by omega
      have z3 : (i : Int) < (yn : Int) := by omega
      have z4 : ¬ (k : Int) < 0 := by omega
      clear HI i1 i2 i3 l1 l2 l3 l4 l5 l6 hyn hlt hx hxm hxs hk hkl hE hK hkx hsx hj
      go_upto_region 5 with fail
      refine wp_region_noPanic ?_
      refine regionL [] (fun y => (y.cell? ⟨gb, 0, none⟩ = some vv ∧ y.cell? ⟨gb, 1, none⟩ = some (.slice (some ⟨ge, 0, none⟩) m ec) ∧ y.cell? ⟨gb, 2, none⟩ = some (.int .i64 rd) ∧ y.cell? ⟨gb, 3, none⟩ = some (.int .i64 wr0)) ∧ y.cell? ⟨gk, i, none⟩ = some (.int .i64 x.1)) (by kernel_rfl) ⟨⟨c0, c1, c2, c3⟩, kk⟩ (fun hHeld => ?_)
      refine takeL (i := 0) (v := ?t2v0) (some 20) rfl rfl (by kernel_rfl) (by kernel_rfl) (by kernel_rfl) (by kernel_rfl) (by kernel_rfl) (fun _ _ _ h => h) (Or.inl ⟨by rfl, ?t2h0⟩) (by assumption) ?t2r0
      case t2h0 => (intro y hSu; (try dsimp only at hSu); go_simp; first | done | with_reducible rfl)
      (try simp only [Act.put, List.setIfInBounds_toArray, List.set_cons_zero, List.set_cons_succ])
      refine takeL (i := 1) (v := ?t2v1) (some 21) rfl rfl (by kernel_rfl) (by kernel_rfl) (by kernel_rfl) (by kernel_rfl) (by kernel_rfl) (fun _ _ _ h => h) (Or.inl ⟨by rfl, ?t2h1⟩) (by assumption) ?t2r1
      case t2h1 => (intro y hSu; (try dsimp only at hSu); go_simp; first | done | with_reducible rfl)
      (try simp only [Act.put, List.setIfInBounds_toArray, List.set_cons_zero, List.set_cons_succ])
      refine takeL (i := 2) (v := ?t2v2) (some 22) rfl rfl (by kernel_rfl) (by kernel_rfl) (by kernel_rfl) (by kernel_rfl) (by kernel_rfl) (fun _ _ _ h => h) (Or.inl ⟨by rfl, ?t2h2⟩) (by assumption) ?t2r2
      case t2h2 => (intro y hSu; (try dsimp only at hSu); go_simp; first | done | with_reducible rfl)
      (try simp only [Act.put, List.setIfInBounds_toArray, List.set_cons_zero, List.set_cons_succ])
      refine takeL (i := 3) (v := ?t2v3) (some 23) rfl rfl (by kernel_rfl) (by kernel_rfl) (by kernel_rfl) (by kernel_rfl) (by kernel_rfl) (fun _ _ _ h => h) (Or.inl ⟨by rfl, ?t2h3⟩) (by assumption) ?t2r3
      case t2h3 => (intro y hSu; (try dsimp only at hSu); go_simp; first | done | with_reducible rfl)
      (try simp only [Act.put, List.setIfInBounds_toArray, List.set_cons_zero, List.set_cons_succ])
      refine takeL (i := 4) (v := ?t2v4) (some 24) rfl rfl (by kernel_rfl) (by kernel_rfl) (by kernel_rfl) (by kernel_rfl) (by kernel_rfl) (fun _ _ _ h => h) (Or.inl ⟨by rfl, ?t2h4⟩) (by assumption) ?t2r4
      case t2h4 => (intro y hSu; (try dsimp only at hSu); go_simp; first | done | with_reducible rfl)
      (try simp only [Act.put, List.setIfInBounds_toArray, List.set_cons_zero, List.set_cons_succ])
      refine readyL (i := 5) (by kernel_rfl) rfl (fun K hK => ?_)
      go_simp
      refine (unhide CA _ (below_drewN (Below.refl _ _) 1)).mono ?_
      rintro e w5 ⟨rfl, hb5⟩
      have HB5 : Hid (Below wr.heap.size wr w5) := (below_drewN (Below.refl wr.heap.size wr) 1).trans ((unhide hb5).mono (below_drewN (Below.refl wr.heap.size wr) 1).size)
      clear CA hb5
      have HP := hide (unhide HM w5 (unhide HB5))
      (try dsimp only)
      refine hK.out _ _ (fun _ => (unhide HP).1) ?_
      clear hK K
      (try simp only [Act.put, List.setIfInBounds_toArray, List.set_cons_zero, List.set_cons_succ])
      have hH4 := (unhide HP).1
      refine takeL (i := 6) (v := ?t5v6) (some 11) rfl rfl (by kernel_rfl) (by kernel_rfl) (by kernel_rfl) (by kernel_rfl) (by kernel_rfl) (fun _ _ _ h => h) (Or.inl ⟨by rfl, ?t5h6⟩) (by assumption) ?t5r6
      case t5h6 => (intro y hSu; (try dsimp only at hSu); go_simp; first | done | with_reducible rfl)
      (try simp only [Act.put, List.setIfInBounds_toArray, List.set_cons_zero, List.set_cons_succ])
      refine doneL (by kernel_rfl) ?_ _
      refine NoPanic.normal ?_
      clear hHeld c0 c1 c2 c3 kk
      obtain ⟨⟨⟨c0, c1, c2, c3⟩, kk⟩, ⟨q1, q2, q3⟩, -, -⟩ := unhide HP
      have HA : Hid (∀ q, ∃ a' n' c' w', (∀ ty, (Builtin.append_ #[24, 24] ty #[.slice (some ⟨gy, 0, none⟩) yn yc, .slice (some ⟨(w5.drewN q).heap.size, 0, none⟩) 1 1]).run Tryz.prog ((w5.drewN q).alloc (.cells #[.int .i64 x.2.2.1] 3)) = .ok (.slice a' n' c') w') ∧ BRow B1 w' (.slice a' n' c') (stops a (ms.take j)) ∧ Below B1 W1 w') := fun q => by
        obtain ⟨-, -, hb', h3⟩ := unhide HM (w5.drewN q) (below_drewN (unhide HB5) q)
        obtain ⟨e1, e2, e3, e4, e5, e6⟩ := unhide HJ
        obtain ⟨a', n', c', w', r, g1, g2, -⟩ := run_app8 x.2.2.1 hb' (by have := h3.size; omega) (by omega)
        rw [← e4] at g1
        exact ⟨a', n', c', w', r, g1, h3.trans (g2.below (by have := h3.size; omega) (fun b e => (hb'.lt b e).1))⟩
      clear HP HM HB5
      go_upto_region 8 with fail
      go_quiet (fail)
      obtain ⟨a', n', c', w', r, g1, g2⟩ := unhide HA nq
      have HR := hide r
      have HE2 : Hid (BRow B1 w' (.slice a' n' c') (stops a (ms.take j)) ∧ Below B1 W1 w') := ⟨g1, g2⟩
      clear HA r g1 g2
      go_wp2_with (at_builtin; refine Lib.wpList_append_run _ rfl _ _ 24 24 rfl _ _ rfl rfl _ _ (unhide HR _) ?_)
      (try rw [unhide zw])
      exact ⟨⟨j, a', n', c', by first | rfl | (rw [(unhide HJ).1]; rfl), rfl, (unhide HJ).2.2.1, unhide HE2⟩, by have := unhide HJ; simp [intOf]; omega⟩
    · have z1 : ¬ (i : Int) < (n : Int) := by omega
      have HE : Hid (ThrAns w (stops a ms) (.returned (.tuple #[.slice y yn yc, .int .i64 0, .int .i64 0])) wr) := by
        rw [List.take_of_length_le (by omega)] at i2
        exact ⟨y, yn, yc, rfl, brow_low i2 (by have := (unhide H2).2.2; have := unhide HB1; omega), (unhide HX wr i3).2.2.2⟩
      clear HI i1 i2 i3 l1 l2 l3 l4 l5 l6 hyn hlt
      go_wp2_with fail
      go_ret3
      exact HE
end

end Go.Proofs.YtbmcibofecigeaaGreat
