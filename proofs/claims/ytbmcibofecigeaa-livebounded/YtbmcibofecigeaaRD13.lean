/- The reference's Dists: lowered until nothing can be. -/
import Derived.Test.YtbmcibofecigeaaRP13
import Derived.Test.YtbmcibofecigeaaLvO14
import Derived.Test.YtbmcibofecigeaaPath13
namespace Go.Proofs.Ytbmcibofecigeaa

section
open Go.RowKit Go.Maps

end

section
open Go.RowKit Go.Maps
/-- Words in memory. -/
def encU (x : Nat) : List Value := [.int .u32 (x : Nat)]
theorem kitU : Kit Nat 1 encU := ⟨by omega, fun _ => rfl, fun x v hv => by simp [encU] at hv; rcases hv with rfl; rfl⟩
abbrev URow (B : Nat) (w : World) (v : Value) (us : List Nat) : Prop := RRow 31 1 encU B w v us
theorem infoU : (Try.prog.info? 31).map (fun i => (i.zero, i.size, i.bytes)) = some (some (.int .u32 0), 1, 4) := by kernel_rfl
theorem urow_at {B : Nat} {w : World} {g n c i : Nat} {us : List Nat} {x : Nat} (h : URow B w (.slice (some ⟨g, 0, none⟩) n c) us) (hi : us[i]? = some x) : w.cell? ⟨g, i, none⟩ = some (.int .u32 (x : Nat)) := by
  have := rrow_at kitU h hi (j := 0) rfl
  rwa [Nat.mul_one, Nat.add_zero] at this
theorem urow_set {B : Nat} {w : World} {g n c i : Nat} {us : List Nat} {x : Nat} (y : Nat) (h : URow B w (.slice (some ⟨g, 0, none⟩) n c) us) (hi : us[i]? = some x) : URow B (w.setCell ⟨g, i, none⟩ (.int .u32 (y : Nat))) (.slice (some ⟨g, 0, none⟩) n c) (us.set i y) := by
  have := rrow_set kitU h hi (x' := y) (j := 0) (by omega) (u := .int .u32 (y : Nat)) rfl
  rwa [Nat.mul_one, Nat.add_zero] at this
theorem mkU {n : Nat} (hn : n ≤ 1000000) (w : World) : (Instr.makeSlice 38 (.int .i64 (n : Nat)) (.int .i64 (n : Nat))).run Try.prog w = .ok (.slice (some ⟨w.heap.size, 0, none⟩) n n) (w.alloc (.cells (madeCells #[.int .u32 0] n) 31)) :=
  run_make_row' 38 31 (.int .u32 0) 4 Try.underlying38 infoU rfl .i64 .i64 n (by omega) (by omega) w
theorem flat_repU (n : Nat) : (List.replicate n 0).flatMap encU = List.replicate n (Value.int .u32 0) := by
  induction n with
  | zero => rfl
  | succ n ih => rw [List.replicate_succ, List.flatMap_cons, ih, List.replicate_succ]; rfl
theorem urow_made {n : Nat} (hn : n ≤ 1000000) (w : World) : URow w.heap.size (w.alloc (.cells (madeCells #[.int .u32 0] n) 31)) (.slice (some ⟨w.heap.size, 0, none⟩) n n) (List.replicate n 0) := by
  have hs : (madeCells #[.int .u32 0] n).size = n := by rw [← Array.length_toList, made_list, List.length_replicate]
  refine ⟨by rw [flat_len kitU], .inr ⟨w.heap.size, n, madeCells #[.int .u32 0] n, by rw [List.length_replicate], Nat.le_refl _, heap_alloc_new _ _, by rw [List.length_replicate]; exact Nat.le_refl _, by unfold maxLen; omega, by rw [hs, Nat.mul_one], ?_⟩⟩
  rw [made_list, flat_repU, List.length_replicate, Nat.mul_one, List.take_of_length_le (by simp)]
/-- The place of a number among these records, or -1. -/
def atOf (gs : List EdV) (e : Int) : Int := placeOf (gs.map (·.1)) e
theorem atOf_some {gs : List EdV} {x : EdV} {i : Nat} (hn : (gs.map (·.1)).Nodup) (h : gs[i]? = some x) : atOf gs x.1 = (i : Int) := by
  have h1 : (gs.map (·.1))[i]? = some x.1 := by rw [List.getElem?_map, h]; rfl
  unfold atOf placeOf
  rw [if_pos (List.mem_of_getElem? h1)]
  obtain ⟨l1, e1⟩ := List.getElem?_eq_some_iff.1 h1
  rw [← e1, hn.idxOf_getElem i l1]
theorem idx_le : ∀ {l : List Int} {i : Nat} {x : Int}, l[i]? = some x → l.idxOf x ≤ i
  | [], i, x, h => by simp at h
  | y :: l, i, x, h => by
    rw [List.idxOf_cons]
    by_cases e : y = x
    · rw [e]; simp
    · have hb : (y == x) = false := by simpa using e
      rw [hb]
      cases i with
      | zero => exact absurd (by simpa using h) e
      | succ i => have := idx_le (l := l) (i := i) (x := x) (by simpa using h); simpa using this
def NotIn (gs : List EdV) (e : Int) (i : Nat) : Prop := ∀ (j : Nat) (y : EdV), j < i → gs[j]? = some y → y.1 ≠ e
theorem atOf_first {gs : List EdV} {e : Int} {i : Nat} {x : EdV} (h : NotIn gs e i) (hx : gs[i]? = some x) (he : x.1 = e) : atOf gs e = (i : Int) := by
  have h1 : (gs.map (·.1))[i]? = some e := by rw [List.getElem?_map, hx, ← he]; rfl
  have hm := List.mem_of_getElem? h1
  unfold atOf placeOf
  rw [if_pos hm]
  have h2 := idx_some hm
  have hle : (gs.map (·.1)).idxOf e ≤ i := idx_le h1
  rcases Nat.lt_or_ge ((gs.map (·.1)).idxOf e) i with q | q
  · rw [List.getElem?_map] at h2
    cases hy : gs[(gs.map (·.1)).idxOf e]? with
    | none => rw [hy] at h2; cases h2
    | some y => rw [hy] at h2; exact absurd (Option.some.inj h2) (h _ y q hy)
  · have : (gs.map (·.1)).idxOf e = i := by omega
    rw [this]
theorem atOf_none {gs : List EdV} {e : Int} (h : NotIn gs e gs.length) : atOf gs e = -1 := by
  unfold atOf placeOf
  rw [if_neg]
  intro hm
  obtain ⟨x, hx, rfl⟩ := List.mem_map.1 hm
  obtain ⟨i, hi⟩ := List.mem_iff_getElem?.1 hx
  exact h i x (List.getElem?_eq_some_iff.1 hi).1 hi rfl
set_option maxHeartbeats 2000000 in
set_option maxRecDepth 100000 in
theorem atR {w : World} {vv ev : Value} {rd wr e : Int} {gs : List EdV} (h : ERow 0 w ev gs) (hl : gs.length ≤ 100000) :
    Calls Try.prog 11 #[.agg #[vv, ev, .int .i64 rd, .int .i64 wr], .int .i64 e] w fun r w' => r = .returned (.int .i64 (atOf gs e)) ∧ Hid (Below w.heap.size w w') := by
  have hb := below_new w (oGr vv ev rd wr)
  have h1 := rrow_below h hb
  obtain ⟨-, c1, -, -, -⟩ := cellsGr (heap_alloc_new w (oGr vv ev rd wr))
  have HB := hide hb
  obtain ⟨a, c, hvv⟩ := rrow_shape h1
  obtain ⟨n, hn⟩ : ∃ n, n = gs.length := ⟨_, rfl⟩
  rw [← hn] at hvv
  have HC := hide h1
  have HN : Hid (n = gs.length ∧ n ≤ 100000) := ⟨hn, by omega⟩
  generalize hrr : atOf gs e = rr
  have HRR := hide hrr
  clear h h1 hb hl hn hrr
  subst hvv
  go_enter Try.func11, Try.ntmps11
  go_upto_region 1 with fail
  change Code.wp _ _ _ _ (w.alloc (oGr vv (.slice a n c) rd wr))
  generalize w.alloc (oGr vv (.slice a n c) rd wr) = wb at *
  obtain ⟨bb, hbb⟩ : ∃ bb, bb = w.heap.size := ⟨_, rfl⟩
  rw [← hbb] at c1 ⊢
  clear hbb
  go_wp2_with fail
  go_loopw [5] (fun s5 wr => ∃ i : Nat, s5 = .int .i64 (i : Nat) ∧ wr = wb ∧ Hid (i ≤ n ∧ NotIn gs e i)) (fun s5 _ => n - (intOf s5).toNat)
  case atStart => exact ⟨0, rfl, rfl, Nat.zero_le _, fun j _ hj => absurd hj (Nat.not_lt_zero _)⟩
  case round =>
    obtain ⟨i, rfl, rfl, HI⟩ := hrel
    obtain ⟨i1, i2⟩ := unhide HI
    obtain ⟨l1, l2⟩ := unhide HN
    by_cases hlt : i < n
    · obtain ⟨x, hx⟩ : ∃ x, gs[i]? = some x := ⟨_, List.getElem?_eq_getElem (by omega)⟩
      obtain ⟨g, rfl⟩ := rrow_some (unhide HC) (by omega)
      obtain ⟨k0, -, -, -⟩ := erow_at (unhide HC) hx
      have z1 : (i : Int) < (n : Int) := by omega
      obtain ⟨j, hj⟩ : ∃ j, j = i + 1 := ⟨_, rfl⟩
      have zw : Hid (wrap64 ((i : Int) + 1) = (j : Int)) := by show wrap64 ((i : Int) + 1) = (j : Int); unfold wrap64; omega
      by_cases hxe : x.1 = e
      · have HG : Hid (rr = (i : Int)) := by show rr = (i : Int); rw [← unhide HRR]; exact atOf_first i2 hx hxe
        subst hxe
        clear HI i1 i2 l1 l2 hlt hx hj
        go_wp2_with fail
        go_ret
        exact ⟨by rw [unhide HG]; rfl, HB⟩
      · have z3 : (x.1 == e) = false := by simpa using hxe
        have HJ : Hid (j = i + 1 ∧ j ≤ n ∧ NotIn gs e j ∧ n - j < n - i) := ⟨hj, by omega, fun q y hq hy => by
          by_cases eq : q = i
          · rw [eq, hx] at hy; rw [← Option.some.inj hy]; exact hxe
          · exact i2 q y (by omega) hy, by omega⟩
        clear HI i1 i2 l1 l2 hlt hx hj hxe
        go_wp2_with fail
        (try rw [unhide zw])
        exact ⟨⟨j, by first | rfl | (rw [(unhide HJ).1]; rfl), trivial, (unhide HJ).2.1, (unhide HJ).2.2.1⟩, by have := (unhide HJ).2.2.2; simp [intOf]; omega⟩
    · have z1 : ¬ (i : Int) < (n : Int) := by omega
      have HG : Hid (rr = -1) := by
        show rr = -1
        rw [← unhide HRR]; exact atOf_none (fun q y hq hy => i2 q y (by omega) hy)
      clear HI i1 i2 l1 l2 hlt
      go_wp2_with fail
      go_ret
      exact ⟨by rw [unhide HG]; rfl, HB⟩
end

section
open Go.RowKit Go.Maps
theorem below_set {w W : World} {b o : Nat} {v : Value} (h : Below w.heap.size w W) (hb : w.heap.size ≤ b) : Below w.heap.size w (W.setCell ⟨b, o, none⟩ v) := h.trans ((turned_setCell (S := fun j => j = b) W ⟨b, o, none⟩ v rfl).below h.size (fun j e => by omega))
def uA (us : List Nat) (q : Nat) : Nat := us.getD q 0
/-- Distances of cheapest walks: no edge makes its end nearer, and whatever no edge lowers lies nowhere above them. -/
structure Lst (ys : List Int) (gs : List EdV) (s : Int) (far : Nat → Bool) (bits : Nat → Nat) : Prop where
  src : s ∈ ys
  rise : ys.Pairwise (· < ·)
  l1 : ys.length ≤ 1000
  l2 : gs.length ≤ 2000
  ok : ∀ y ∈ gs, y.2.1 ∈ ys ∧ y.2.2.1 ∈ ys ∧ 0 ≤ y.2.2.2 ∧ y.2.2.2 < 2139095040
  st : far (plc ys s) = false ∧ bits (plc ys s) = 0
  le_ : ∀ p, bits p ≤ 2139095040
  han : ∀ y ∈ gs, far (plc ys y.2.1) = false → far (plc ys y.2.2.1) = false ∧ bits (plc ys y.2.2.1) ≤ M.addC (bits (plc ys y.2.1)) y.2.2.2.toNat
  up : ∀ us : List Nat, uA us (plc ys s) = 0 → (∀ y ∈ gs, uA us (plc ys y.2.1) ≠ 4294967295 → uA us (plc ys y.2.2.1) ≤ M.addC (uA us (plc ys y.2.1)) y.2.2.2.toNat) → ∀ q, q < ys.length → far q = false → uA us q ≤ bits q
def Clos (ys : List Int) (us : List Nat) (y : EdV) : Prop := uA us (plc ys y.2.1) ≠ 4294967295 → uA us (plc ys y.2.2.1) ≤ M.addC (uA us (plc ys y.2.1)) y.2.2.2.toNat
/-- In the midst. -/
structure DI (ys : List Int) (s : Int) (far : Nat → Bool) (bits : Nat → Nat) (us : List Nat) : Prop where
  len : us.length = ys.length
  st : uA us (plc ys s) = 0
  lo : ∀ q, uA us q ≠ 4294967295 → q < ys.length → far q = false ∧ bits q ≤ uA us q
  fin : ∀ q, uA us q = 4294967295 ∨ uA us q ≤ 2139095040
theorem uA_set {us : List Nat} {v c : Nat} (hv : v < us.length) (q : Nat) : uA (us.set v c) q = if q = v then c else uA us q := by
  unfold uA
  rw [List.getD_eq_getElem?_getD, List.getD_eq_getElem?_getD]
  by_cases h : q = v
  · subst h; rw [if_pos rfl, List.getElem?_set_self hv]; rfl
  · rw [if_neg h, List.getElem?_set_ne (fun e => h e.symm)]
theorem uA_at {us : List Nat} {q x : Nat} (h : us[q]? = some x) : uA us q = x := by unfold uA; rw [List.getD_eq_getElem?_getD, h]; rfl
theorem at_uA {us : List Nat} {q : Nat} (h : q < us.length) : us[q]? = some (uA us q) := by unfold uA; rw [List.getD_eq_getElem?_getD, List.getElem?_eq_getElem h]; rfl
theorem sum_set : ∀ {us : List Nat} {v c : Nat}, v < us.length → c < uA us v → (us.set v c).sum < us.sum
  | [], v, c, h, _ => by simp at h
  | x :: us, 0, c, _, h => by
    have h1 : c < x := h
    simp only [List.set_cons_zero, List.sum_cons]; omega
  | x :: us, v + 1, c, h, h2 => by
    have := sum_set (us := us) (v := v) (c := c) (by simpa using h) h2
    simp only [List.set_cons_succ, List.sum_cons]; omega
theorem DI.step {ys : List Int} {gs : List EdV} {s : Int} {far : Nat → Bool} {bits : Nat → Nat} {us : List Nat} (hL : Lst ys gs s far bits) (h : DI ys s far bits us) {y : EdV} (hy : y ∈ gs) (h1 : uA us (plc ys y.2.1) ≠ 4294967295) {c : Nat} (hc : c = M.addC (uA us (plc ys y.2.1)) y.2.2.2.toNat) (h2 : c < uA us (plc ys y.2.2.1)) :
    DI ys s far bits (us.set (plc ys y.2.2.1) c) ∧ (us.set (plc ys y.2.2.1) c).sum < us.sum := by
  obtain ⟨o1, o2, o3, o4⟩ := hL.ok y hy
  have hu := plc_lt o1
  have hv := plc_lt o2
  have hvl : plc ys y.2.2.1 < us.length := by rw [h.len]; exact hv
  have hle : uA us (plc ys y.2.1) ≤ 2139095040 := (h.fin _).resolve_left h1
  obtain ⟨a1, a2⟩ := h.lo _ h1 hu
  obtain ⟨b1, b2⟩ := hL.han y hy a1
  have hcI : c ≤ 2139095040 := by rw [hc]; exact M.addC_le hle (by omega)
  refine ⟨⟨by rw [List.length_set]; exact h.len, ?_, fun q hq hql => ?_, fun q => ?_⟩, sum_set hvl h2⟩
  · rw [uA_set hvl, if_neg]
    · exact h.st
    · intro e
      rw [← e, h.st] at h2; omega
  · rw [uA_set hvl] at hq ⊢
    by_cases e : q = plc ys y.2.2.1
    · rw [if_pos e, e]
      refine ⟨b1, Nat.le_trans b2 ?_⟩
      rw [hc]; exact M.addC_mono (hL.le_ _) hle (by omega) a2
    · rw [if_neg e] at hq ⊢; exact h.lo q hq hql
  · rw [uA_set hvl]
    by_cases e : q = plc ys y.2.2.1
    · rw [if_pos e]; exact .inr hcI
    · rw [if_neg e]; exact h.fin q
/-- What is told of a graph. -/
def refD (n : Nat) (far : Nat → Bool) (bits : Nat → Nat) : List Nat := (List.range n).map (fun q => if far q = true then 4294967295 else bits q)
theorem DI.done {ys : List Int} {gs : List EdV} {s : Int} {far : Nat → Bool} {bits : Nat → Nat} {us : List Nat} (hL : Lst ys gs s far bits) (h : DI ys s far bits us) (hc : ∀ y ∈ gs, Clos ys us y) : us = refD ys.length far bits := by
  have hu := hL.up us h.st hc
  apply List.ext_getElem?
  intro q
  rcases Nat.lt_or_ge q ys.length with hq | hq
  · unfold refD
    rw [List.getElem?_map, List.getElem?_range hq, at_uA (by rw [h.len]; exact hq)]
    show some (uA us q) = some (if far q = true then 4294967295 else bits q)
    congr 1
    cases hf : far q with
    | true =>
      rw [if_pos rfl]
      by_cases e : uA us q = 4294967295
      · exact e
      · have := (h.lo q e hq).1; rw [hf] at this; cases this
    | false =>
      rw [if_neg (by decide)]
      have h1 := hu q hq hf
      have h2 := hL.le_ q
      have := (h.lo q (by omega) hq).2
      omega
  · rw [List.getElem?_eq_none (by rw [h.len]; exact hq), List.getElem?_eq_none (by unfold refD; simp; omega)]
theorem DI.init {ys : List Int} {gs : List EdV} {s : Int} {far : Nat → Bool} {bits : Nat → Nat} {us : List Nat} (hL : Lst ys gs s far bits) (hl : us.length = ys.length) (h : ∀ (j : Nat) (v : Int), ys[j]? = some v → us[j]? = some (if v = s then 0 else 4294967295)) : DI ys s far bits us := by
  have hst := at_plc hL.rise hL.src
  refine ⟨hl, by rw [uA_at (h _ _ hst), if_pos rfl], fun q hq hql => ?_, fun q => ?_⟩
  · obtain ⟨v, hv⟩ : ∃ v, ys[q]? = some v := ⟨_, List.getElem?_eq_getElem hql⟩
    have e := uA_at (h q v hv)
    by_cases hvs : v = s
    · have : q = plc ys s := by rw [← hvs]; exact (plc_at hL.rise hv).symm
      rw [this, hL.st.2]; exact ⟨hL.st.1, Nat.zero_le _⟩
    · rw [if_neg hvs] at e; exact absurd e hq
  · rcases Nat.lt_or_ge q ys.length with hq | hq
    · obtain ⟨v, hv⟩ : ∃ v, ys[q]? = some v := ⟨_, List.getElem?_eq_getElem hq⟩
      rw [uA_at (h q v hv)]
      split
      · exact .inr (by omega)
      · exact .inl rfl
    · refine .inr ?_
      unfold uA
      rw [List.getD_eq_getElem?_getD, List.getElem?_eq_none (by omega)]
      show 0 ≤ _; omega
/-- The distances in memory, beside the graph's box. -/
structure DsM (w : World) (gb : Nat) (o : Obj) (g n : Nat) (us : List Nat) (W : World) : Prop where
  bl : Below w.heap.size w W
  bx : W.heap[gb]? = some o
  row : URow w.heap.size W (.slice (some ⟨g, 0, none⟩) n n) us
  ne : g ≠ gb
section
variable {w W W' : World} {gb g n : Nat} {o : Obj} {us : List Nat}
theorem DsM.g_lt (h : DsM w gb o g n us W) : w.heap.size ≤ g ∧ g < W.heap.size := h.row.lt g rfl
theorem DsM.below (h : DsM w gb o g n us W) (hb : Below W.heap.size W W') : DsM w gb o g n us W' :=
  ⟨h.bl.trans (hb.mono h.bl.size), (hb.block gb (Array.getElem?_eq_some_iff.1 h.bx).1).trans h.bx, rrow_below h.row hb, h.ne⟩
theorem DsM.set (h : DsM w gb o g n us W) {i x : Nat} (hi : us[i]? = some x) (y : Nat) : DsM w gb o g n (us.set i y) (W.setCell ⟨g, i, none⟩ (.int .u32 (y : Nat))) :=
  ⟨below_set h.bl h.g_lt.1, (heap_setCell_other _ _ _ _ (show gb ≠ g from fun e => h.ne e.symm)).trans h.bx, urow_set y h.row hi, h.ne⟩
theorem DsM.setFar (h : DsM w gb o g n us W) {i x : Nat} (hi : us[i]? = some x) : DsM w gb o g n (us.set i 4294967295) (W.setCell ⟨g, i, none⟩ (.int .u32 4294967295)) := h.set hi 4294967295
theorem DsM.set0 (h : DsM w gb o g n us W) {i x : Nat} (hi : us[i]? = some x) : DsM w gb o g n (us.set i 0) (W.setCell ⟨g, i, none⟩ (.int .u32 0)) := h.set hi 0
end
/-- So far the beginning is laid. -/
def Begun (ys : List Int) (s : Int) (us : List Nat) (i : Nat) : Prop := us.length = ys.length ∧ ∀ (j : Nat) (v : Int), j < i → ys[j]? = some v → us[j]? = some (if v = s then 0 else 4294967295)
theorem Begun.next {ys : List Int} {s v : Int} {us : List Nat} {i c : Nat} (h : Begun ys s us i) (hv : ys[i]? = some v) (hc : c = if v = s then 0 else 4294967295) : Begun ys s (us.set i c) (i + 1) := by
  refine ⟨by rw [List.length_set]; exact h.1, fun j u hj hu => ?_⟩
  by_cases e : j = i
  · subst e
    rw [hv] at hu
    rw [List.getElem?_set_self (by rw [h.1]; exact (List.getElem?_eq_some_iff.1 hv).1), hc, Option.some.inj hu]
  · rw [List.getElem?_set_ne (fun z => e z.symm)]; exact h.2 j u (by omega) hu
/-- What Dists answers. -/
def RDAns (w : World) (us : List Nat) (e : Ending) (w' : World) : Prop := ∃ g n, e = .returned (.slice (some ⟨g, 0, none⟩) n n) ∧ n = us.length ∧ URow w.heap.size w' (.slice (some ⟨g, 0, none⟩) n n) us ∧ Below w.heap.size w w'
end

end Go.Proofs.Ytbmcibofecigeaa
