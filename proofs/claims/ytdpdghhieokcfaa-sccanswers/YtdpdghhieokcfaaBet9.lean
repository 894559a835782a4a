/- between: the arcs between components, counted and listed. -/
import Derived.Test.YtdpdghhieokcfaaComp92
import Derived.Test.YtdpdghhieokcfaaPopI
namespace Go.Proofs.Ytdpdghhieokcfaa
open Go.RowKit Go.Maps T9
namespace T9
/-- Where arcs lead from u; how many lead to m. -/
def owOf (ar : List (Nat × Nat)) (u : Nat) : List Nat := (ar.filter (fun a => decide (a.1 = u))).map (fun a => a.2)
def wtOf (ar : List (Nat × Nat)) (m : Nat) : Nat := ar.countP (fun a => decide (a.2 = m))
theorem owOf_same (ar : List (Nat × Nat)) (u v : Nat) : owOf (ar ++ [(u, v)]) u = owOf ar u ++ [v] := by unfold owOf; rw [List.filter_append, List.map_append]; simp
theorem owOf_other (ar : List (Nat × Nat)) {u v x : Nat} (h : x ≠ u) : owOf (ar ++ [(u, v)]) x = owOf ar x := by
  unfold owOf; rw [List.filter_append, List.map_append]
  have : ([(u, v)].filter (fun a => decide (a.1 = x))) = [] := by simp; omega
  rw [this]; simp
theorem wtOf_same (ar : List (Nat × Nat)) (u v : Nat) : wtOf (ar ++ [(u, v)]) v = wtOf ar v + 1 := by unfold wtOf; rw [List.countP_append]; simp
theorem wtOf_other (ar : List (Nat × Nat)) {u v x : Nat} (h : x ≠ v) : wtOf (ar ++ [(u, v)]) x = wtOf ar x := by
  unfold wtOf; rw [List.countP_append]
  have : [(u, v)].countP (fun a => decide (a.2 = x)) = 0 := by rw [List.countP_eq_zero]; intro a ha; rw [List.mem_singleton.1 ha]; simp; omega
  omega
theorem owOf_le (ar : List (Nat × Nat)) (u : Nat) : (owOf ar u).length ≤ ar.length := by unfold owOf; rw [List.length_map]; exact List.length_filter_le _ _
theorem wtOf_le (ar : List (Nat × Nat)) (m : Nat) : wtOf ar m ≤ ar.length := List.countP_le_length
/-- The arcs of the first p places, and of the first i arcs of the p-th. -/
def arPre (h : Nat → Nat) (nx : Nat → List Nat) (p i : Nat) : List (Nat × Nat) := arcsOf h nx p ++ (((nx p).take i).map (fun q => (h p, h q))).filter (fun a => decide (a.1 ≠ a.2))
theorem arPre_zero (h : Nat → Nat) (nx : Nat → List Nat) (p : Nat) : arPre h nx p 0 = arcsOf h nx p := by simp [arPre]
theorem arPre_all (h : Nat → Nat) (nx : Nat → List Nat) (p : Nat) : arPre h nx p (nx p).length = arcsOf h nx (p + 1) := by
  unfold arPre arcsOf
  rw [List.take_length, List.range_succ, List.flatMap_append]; simp
theorem arPre_in {h : Nat → Nat} {nx : Nat → List Nat} {p i q : Nat} (hq : (nx p)[i]? = some q) (hne : h p ≠ h q) : arPre h nx p (i + 1) = arPre h nx p i ++ [(h p, h q)] := by
  unfold arPre
  rw [take_snoc hq, List.map_append, List.filter_append, ← List.append_assoc]
  simp [hne]
theorem arPre_out {h : Nat → Nat} {nx : Nat → List Nat} {p i q : Nat} (hq : (nx p)[i]? = some q) (he : h p = h q) : arPre h nx p (i + 1) = arPre h nx p i := by
  unfold arPre
  rw [take_snoc hq, List.map_append, List.filter_append]
  simp [he]
theorem arcsOf_len {h : Nat → Nat} {nx : Nat → List Nat} {c : Nat} : ∀ {n : Nat}, (∀ p, p < n → (nx p).length ≤ c) → (arcsOf h nx n).length ≤ n * c
  | 0, _ => by simp [arcsOf]
  | n + 1, hc => by
    have ih := arcsOf_len (h := h) (n := n) (fun p hp => hc p (by omega))
    rw [← arPre_all]
    unfold arPre
    rw [List.length_append, Nat.add_mul, List.take_length]
    have h1 := List.length_filter_le (fun a : Nat × Nat => decide (a.1 ≠ a.2)) ((nx n).map (fun q => (h n, h q)))
    rw [List.length_map] at h1
    have := hc n (by omega)
    omega
theorem arPre_le {h : Nat → Nat} {nx : Nat → List Nat} {p i : Nat} : (arPre h nx p i).length ≤ (arcsOf h nx (p + 1)).length := by
  rw [← arPre_all]
  unfold arPre
  rw [List.length_append, List.length_append, List.take_length]
  have h1 : (((nx p).take i).map (fun q => (h p, h q))).filter (fun a => decide (a.1 ≠ a.2)) |>.Sublist ((((nx p)).map (fun q => (h p, h q))).filter (fun a => decide (a.1 ≠ a.2))) := List.Sublist.filter _ (List.Sublist.map _ (List.take_sublist _ _))
  have := h1.length_le
  omega
theorem arcsOf_mono {h : Nat → Nat} {nx : Nat → List Nat} {p n : Nat} (hp : p ≤ n) : (arcsOf h nx p).length ≤ (arcsOf h nx n).length := by
  induction n with
  | zero => rw [show p = 0 by omega]; exact Nat.le_refl _
  | succ n ih =>
    by_cases e : p = n + 1
    · rw [e]; exact Nat.le_refl _
    · refine Nat.le_trans (ih (by omega)) ?_
      rw [← arPre_all]; unfold arPre; rw [List.length_append]; omega
end T9
/-- What between has made so far. -/
structure BM (w0 : World) (n : Nat) (wv : Value) (ar : List (Nat × Nat)) (L : Nat → Nat) (ov : Value) (ovs : List Value) (w : World) : Prop where
  ll : LLat w0.heap.size L 10 w ov ovs (nxl n (owOf ar))
  wr : BRow w0.heap.size w wv (rowI n (fun m => ((wtOf ar m : Nat) : Int)))
  l2 : ∀ b, wv.ownBlock = some b → L b = 2
  below : Below w0.heap.size w0 w
section
variable {w0 w w' : World} {n : Nat} {wv : Value} {ar : List (Nat × Nat)} {L : Nat → Nat} {ovs : List Value}
theorem BM.drew {ov : Value} (h : BM w0 n wv ar L ov ovs w) (q : Nat) : BM w0 n wv ar L ov ovs (w.drewN q) :=
  ⟨h.ll.kept (fun _ _ _ => rfl), brow_kept h.wr (fun _ _ => rfl), h.l2, ⟨h.below.os, h.below.tape, h.below.output, h.below.size, h.below.block⟩⟩
/-- An arc from u to v: listed, then counted. -/
theorem BM.arc {go gv u v : Nat} (h : BM w0 n (.slice (some ⟨gv, 0, none⟩) n n) ar L (.slice (some ⟨go, 0, none⟩) n n) ovs w) (hu : u < n) (hv : v < n) (hl : ar.length ≤ 1000000) :
    ∃ x xn xc x' xn' xc' w', w.cell? ⟨go, u, none⟩ = some (.slice x xn xc) ∧ (∀ ty, (Builtin.append_ #[22, 22] ty #[.slice x xn xc, .slice (some ⟨w.heap.size, 0, none⟩) 1 1]).run Try.prog (w.alloc (.cells #[.int .i64 (v : Nat)] 3)) = .ok (.slice x' xn' xc') w') ∧
      w'.cell? ⟨go, u, none⟩ = some (.slice x xn xc) ∧ (∀ o, w'.frozen? ⟨go, o, none⟩ = false) ∧
      ((w'.setCell ⟨go, u, none⟩ (.slice x' xn' xc')).cell? ⟨gv, v, none⟩ = some (.int .i64 (wtOf ar v : Nat)) ∧ ∀ o, (w'.setCell ⟨go, u, none⟩ (.slice x' xn' xc')).frozen? ⟨gv, o, none⟩ = false) ∧
      ∃ L' ovs', BM w0 n (.slice (some ⟨gv, 0, none⟩) n n) (ar ++ [(u, v)]) L' (.slice (some ⟨go, 0, none⟩) n n) ovs' ((w'.setCell ⟨go, u, none⟩ (.slice x' xn' xc')).setCell ⟨gv, v, none⟩ (.int .i64 (wtOf ar v + 1 : Nat))) := by
  obtain ⟨xv, hx, hr⟩ := h.ll.inrow (nxl_at (owOf ar) hu)
  obtain ⟨x, xc, rfl, -⟩ := brow_shape hr
  obtain ⟨x', xn', xc', w', r, hr', ht, hn⟩ := run_app8 (v : Int) hr h.below.size (by rw [pl_len]; have := owOf_le ar u; omega)
  have hLx : ∀ b, (Value.slice x (pl (owOf ar u)).length xc).ownBlock = some b → L b = 10 + 1 + u := fun b e => h.ll.li u _ b hx e
  have hkn : w'.heap[go]? = w.heap[go]? := ht.block go (h.ll.outlt rfl).2 (fun e => by have := hLx go e; have := h.ll.lo go rfl; omega)
  have hcell := h.ll.cell hx
  have hpl : pl (owOf ar u) ++ [(v : Int)] = pl (owOf (ar ++ [(u, v)]) u) := by rw [owOf_same]; simp [pl]
  rw [hpl] at hr'
  have h3 := h.ll.put hx ht hr' hn
  rw [nxl_set (nx' := owOf (ar ++ [(u, v)])) (fun y hy => owOf_other ar hy)] at h3
  have hB : Below w0.heap.size w0 w' := h.below.trans (ht.below h.below.size (fun k e => (h.ll.inlt hx e).1))
  have hoth : ∀ b, L b ≠ 10 → L b ≠ 10 + 1 + u → b < w.heap.size → (w'.setCell ⟨go, u, none⟩ (.slice x' xn' xc')).heap[b]? = w.heap[b]? := fun b q1 q2 q3 => (heap_setCell_other _ _ _ _ (fun q => q1 (by rw [show b = go from q]; exact h.ll.lo go rfl))).trans (ht.block b q3 (fun q => q2 (hLx b q)))
  have hw := brow_kept h.wr (w' := w'.setCell ⟨go, u, none⟩ (.slice x' xn' xc')) (fun b e => hoth b (by rw [h.l2 b e]; decide) (by rw [h.l2 b e]; omega) (h.wr.lt b e).2)
  obtain ⟨hf, hs⟩ := brow_set hw (k := v) ((wtOf ar v + 1 : Nat) : Int) hv
  have hLv : L gv = 2 := h.l2 gv rfl
  have hgv := (h.wr.lt gv rfl).2
  refine ⟨x, _, xc, x', xn', xc', w', hcell, r, (cell_of_heap (x := ⟨go, u, none⟩) hkn).trans hcell, ?_, ⟨brow_at hw (rowI_at _ hv), hf⟩, lab L w.heap.size (10 + 1 + u), ovs.set u (.slice x' xn' xc'), ⟨?_, ?_, ?_, ?_⟩⟩
  · intro o
    rw [World.frozen?_of_block (w := w) hkn]
    exact h.ll.frozen o
  · refine h3.kept (fun b hb hLb => heap_setCell_other _ _ _ _ (fun q => ?_))
    rw [show b = gv from q] at hLb
    have : lab L w.heap.size (10 + 1 + u) gv = 2 := (if_pos hgv).trans hLv
    omega
  · rw [rowI_set] at hs
    rw [← rowI_congr (f := fun m => if m = v then ((wtOf ar v + 1 : Nat) : Int) else ((wtOf ar m : Nat) : Int)) (fun m _ => ?_)]
    · exact hs
    · by_cases e : m = v
      · rw [if_pos e, e, wtOf_same]
      · rw [if_neg e, wtOf_other ar e]
  · exact fun b e => (if_pos (h.wr.lt b e).2).trans (h.l2 b e)
  · exact (hB.setCell (h.ll.outlt (b := go) rfl).1 _).setCell (h.wr.lt gv rfl).1 _
end
def Pic3 (w0 : World) (n : Nat) (b2 b5 : Bool) (x14 x17 : Value) (w : World) : Prop := ∃ L, Below w0.heap.size w0 w ∧ (b2 = true → ∃ go, x14 = .slice (some ⟨go, 0, none⟩) n n ∧ LLat w0.heap.size L 10 w x14 (List.replicate n (.slice none 0 0)) (List.replicate n [])) ∧ (b5 = true → ∃ gv, x17 = .slice (some ⟨gv, 0, none⟩) n n ∧ BRow w0.heap.size w x17 (List.replicate n 0) ∧ L gv = 2)
def ready3 (b2 b5 b6 : Bool) : List Nat := (if b2 then [] else [2]) ++ (if b5 then [] else [5]) ++ (if b2 && !b6 then [6] else []) ++ (if b5 && b6 then [7] else [])
def Inv3 (a0 : Act) (w0 : World) (n : Nat) (k : Nat) (l : Array Bool) (a : Act) (w : World) : Prop :=
  ∃ (b2 b5 b6 : Bool) (x14 x17 x4 : Value), l = #[true, true, b2, true, true, b5, b6, false] ∧ a = ((a0.put (some 14) x14).put (some 17) x17).put (some 4) x4 ∧ (!b2).toNat + (!b5).toNat + (!b6).toNat = k ∧ (b6 = true → b2 = true ∧ x4 = x14) ∧ Pic3 w0 n b2 b5 x14 x17 w
theorem ready3_ne {b2 b5 b6 : Bool} : ready3 b2 b5 b6 ≠ [] := by cases b2 <;> cases b5 <;> cases b6 <;> decide
theorem ready3_mem {b2 b5 b6 : Bool} {k i : Nat} (hc : (!b2).toNat + (!b5).toNat + (!b6).toNat = k + 1) (h7 : b6 = true → b2 = true) (hi : i ∈ ready3 b2 b5 b6) : (i = 2 ∧ b2 = false ∧ b6 = false) ∨ (i = 5 ∧ b5 = false) ∨ (i = 6 ∧ b2 = true ∧ b6 = false) := by
  revert hc hi h7
  cases b2 <;> cases b5 <;> cases b6 <;> simp [ready3] <;> omega
theorem cnt3_zero {b2 b5 b6 : Bool} (h : (!b2).toNat + (!b5).toNat + (!b6).toNat = 0) : b2 = true ∧ b5 = true ∧ b6 = true := by
  revert h
  cases b2 <;> cases b5 <;> cases b6 <;> simp
theorem bm_start {w0 w : World} {n go gv : Nat} (h : Pic3 w0 n true true (.slice (some ⟨go, 0, none⟩) n n) (.slice (some ⟨gv, 0, none⟩) n n) w) : ∃ L ovs, BM w0 n (.slice (some ⟨gv, 0, none⟩) n n) [] L (.slice (some ⟨go, 0, none⟩) n n) ovs w := by
  obtain ⟨L, hB, h1, h2⟩ := h
  obtain ⟨_, -, r1⟩ := h1 rfl
  obtain ⟨g, e, r2, l2⟩ := h2 rfl
  injection e with e
  injection e with e
  injection e with e
  subst e
  rw [nxl_nil] at r1
  rw [rep_rowI] at r2
  exact ⟨L, _, r1, r2, fun b e => by rw [← own_eq e]; exact l2, hB⟩
/-- What between leaves. -/
def BetAns (w : World) (n : Nat) (ar : List (Nat × Nat)) (ov wv : Value) (w' : World) : Prop := ∃ go gv L ovs, ov = .slice (some ⟨go, 0, none⟩) n n ∧ wv = .slice (some ⟨gv, 0, none⟩) n n ∧ BM w n wv ar L ov ovs w'
end Go.Proofs.Ytdpdghhieokcfaa
