/- read: the graph of two lists. -/
import Derived.Test.YtdpdghhieokcfaaLL9
namespace Go.Proofs.Ytdpdghhieokcfaa
open Go.RowKit Go.Maps T9
def oG9 (vv nv : Value) : Obj := .cells #[vv, nv] 64 (0, 0)
theorem cellsG9 {w : World} {b : Nat} {vv nv : Value} (h : w.heap[b]? = some (oG9 vv nv)) : w.cell? ⟨b, 0, none⟩ = some vv ∧ w.cell? ⟨b, 1, none⟩ = some nv ∧ ∀ o, w.frozen? ⟨b, o, none⟩ = false :=
  ⟨(cell_of_row _ _ 0 _ _ (0, 0) h).trans rfl, (cell_of_row _ _ 1 _ _ (0, 0) h).trans rfl, fun o => frozen_of_row _ _ o _ _ h⟩
/-- A graph in memory, made behind w0. -/
structure RD (w0 : World) (gb gn n : Nat) (vv : Value) (V : List Int) (nx : Nat → List Nat) (L : Nat → Nat) (vs : List Value) (w : World) : Prop where
  box : w.heap[gb]? = some (oG9 vv (.slice (some ⟨gn, 0, none⟩) n n))
  vr : BRow w0.heap.size w vv V
  ll : LLat w0.heap.size L 10 w (.slice (some ⟨gn, 0, none⟩) n n) vs (nxl n nx)
  l1 : L gb = 1
  l2 : ∀ b, vv.ownBlock = some b → L b = 2
  own : w0.heap.size ≤ gb
  below : Below w0.heap.size w0 w
section
variable {w0 w w' : World} {gb gn n : Nat} {vv : Value} {V : List Int} {nx nx' : Nat → List Nat} {L : Nat → Nat} {vs : List Value}
theorem RD.grow (h : RD w0 gb gn n vv V nx L vs w) (hb : Below w.heap.size w w') : RD w0 gb gn n vv V nx L vs w' :=
  ⟨(hb.block gb (heap_lt h.box)).trans h.box, brow_kept h.vr (fun b e => hb.block b (h.vr.lt b e).2), h.ll.below hb, h.l1, h.l2, h.own, h.below.trans (hb.mono h.below.size)⟩
theorem RD.drew (h : RD w0 gb gn n vv V nx L vs w) (q : Nat) : RD w0 gb gn n vv V nx L vs (w.drewN q) := h.grow ⟨rfl, rfl, rfl, Nat.le_refl _, fun _ _ => rfl⟩
/-- The vertices written anew in their place. -/
theorem RD.sorted {V' : List Int} (h : RD w0 gb gn n vv V nx L vs w) (hr : BRow w0.heap.size w' vv V') (hg : w.grownBy w' vv.ownBlock) : RD w0 gb gn n vv V' nx L vs w' := by
  have hk : ∀ b, b < w.heap.size → L b ≠ 2 → w'.heap[b]? = w.heap[b]? := fun b hb hL => hg.block b hb (fun e => hL (h.l2 b e.symm))
  exact ⟨(hk gb (heap_lt h.box) (by rw [h.l1]; decide)).trans h.box, hr, h.ll.kept (fun b hb hL => hk b hb (by omega)), h.l1, h.l2, h.own, h.below.grown hg h.below.size (fun k e => (h.vr.lt k e).1)⟩
/-- One arc more. -/
theorem RD.arc (h : RD w0 gb gn n vv V nx L vs w) {p q : Nat} (hp : p < n) (hl : (nx p).length ≤ 1000000) (h1 : ∀ x, x ≠ p → nx' x = nx x) (h2 : nx' p = nx p ++ [q]) :
    ∃ x xn xc x' xn' xc' w', w.cell? ⟨gn, p, none⟩ = some (.slice x xn xc) ∧ (∀ ty, (Builtin.append_ #[22, 22] ty #[.slice x xn xc, .slice (some ⟨w.heap.size, 0, none⟩) 1 1]).run Try.prog (w.alloc (.cells #[.int .i64 (q : Nat)] 3)) = .ok (.slice x' xn' xc') w') ∧
      (w.alloc (.cells #[.int .i64 (q : Nat)] 3)).heap[gb]? = some (oG9 vv (.slice (some ⟨gn, 0, none⟩) n n)) ∧ (w.alloc (.cells #[.int .i64 (q : Nat)] 3)).cell? ⟨gn, p, none⟩ = some (.slice x xn xc) ∧
      w'.heap[gb]? = some (oG9 vv (.slice (some ⟨gn, 0, none⟩) n n)) ∧ w'.cell? ⟨gn, p, none⟩ = some (.slice x xn xc) ∧ (∀ o, w'.frozen? ⟨gn, o, none⟩ = false) ∧
      ∃ L' vs', RD w0 gb gn n vv V nx' L' vs' (w'.setCell ⟨gn, p, none⟩ (.slice x' xn' xc')) := by
  obtain ⟨xv, hx, hr⟩ := h.ll.inrow (nxl_at nx hp)
  obtain ⟨x, xc, rfl, -⟩ := brow_shape hr
  obtain ⟨x', xn', xc', w', r, hr', ht, hn⟩ := run_app8 (q : Int) hr h.below.size (by rw [pl_len]; omega)
  have hb1 := below_new w (.cells #[.int .i64 (q : Nat)] 3)
  have hnew := h.grow hb1
  have hLx : ∀ b, (Value.slice x (pl (nx p)).length xc).ownBlock = some b → L b = 10 + 1 + p := fun b e => h.ll.li p _ b hx e
  have hkb : w'.heap[gb]? = w.heap[gb]? := ht.block gb (heap_lt h.box) (fun e => by have := hLx gb e; rw [h.l1] at this; omega)
  have hkn : w'.heap[gn]? = w.heap[gn]? := ht.block gn (h.ll.outlt rfl).2 (fun e => by have := hLx gn e; have := h.ll.lo gn rfl; omega)
  have hcell := h.ll.cell hx
  have hpl : pl (nx p) ++ [(q : Int)] = pl (nx' p) := by rw [h2]; simp [pl]
  rw [hpl] at hr'
  have h3 := h.ll.put hx ht hr' hn
  rw [nxl_set h1] at h3
  have hB : Below w0.heap.size w0 w' := h.below.trans (ht.below h.below.size (fun k e => (h.ll.inlt hx e).1))
  have hgn : gn ≠ gb := fun e => by have h5 := h.ll.lo gn rfl; rw [e, h.l1] at h5; omega
  refine ⟨x, _, xc, x', xn', xc', w', hcell, r, hnew.box, hnew.ll.cell hx, hkb.trans h.box, (cell_of_heap (x := ⟨gn, p, none⟩) hkn).trans hcell, ?_, lab L w.heap.size (10 + 1 + p), vs.set p (.slice x' xn' xc'), ?_⟩
  · intro o
    rw [World.frozen?_of_block (w := w) hkn]
    exact h.ll.frozen o
  · refine ⟨(heap_setCell_other _ _ _ _ (fun e => hgn e.symm)).trans (hkb.trans h.box), ?_, h3, (if_pos (heap_lt h.box)).trans h.l1, fun b e => (if_pos (h.vr.lt b e).2).trans (h.l2 b e), h.own, hB.setCell (h.ll.outlt (b := gn) rfl).1 _⟩
    refine brow_kept h.vr (fun b e => ?_)
    have hLb := h.l2 b e
    exact (heap_setCell_other _ _ _ _ (fun q => by have := h.ll.lo gn rfl; rw [show b = gn from q] at hLb; omega)).trans (ht.block b (h.vr.lt b e).2 (fun q => by have := hLx b q; omega))
end
/-- What is made at first. -/
def Pic2 (w0 : World) (V : List Int) (b1 b4 : Bool) (x15 x18 : Value) (w : World) : Prop := ∃ L, Below w0.heap.size w0 w ∧ (b1 = true → BRow w0.heap.size w x15 V ∧ ∀ g, x15.ownBlock = some g → L g = 2) ∧ (b4 = true → ∃ gn, x18 = .slice (some ⟨gn, 0, none⟩) V.length V.length ∧ LLat w0.heap.size L 10 w x18 (List.replicate V.length (.slice none 0 0)) (List.replicate V.length []))
def ready2 (b1 b4 : Bool) : List Nat := (if b1 then [] else [1]) ++ (if b4 then [] else [4]) ++ (if b1 && b4 then [5] else [])
def Inv2 (a0 : Act) (w0 : World) (V : List Int) (k : Nat) (l : Array Bool) (a : Act) (w : World) : Prop :=
  ∃ (b1 b4 : Bool) (x15 x18 : Value), l = #[true, b1, true, true, b4, false, false, false] ∧ a = (a0.put (some 15) x15).put (some 18) x18 ∧ (!b1).toNat + (!b4).toNat = k ∧ Pic2 w0 V b1 b4 x15 x18 w
theorem nxl_nil (n : Nat) : List.replicate n ([] : List Int) = nxl n (fun _ => []) := by
  unfold nxl
  apply List.ext_getElem?
  intro k
  by_cases hk : k < n
  · simp [hk, pl]
  · simp [hk]
theorem rd_start {w0 w : World} {V : List Int} {x15 : Value} {gn : Nat} (h : Pic2 w0 V true true x15 (.slice (some ⟨gn, 0, none⟩) V.length V.length) w) : ∃ L vs, RD w0 w.heap.size gn V.length x15 V (fun _ => []) L vs (w.alloc (oG9 x15 (.slice (some ⟨gn, 0, none⟩) V.length V.length))) := by
  obtain ⟨L, hB, h1, h2⟩ := h
  obtain ⟨r1, l1⟩ := h1 rfl
  obtain ⟨_, e, r2⟩ := h2 rfl
  have hb := below_new w (oG9 x15 (.slice (some ⟨gn, 0, none⟩) V.length V.length))
  rw [nxl_nil] at r2
  exact ⟨lab L w.heap.size 1, _, ⟨heap_alloc_new _ _, brow_kept r1 (fun b e => hb.block b (r1.lt b e).2), (r2.named 1).below hb, if_neg (Nat.lt_irrefl _), fun b e => (if_pos (r1.lt b e).2).trans (l1 b e), hB.size, hB.alloc hB.size _⟩⟩
/-- A graph that was read. -/
def GM (w0 : World) (gb : Nat) (V : List Int) (nx : Nat → List Nat) (w : World) : Prop := ∃ gn vv L vs, RD w0 gb gn V.length vv V nx L vs w
def okArcs (vs : List Int) (arcs : List (Int × Int)) : Prop := ∀ a ∈ arcs, a.1 ∈ vs ∧ a.2 ∈ vs
def RdAns (w : World) (vs : List Int) (arcs : List (Int × Int)) (e : Ending) (w' : World) : Prop :=
  Below w.heap.size w w' ∧ ((¬ vs.Nodup ∧ e = .returned (.tuple #[.pointer none, .int .i64 2])) ∨ (vs.Nodup ∧ ¬ okArcs vs arcs ∧ e = .returned (.tuple #[.pointer none, .int .i64 5])) ∨
    (vs.Nodup ∧ okArcs vs arcs ∧ ∃ gb V, e = .returned (.tuple #[.pointer (some ⟨gb, 0, none⟩), .int .i64 0]) ∧ V.Perm vs ∧ V.Pairwise (· < ·) ∧ GM w gb V (nextOf V arcs) w'))
theorem sorted_lt {V : List Int} (hs : V.Pairwise (· ≤ ·)) (hd : V.Nodup) : V.Pairwise (· < ·) :=
  (hs.and hd).imp (fun h => by obtain ⟨h1, h2⟩ := h; omega)
/-- No two neighbours are one. -/
theorem nodup_near : ∀ {V : List Int}, V.Pairwise (· ≤ ·) → (∀ (i : Nat) (x y : Int), V[i]? = some x → V[i + 1]? = some y → x ≠ y) → V.Nodup
  | [], _, _ => List.nodup_nil
  | [x], _, _ => by simp
  | x :: y :: V, hs, hn => by
    obtain ⟨p1, p2⟩ := List.pairwise_cons.1 hs
    have ih := nodup_near p2 (fun i a b h1 h2 => hn (i + 1) a b h1 h2)
    refine List.nodup_cons.2 ⟨fun hm => ?_, ih⟩
    have h0 := hn 0 x y rfl rfl
    rcases List.mem_cons.1 hm with e | e
    · exact h0 e
    · have := (List.pairwise_cons.1 p2).1 x e
      have := p1 y (by simp)
      omega
theorem nextOf_len (V : List Int) (arcs : List (Int × Int)) (p : Nat) : (nextOf V arcs p).length ≤ arcs.length := by
  unfold nextOf; rw [List.length_map]; exact List.length_filter_le _ _
theorem idx_some {V : List Int} {k : Int} (h : k ∈ V) : V[V.idxOf k]? = some k := by
  have hl := List.idxOf_lt_length_of_mem h
  rw [List.getElem?_eq_getElem hl, List.getElem_idxOf hl]
theorem not_nodup_near {V : List Int} {i : Nat} {x : Int} (h1 : V[i]? = some x) (h2 : V[i + 1]? = some x) : ¬ V.Nodup := fun hd => by
  obtain ⟨l1, e1⟩ := List.getElem?_eq_some_iff.1 h1
  obtain ⟨l2, e2⟩ := List.getElem?_eq_some_iff.1 h2
  exact (List.pairwise_iff_getElem.1 hd) i (i + 1) l1 l2 (by omega) (e1.trans e2.symm)
/-- Among the first k no two neighbours are one. -/
def Near (V : List Int) (k : Nat) : Prop := ∀ (i : Nat) (x y : Int), i + 1 < k → V[i]? = some x → V[i + 1]? = some y → x ≠ y
theorem okArcs_snoc {vs : List Int} {l : List (Int × Int)} {a : Int × Int} (h : okArcs vs l) (h1 : a.1 ∈ vs) (h2 : a.2 ∈ vs) : okArcs vs (l ++ [a]) := fun b hb => by
  rcases List.mem_append.1 hb with q | q
  · exact h b q
  · rw [List.mem_singleton.1 q]; exact ⟨h1, h2⟩
def oArc (u x : Int) : Obj := .cells #[.int .i64 u, .int .i64 x] 47 (0, 0)
theorem cellsArc {w : World} {b : Nat} {u x : Int} (h : w.heap[b]? = some (oArc u x)) : w.cell? ⟨b, 0, none⟩ = some (.int .i64 u) ∧ w.cell? ⟨b, 1, none⟩ = some (.int .i64 x) ∧ ∀ o, w.frozen? ⟨b, o, none⟩ = false :=
  ⟨(cell_of_row _ _ 0 _ _ (0, 0) h).trans rfl, (cell_of_row _ _ 1 _ _ (0, 0) h).trans rfl, fun o => frozen_of_row _ _ o _ _ h⟩
theorem take_snoc {α : Type} {l : List α} {i : Nat} {a : α} (h : l[i]? = some a) : l.take (i + 1) = l.take i ++ [a] := by
  obtain ⟨hl, e⟩ := List.getElem?_eq_some_iff.1 h
  rw [← e]; exact (List.take_append_getElem hl).symm
/-- The lists with one arc more. -/
theorem nextOf_snoc {V : List Int} {arcs : List (Int × Int)} {i : Nat} {u x : Int} (hd : V.Pairwise (· < ·)) (h : arcs[i]? = some (u, x)) (hu : u ∈ V) :
    (∀ p, p ≠ V.idxOf u → nextOf V (arcs.take (i + 1)) p = nextOf V (arcs.take i) p) ∧ nextOf V (arcs.take (i + 1)) (V.idxOf u) = nextOf V (arcs.take i) (V.idxOf u) ++ [V.idxOf x] := by
  rw [take_snoc h]
  refine ⟨fun p hp => nextOf_else (fun e => hp ?_), nextOf_at (idx_some hu)⟩
  obtain ⟨l1, e1⟩ := List.getElem?_eq_some_iff.1 e
  obtain ⟨l2, e2⟩ := List.getElem?_eq_some_iff.1 (idx_some hu)
  have hne := List.pairwise_iff_getElem.1 hd
  rcases Nat.lt_trichotomy p (V.idxOf u) with q | q | q
  · have := hne p _ l1 l2 q; rw [e1, e2] at this; simp at this
  · exact q
  · have := hne _ p l2 l1 q; rw [e1, e2] at this; simp at this
end Go.Proofs.Ytdpdghhieokcfaa
