/- The search in memory: one struct, six rows of its own. -/
import Derived.Test.YtdpdghhieokcfaaRow9
import Derived.Test.YtdpdghhieokcfaaSccMath5
import Derived.Test.YtdpdghhieokcfaaTail
import Derived.BigQuiet
namespace Go.Proofs.Ytdpdghhieokcfaa
open Go.RowKit Go.Maps T9

def hdI : Option Nat → Int
  | none => -1
  | some m => (m : Int)
theorem hdI_none {o : Option Nat} : hdI o = -1 ↔ o = none := by
  cases o with
  | none => simp [hdI]
  | some m => simp only [hdI]; constructor
              · intro h; omega
              · intro h; cases h
def rowI (n : Nat) (f : Nat → Int) : List Int := (List.range n).map f
theorem rowI_len (n : Nat) (f : Nat → Int) : (rowI n f).length = n := by simp [rowI]
theorem rowI_at {n p : Nat} (f : Nat → Int) (h : p < n) : (rowI n f)[p]? = some (f p) := by simp [rowI, h]
theorem rowI_set {n p : Nat} (f : Nat → Int) (v : Int) : (rowI n f).set p v = rowI n (fun x => if x = p then v else f x) := by
  apply List.ext_getElem?
  intro k
  by_cases hk : k < n
  · rw [rowI_at _ hk]
    by_cases e : p = k
    · subst e
      rw [List.getElem?_set_self (by rw [rowI_len]; exact hk), if_pos rfl]
    · rw [List.getElem?_set_ne e, rowI_at _ hk, if_neg (fun q => e q.symm)]
  · rw [List.getElem?_eq_none (by rw [List.length_set, rowI_len]; omega), List.getElem?_eq_none (by rw [rowI_len]; omega)]
theorem rowI_congr {n : Nat} {f g : Nat → Int} (h : ∀ p < n, f p = g p) : rowI n f = rowI n g := List.map_congr_left (fun p hp => h p (List.mem_range.1 hp))
theorem rowI_up {n p : Nat} (f : Nat → Nat) (v : Nat) : (rowI n (fun x => (f x : Int))).set p (v : Int) = rowI n (fun x => ((up f p v x : Nat) : Int)) := by
  rw [rowI_set]
  refine rowI_congr (fun x _ => ?_)
  unfold up
  by_cases e : x = p
  · rw [if_pos e, if_pos e]
  · rw [if_neg e, if_neg e]
/-- A list that is kept the latest first, as it lies in memory. -/
def bk (l : List Nat) : List Int := l.reverse.map (fun p : Nat => (p : Int))
theorem bk_cons (p : Nat) (l : List Nat) : bk (p :: l) = bk l ++ [(p : Int)] := by simp [bk]
theorem bk_len (l : List Nat) : (bk l).length = l.length := by simp [bk]
theorem bk_top (a : Nat) (l : List Nat) : (bk (a :: l))[l.length]? = some (a : Int) := by
  rw [bk_cons, List.getElem?_append_right (by rw [bk_len]; exact Nat.le_refl _), bk_len]; simp
theorem bk_take (a : Nat) (l : List Nat) : (bk (a :: l)).take l.length = bk l := by
  rw [bk_cons, List.take_left' (bk_len l)]

structure SF where
  sb : Nat
  nv : Value
  hv : Value
  tv : Value
  lv : Value
  rv : Value
  n : Nat
  w0 : World
def oS (nv hv tv lv rv : Value) (t : Nat) (kv ov : Value) : Obj := .cells #[nv, hv, tv, lv, rv, .int .i64 (t : Nat), kv, ov] 85 (0, 0)
theorem cellsS {w : World} {b : Nat} {nv hv tv lv rv kv ov : Value} {t : Nat} (h : w.heap[b]? = some (oS nv hv tv lv rv t kv ov)) : w.cell? ⟨b, 0, none⟩ = some nv ∧ w.cell? ⟨b, 1, none⟩ = some hv ∧ w.cell? ⟨b, 2, none⟩ = some tv ∧ w.cell? ⟨b, 3, none⟩ = some lv ∧ w.cell? ⟨b, 4, none⟩ = some rv ∧ w.cell? ⟨b, 5, none⟩ = some (.int .i64 (t : Nat)) ∧ w.cell? ⟨b, 6, none⟩ = some kv ∧ w.cell? ⟨b, 7, none⟩ = some ov ∧ ∀ o, w.frozen? ⟨b, o, none⟩ = false :=
  ⟨(cell_of_row _ _ 0 _ _ (0, 0) h).trans rfl, (cell_of_row _ _ 1 _ _ (0, 0) h).trans rfl, (cell_of_row _ _ 2 _ _ (0, 0) h).trans rfl, (cell_of_row _ _ 3 _ _ (0, 0) h).trans rfl, (cell_of_row _ _ 4 _ _ (0, 0) h).trans rfl, (cell_of_row _ _ 5 _ _ (0, 0) h).trans rfl, (cell_of_row _ _ 6 _ _ (0, 0) h).trans rfl, (cell_of_row _ _ 7 _ _ (0, 0) h).trans rfl, fun o => frozen_of_row _ _ o _ _ h⟩
/-- The search s in memory; L says of a block whose it is. -/
structure SMem (F : SF) (L : Nat → Nat) (s : St) (kv ov : Value) (w : World) : Prop where
  box : w.heap[F.sb]? = some (oS F.nv F.hv F.tv F.lv F.rv s.turn kv ov)
  hr : BRow F.w0.heap.size w F.hv (rowI F.n (fun p => hdI (s.hd p)))
  tr : BRow F.w0.heap.size w F.tv (rowI F.n (fun p => (s.tu p : Int)))
  lr : BRow F.w0.heap.size w F.lv (rowI F.n (fun p => (s.lo p : Int)))
  rr : BRow F.w0.heap.size w F.rv (rowI F.n (fun p => (s.tried p : Int)))
  kr : BRow F.w0.heap.size w kv (bk s.tl)
  or_ : BRow F.w0.heap.size w ov (bk s.op)
  l1 : L F.sb = 1
  l2 : ∀ b, F.hv.ownBlock = some b → L b = 2
  l3 : ∀ b, F.tv.ownBlock = some b → L b = 3
  l4 : ∀ b, F.lv.ownBlock = some b → L b = 4
  l5 : ∀ b, F.rv.ownBlock = some b → L b = 5
  l6 : ∀ b, kv.ownBlock = some b → L b = 6
  l7 : ∀ b, ov.ownBlock = some b → L b = 7
  own : F.w0.heap.size ≤ F.sb
  below : Below F.w0.heap.size F.w0 w
def SM (F : SF) (s : St) (w : World) : Prop := ∃ L kv ov, SMem F L s kv ov w
section
variable {F : SF} {L : Nat → Nat} {s : St} {kv ov : Value} {w w' : World}
theorem SMem.size (h : SMem F L s kv ov w) : F.w0.heap.size ≤ w.heap.size := h.below.size
/-- What isn't k's stays. -/
theorem SMem.keep (h : SMem F L s kv ov w) (k : Nat) (ht : ∀ b, b < w.heap.size → L b ≠ k → w'.heap[b]? = w.heap[b]?) :
    (1 ≠ k → w'.heap[F.sb]? = some (oS F.nv F.hv F.tv F.lv F.rv s.turn kv ov)) ∧ (2 ≠ k → BRow F.w0.heap.size w' F.hv (rowI F.n (fun p => hdI (s.hd p)))) ∧ (3 ≠ k → BRow F.w0.heap.size w' F.tv (rowI F.n (fun p => (s.tu p : Int)))) ∧ (4 ≠ k → BRow F.w0.heap.size w' F.lv (rowI F.n (fun p => (s.lo p : Int)))) ∧ (5 ≠ k → BRow F.w0.heap.size w' F.rv (rowI F.n (fun p => (s.tried p : Int)))) ∧ (6 ≠ k → BRow F.w0.heap.size w' kv (bk s.tl)) ∧ (7 ≠ k → BRow F.w0.heap.size w' ov (bk s.op)) :=
  ⟨fun q => (ht _ (heap_lt h.box) (by rw [h.l1]; exact q)).trans h.box,
   fun q => brow_kept h.hr (fun b e => ht b (h.hr.lt b e).2 (by rw [h.l2 b e]; exact q)),
   fun q => brow_kept h.tr (fun b e => ht b (h.tr.lt b e).2 (by rw [h.l3 b e]; exact q)),
   fun q => brow_kept h.lr (fun b e => ht b (h.lr.lt b e).2 (by rw [h.l4 b e]; exact q)),
   fun q => brow_kept h.rr (fun b e => ht b (h.rr.lt b e).2 (by rw [h.l5 b e]; exact q)),
   fun q => brow_kept h.kr (fun b e => ht b (h.kr.lt b e).2 (by rw [h.l6 b e]; exact q)),
   fun q => brow_kept h.or_ (fun b e => ht b (h.or_.lt b e).2 (by rw [h.l7 b e]; exact q))⟩
theorem SMem.drew (h : SMem F L s kv ov w) (q : Nat) : SMem F L s kv ov (w.drewN q) :=
  have K := h.keep (w' := w.drewN q) 0 (fun _ _ _ => rfl)
  ⟨K.1 (by decide), K.2.1 (by decide), K.2.2.1 (by decide), K.2.2.2.1 (by decide), K.2.2.2.2.1 (by decide), K.2.2.2.2.2.1 (by decide), K.2.2.2.2.2.2 (by decide), h.l1, h.l2, h.l3, h.l4, h.l5, h.l6, h.l7, h.own, ⟨h.below.os, h.below.tape, h.below.output, h.below.size, h.below.block⟩⟩
theorem row_own {B : Nat} {v : Value} {ks : List Int} {g m c : Nat} (hr : BRow B w v ks) (e : v = .slice (some ⟨g, 0, none⟩) m c) : B ≤ g ∧ g < w.heap.size := by
  have := hr.lt g (by rw [e]; rfl)
  exact this
theorem SMem.setT (h : SMem F L s kv ov w) {g m c p : Nat} (e : F.tv = .slice (some ⟨g, 0, none⟩) m c) (hp : p < F.n) (v : Nat) : SMem F L { s with tu := up s.tu p v } kv ov (w.setCell ⟨g, p, none⟩ (.int .i64 (v : Nat))) := by
  have K := h.keep (w' := w.setCell ⟨g, p, none⟩ (.int .i64 (v : Nat))) 3 (fun b _ hL => heap_setCell_other _ _ _ _ (fun q => hL (h.l3 b (by rw [e, q]; rfl))))
  have hr := h.tr
  rw [e] at hr
  have hm : m = F.n := by obtain ⟨_, _, e2, -⟩ := brow_shape hr; injection e2 with _ e3 _; rw [e3, rowI_len]
  have h2 := (brow_set hr (k := p) (v : Int) (by omega)).2
  rw [rowI_up, ← e] at h2
  exact ⟨K.1 (by decide), K.2.1 (by decide), h2, K.2.2.2.1 (by decide), K.2.2.2.2.1 (by decide), K.2.2.2.2.2.1 (by decide), K.2.2.2.2.2.2 (by decide), h.l1, h.l2, h.l3, h.l4, h.l5, h.l6, h.l7, h.own, h.below.setCell (row_own h.tr e).1 _⟩
theorem SMem.setL (h : SMem F L s kv ov w) {g m c p : Nat} (e : F.lv = .slice (some ⟨g, 0, none⟩) m c) (hp : p < F.n) (v : Nat) : SMem F L { s with lo := up s.lo p v } kv ov (w.setCell ⟨g, p, none⟩ (.int .i64 (v : Nat))) := by
  have K := h.keep (w' := w.setCell ⟨g, p, none⟩ (.int .i64 (v : Nat))) 4 (fun b _ hL => heap_setCell_other _ _ _ _ (fun q => hL (h.l4 b (by rw [e, q]; rfl))))
  have hr := h.lr
  rw [e] at hr
  have hm : m = F.n := by obtain ⟨_, _, e2, -⟩ := brow_shape hr; injection e2 with _ e3 _; rw [e3, rowI_len]
  have h2 := (brow_set hr (k := p) (v : Int) (by omega)).2
  rw [rowI_up, ← e] at h2
  exact ⟨K.1 (by decide), K.2.1 (by decide), K.2.2.1 (by decide), h2, K.2.2.2.2.1 (by decide), K.2.2.2.2.2.1 (by decide), K.2.2.2.2.2.2 (by decide), h.l1, h.l2, h.l3, h.l4, h.l5, h.l6, h.l7, h.own, h.below.setCell (row_own h.lr e).1 _⟩
theorem SMem.setR (h : SMem F L s kv ov w) {g m c p : Nat} (e : F.rv = .slice (some ⟨g, 0, none⟩) m c) (hp : p < F.n) (v : Nat) : SMem F L { s with tried := up s.tried p v } kv ov (w.setCell ⟨g, p, none⟩ (.int .i64 (v : Nat))) := by
  have K := h.keep (w' := w.setCell ⟨g, p, none⟩ (.int .i64 (v : Nat))) 5 (fun b _ hL => heap_setCell_other _ _ _ _ (fun q => hL (h.l5 b (by rw [e, q]; rfl))))
  have hr := h.rr
  rw [e] at hr
  have hm : m = F.n := by obtain ⟨_, _, e2, -⟩ := brow_shape hr; injection e2 with _ e3 _; rw [e3, rowI_len]
  have h2 := (brow_set hr (k := p) (v : Int) (by omega)).2
  rw [rowI_up, ← e] at h2
  exact ⟨K.1 (by decide), K.2.1 (by decide), K.2.2.1 (by decide), K.2.2.2.1 (by decide), h2, K.2.2.2.2.2.1 (by decide), K.2.2.2.2.2.2 (by decide), h.l1, h.l2, h.l3, h.l4, h.l5, h.l6, h.l7, h.own, h.below.setCell (row_own h.rr e).1 _⟩
theorem SMem.setH (h : SMem F L s kv ov w) {g m c p : Nat} (e : F.hv = .slice (some ⟨g, 0, none⟩) m c) (hp : p < F.n) (v : Nat) : SMem F L { s with hd := fun x => if x = p then some v else s.hd x } kv ov (w.setCell ⟨g, p, none⟩ (.int .i64 (v : Nat))) := by
  have K := h.keep (w' := w.setCell ⟨g, p, none⟩ (.int .i64 (v : Nat))) 2 (fun b _ hL => heap_setCell_other _ _ _ _ (fun q => hL (h.l2 b (by rw [e, q]; rfl))))
  have hr := h.hr
  rw [e] at hr
  have hm : m = F.n := by obtain ⟨_, _, e2, -⟩ := brow_shape hr; injection e2 with _ e3 _; rw [e3, rowI_len]
  have h2 := (brow_set hr (k := p) (v : Int) (by omega)).2
  have e4 : (rowI F.n (fun p => hdI (s.hd p))).set p (v : Int) = rowI F.n (fun x => hdI (if x = p then some v else s.hd x)) := by
    rw [rowI_set]
    refine rowI_congr (fun x _ => ?_)
    by_cases q : x = p
    · rw [if_pos q, if_pos q]; rfl
    · rw [if_neg q, if_neg q]
  rw [e4, ← e] at h2
  exact ⟨K.1 (by decide), h2, K.2.2.1 (by decide), K.2.2.2.1 (by decide), K.2.2.2.2.1 (by decide), K.2.2.2.2.2.1 (by decide), K.2.2.2.2.2.2 (by decide), h.l1, h.l2, h.l3, h.l4, h.l5, h.l6, h.l7, h.own, h.below.setCell (row_own h.hr e).1 _⟩
theorem SMem.setTurn (h : SMem F L s kv ov w) (t : Nat) : SMem F L { s with turn := t } kv ov (w.setCell ⟨F.sb, 5, none⟩ (.int .i64 (t : Nat))) := by
  have K := h.keep (w' := w.setCell ⟨F.sb, 5, none⟩ (.int .i64 (t : Nat))) 1 (fun b _ hL => heap_setCell_other _ _ _ _ (fun q => hL (by rw [q]; exact h.l1)))
  exact ⟨by rw [heap_setCell_same _ _ _ _ _ _ h.box]; rfl, K.2.1 (by decide), K.2.2.1 (by decide), K.2.2.2.1 (by decide), K.2.2.2.2.1 (by decide), K.2.2.2.2.2.1 (by decide), K.2.2.2.2.2.2 (by decide), h.l1, h.l2, h.l3, h.l4, h.l5, h.l6, h.l7, h.own, h.below.setCell h.own _⟩
/-- Another trail. -/
theorem SMem.setK (h : SMem F L s kv ov w) {kv' : Value} {l : List Nat} (hr : BRow F.w0.heap.size w kv' (bk l)) (hL : ∀ b, kv'.ownBlock = some b → L b = 6) : SMem F L { s with tl := l } kv' ov (w.setCell ⟨F.sb, 6, none⟩ kv') := by
  have hk : ∀ b, L b ≠ 1 → (w.setCell ⟨F.sb, 6, none⟩ kv').heap[b]? = w.heap[b]? := fun b hL => heap_setCell_other _ _ _ _ (fun q => hL (by rw [q]; exact h.l1))
  have K := h.keep (w' := w.setCell ⟨F.sb, 6, none⟩ kv') 1 (fun b _ hL => hk b hL)
  exact ⟨by rw [heap_setCell_same _ _ _ _ _ _ h.box]; rfl, K.2.1 (by decide), K.2.2.1 (by decide), K.2.2.2.1 (by decide), K.2.2.2.2.1 (by decide), brow_kept hr (fun b e => hk b (by rw [hL b e]; decide)), K.2.2.2.2.2.2 (by decide), h.l1, h.l2, h.l3, h.l4, h.l5, hL, h.l7, h.own, h.below.setCell h.own _⟩
theorem SMem.setO (h : SMem F L s kv ov w) {ov' : Value} {l : List Nat} (hr : BRow F.w0.heap.size w ov' (bk l)) (hL : ∀ b, ov'.ownBlock = some b → L b = 7) : SMem F L { s with op := l } kv ov' (w.setCell ⟨F.sb, 7, none⟩ ov') := by
  have hk : ∀ b, L b ≠ 1 → (w.setCell ⟨F.sb, 7, none⟩ ov').heap[b]? = w.heap[b]? := fun b hL => heap_setCell_other _ _ _ _ (fun q => hL (by rw [q]; exact h.l1))
  have K := h.keep (w' := w.setCell ⟨F.sb, 7, none⟩ ov') 1 (fun b _ hL => hk b hL)
  exact ⟨by rw [heap_setCell_same _ _ _ _ _ _ h.box]; rfl, K.2.1 (by decide), K.2.2.1 (by decide), K.2.2.2.1 (by decide), K.2.2.2.2.1 (by decide), K.2.2.2.2.2.1 (by decide), brow_kept hr (fun b e => hk b (by rw [hL b e]; decide)), h.l1, h.l2, h.l3, h.l4, h.l5, h.l6, hL, h.own, h.below.setCell h.own _⟩
/-- Blocks from the heap's end on are k's. -/
def lab (L : Nat → Nat) (N k : Nat) : Nat → Nat := fun b => if b < N then L b else k
theorem SMem.named (h : SMem F L s kv ov w) (k : Nat) : SMem F (lab L w.heap.size k) s kv ov w :=
  ⟨h.box, h.hr, h.tr, h.lr, h.rr, h.kr, h.or_, (if_pos (heap_lt h.box)).trans h.l1, fun b e => (if_pos (h.hr.lt b e).2).trans (h.l2 b e), fun b e => (if_pos (h.tr.lt b e).2).trans (h.l3 b e), fun b e => (if_pos (h.lr.lt b e).2).trans (h.l4 b e), fun b e => (if_pos (h.rr.lt b e).2).trans (h.l5 b e), fun b e => (if_pos (h.kr.lt b e).2).trans (h.l6 b e), fun b e => (if_pos (h.or_.lt b e).2).trans (h.l7 b e), h.own, h.below⟩
/-- The trail appended to, and stored. -/
theorem SMem.appK (h : SMem F L s kv ov w) {kv' : Value} {l : List Nat} (hr : BRow F.w0.heap.size w' kv' (bk l)) (ht : Turned (fun b => kv.ownBlock = some b) w w') (hn : ∀ b, kv'.ownBlock = some b → kv.ownBlock = some b ∨ w.heap.size ≤ b) :
    w'.heap[F.sb]? = some (oS F.nv F.hv F.tv F.lv F.rv s.turn kv ov) ∧ SM F { s with tl := l } (w'.setCell ⟨F.sb, 6, none⟩ kv') ∧ SMem F (lab L w.heap.size 6) { s with tl := l } kv' ov (w'.setCell ⟨F.sb, 6, none⟩ kv') := by
  have h6 := h.named 6
  have K := h6.keep (w' := w') 6 (fun b hb hL => ht.block b hb (fun q => hL (h6.l6 b q)))
  have k1 := K.1 (by decide)
  have hL' : ∀ b, kv'.ownBlock = some b → lab L w.heap.size 6 b = 6 := fun b e => by
    rcases hn b e with q | q
    · exact h6.l6 b q
    · exact if_neg (by omega)
  have hk : ∀ b, lab L w.heap.size 6 b ≠ 1 → (w'.setCell ⟨F.sb, 6, none⟩ kv').heap[b]? = w'.heap[b]? := fun b hL => heap_setCell_other _ _ _ _ (fun q => hL (by rw [q]; exact h6.l1))
  have hb : Below F.w0.heap.size F.w0 w' := h.below.trans (ht.below h.size (fun k e => (h.kr.lt k e).1))
  have key : SMem F (lab L w.heap.size 6) { s with tl := l } kv' ov (w'.setCell ⟨F.sb, 6, none⟩ kv') :=
    ⟨by rw [heap_setCell_same _ _ _ _ _ _ k1]; rfl, brow_kept (K.2.1 (by decide)) (fun b e => hk b (by rw [h6.l2 b e]; decide)), brow_kept (K.2.2.1 (by decide)) (fun b e => hk b (by rw [h6.l3 b e]; decide)), brow_kept (K.2.2.2.1 (by decide)) (fun b e => hk b (by rw [h6.l4 b e]; decide)), brow_kept (K.2.2.2.2.1 (by decide)) (fun b e => hk b (by rw [h6.l5 b e]; decide)), brow_kept hr (fun b e => hk b (by rw [hL' b e]; decide)), brow_kept (K.2.2.2.2.2.2 (by decide)) (fun b e => hk b (by rw [h6.l7 b e]; decide)), h6.l1, h6.l2, h6.l3, h6.l4, h6.l5, hL', h6.l7, h.own, hb.setCell h.own _⟩
  exact ⟨k1, ⟨_, _, _, key⟩, key⟩
theorem SMem.appO (h : SMem F L s kv ov w) {ov' : Value} {l : List Nat} (hr : BRow F.w0.heap.size w' ov' (bk l)) (ht : Turned (fun b => ov.ownBlock = some b) w w') (hn : ∀ b, ov'.ownBlock = some b → ov.ownBlock = some b ∨ w.heap.size ≤ b) :
    w'.heap[F.sb]? = some (oS F.nv F.hv F.tv F.lv F.rv s.turn kv ov) ∧ SM F { s with op := l } (w'.setCell ⟨F.sb, 7, none⟩ ov') := by
  have h6 := h.named 7
  have K := h6.keep (w' := w') 7 (fun b hb hL => ht.block b hb (fun q => hL (h6.l7 b q)))
  have k1 := K.1 (by decide)
  have hL' : ∀ b, ov'.ownBlock = some b → lab L w.heap.size 7 b = 7 := fun b e => by
    rcases hn b e with q | q
    · exact h6.l7 b q
    · exact if_neg (by omega)
  have hk : ∀ b, lab L w.heap.size 7 b ≠ 1 → (w'.setCell ⟨F.sb, 7, none⟩ ov').heap[b]? = w'.heap[b]? := fun b hL => heap_setCell_other _ _ _ _ (fun q => hL (by rw [q]; exact h6.l1))
  have hb : Below F.w0.heap.size F.w0 w' := h.below.trans (ht.below h.size (fun k e => (h.or_.lt k e).1))
  exact ⟨k1, _, _, _, ⟨by rw [heap_setCell_same _ _ _ _ _ _ k1]; rfl, brow_kept (K.2.1 (by decide)) (fun b e => hk b (by rw [h6.l2 b e]; decide)), brow_kept (K.2.2.1 (by decide)) (fun b e => hk b (by rw [h6.l3 b e]; decide)), brow_kept (K.2.2.2.1 (by decide)) (fun b e => hk b (by rw [h6.l4 b e]; decide)), brow_kept (K.2.2.2.2.1 (by decide)) (fun b e => hk b (by rw [h6.l5 b e]; decide)), brow_kept (K.2.2.2.2.2.1 (by decide)) (fun b e => hk b (by rw [h6.l6 b e]; decide)), brow_kept hr (fun b e => hk b (by rw [hL' b e]; decide)), h6.l1, h6.l2, h6.l3, h6.l4, h6.l5, h6.l6, hL', h.own, hb.setCell h.own _⟩⟩
/-- The rows' values, where there are places. -/
theorem row_slice {B n : Nat} {v : Value} {f : Nat → Int} (h : BRow B w v (rowI n f)) (hn : 0 < n) : ∃ g c, v = .slice (some ⟨g, 0, none⟩) n c ∧ ∀ W, BRow B W v (rowI n f) → (∀ o, W.frozen? ⟨g, o, none⟩ = false) ∧ ∀ p, p < n → W.cell? ⟨g, p, none⟩ = some (.int .i64 (f p)) := by
  obtain ⟨a, c, e, -⟩ := brow_shape h
  rw [rowI_len] at e
  rw [e] at h
  obtain ⟨g, rfl⟩ := brow_some h (by rw [rowI_len]; exact hn)
  refine ⟨g, c, e, fun W hW => ?_⟩
  rw [e] at hW
  exact ⟨(brow_set hW (k := 0) 0 hn).1, fun p hp => brow_at hW (rowI_at f hp)⟩
end
end Go.Proofs.Ytdpdghhieokcfaa
