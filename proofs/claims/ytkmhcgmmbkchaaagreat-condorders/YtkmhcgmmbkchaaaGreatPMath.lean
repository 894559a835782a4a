/- Two rising lists are merged from their ends, in the first one's memory. -/
import Derived.Test.YtkmhcgmmbkchaaaGreatRow9
import Derived.Test.YtkmhcgmmbkchaaaGreatSccMath5
import Derived.Test.YtkmhcgmmbkchaaaGreatTail
import Derived.BigQuiet
import Derived.Test.YtkmhcgmmbkchaaaGreatMapG10
import Derived.Test.YtkmhcgmmbkchaaaGreatPEasyN
namespace Go.Proofs.YtkmhcgmmbkchaaaGreat

section
open Go.RowKit Go.Maps T9
def hdI : Option Nat → Int
  | none => -1
  | some m => (m : Int)
theorem hdI_none {o : Option Nat} : hdI o = -1 ↔ o = none := by
  cases o with
  | none => simp [hdI]
  | some m => simp only [hdI]; constructor
              · intro h; omega
              · intro h; cases h
def rowI (n : Nat) (f : Nat → Int) : List Int := (List.range n).map f
theorem rowI_len (n : Nat) (f : Nat → Int) : (rowI n f).length = n := by simp [rowI]
theorem rowI_at {n p : Nat} (f : Nat → Int) (h : p < n) : (rowI n f)[p]? = some (f p) := by simp [rowI, h]
theorem rowI_set {n p : Nat} (f : Nat → Int) (v : Int) : (rowI n f).set p v = rowI n (fun x => if x = p then v else f x) := by
  apply List.ext_getElem?
  intro k
  by_cases hk : k < n
  · rw [rowI_at _ hk]
    by_cases e : p = k
    · subst e
      rw [List.getElem?_set_self (by rw [rowI_len]; exact hk), if_pos rfl]
    · rw [List.getElem?_set_ne e, rowI_at _ hk, if_neg (fun q => e q.symm)]
  · rw [List.getElem?_eq_none (by rw [List.length_set, rowI_len]; omega), List.getElem?_eq_none (by rw [rowI_len]; omega)]
theorem rowI_congr {n : Nat} {f g : Nat → Int} (h : ∀ p < n, f p = g p) : rowI n f = rowI n g := List.map_congr_left (fun p hp => h p (List.mem_range.1 hp))
theorem rowI_up {n p : Nat} (f : Nat → Nat) (v : Nat) : (rowI n (fun x => (f x : Int))).set p (v : Int) = rowI n (fun x => ((up f p v x : Nat) : Int)) := by
  rw [rowI_set]
  refine rowI_congr (fun x _ => ?_)
  unfold up
  by_cases e : x = p
  · rw [if_pos e, if_pos e]
  · rw [if_neg e, if_neg e]
/-- A list that is kept the latest first, as it lies in memory. -/
def bk (l : List Nat) : List Int := l.reverse.map (fun p : Nat => (p : Int))
theorem bk_cons (p : Nat) (l : List Nat) : bk (p :: l) = bk l ++ [(p : Int)] := by simp [bk]
theorem bk_len (l : List Nat) : (bk l).length = l.length := by simp [bk]
theorem bk_top (a : Nat) (l : List Nat) : (bk (a :: l))[l.length]? = some (a : Int) := by
  rw [bk_cons, List.getElem?_append_right (by rw [bk_len]; exact Nat.le_refl _), bk_len]; simp
theorem bk_take (a : Nat) (l : List Nat) : (bk (a :: l)).take l.length = bk l := by
  rw [bk_cons, List.take_left' (bk_len l)]

structure SF where
  sb : Nat
  nv : Value
  hv : Value
  tv : Value
  lv : Value
  rv : Value
  n : Nat
  w0 : World
def oS (nv hv tv lv rv : Value) (t : Nat) (kv ov : Value) : Obj := .cells #[nv, hv, tv, lv, rv, .int .i64 (t : Nat), kv, ov] 153 (0, 0)
theorem cellsS {w : World} {b : Nat} {nv hv tv lv rv kv ov : Value} {t : Nat} (h : w.heap[b]? = some (oS nv hv tv lv rv t kv ov)) : w.cell? ⟨b, 0, none⟩ = some nv ∧ w.cell? ⟨b, 1, none⟩ = some hv ∧ w.cell? ⟨b, 2, none⟩ = some tv ∧ w.cell? ⟨b, 3, none⟩ = some lv ∧ w.cell? ⟨b, 4, none⟩ = some rv ∧ w.cell? ⟨b, 5, none⟩ = some (.int .i64 (t : Nat)) ∧ w.cell? ⟨b, 6, none⟩ = some kv ∧ w.cell? ⟨b, 7, none⟩ = some ov ∧ ∀ o, w.frozen? ⟨b, o, none⟩ = false :=
  ⟨(cell_of_row _ _ 0 _ _ (0, 0) h).trans rfl, (cell_of_row _ _ 1 _ _ (0, 0) h).trans rfl, (cell_of_row _ _ 2 _ _ (0, 0) h).trans rfl, (cell_of_row _ _ 3 _ _ (0, 0) h).trans rfl, (cell_of_row _ _ 4 _ _ (0, 0) h).trans rfl, (cell_of_row _ _ 5 _ _ (0, 0) h).trans rfl, (cell_of_row _ _ 6 _ _ (0, 0) h).trans rfl, (cell_of_row _ _ 7 _ _ (0, 0) h).trans rfl, fun o => frozen_of_row _ _ o _ _ h⟩
/-- The search s in memory; L says of a block whose it is. -/
structure SMem (F : SF) (L : Nat → Nat) (s : St) (kv ov : Value) (w : World) : Prop where
  box : w.heap[F.sb]? = some (oS F.nv F.hv F.tv F.lv F.rv s.turn kv ov)
  hr : BRow F.w0.heap.size w F.hv (rowI F.n (fun p => hdI (s.hd p)))
  tr : BRow F.w0.heap.size w F.tv (rowI F.n (fun p => (s.tu p : Int)))
  lr : BRow F.w0.heap.size w F.lv (rowI F.n (fun p => (s.lo p : Int)))
  rr : BRow F.w0.heap.size w F.rv (rowI F.n (fun p => (s.tried p : Int)))
  kr : BRow F.w0.heap.size w kv (bk s.tl)
  or_ : BRow F.w0.heap.size w ov (bk s.op)
  l1 : L F.sb = 1
  l2 : ∀ b, F.hv.ownBlock = some b → L b = 2
  l3 : ∀ b, F.tv.ownBlock = some b → L b = 3
  l4 : ∀ b, F.lv.ownBlock = some b → L b = 4
  l5 : ∀ b, F.rv.ownBlock = some b → L b = 5
  l6 : ∀ b, kv.ownBlock = some b → L b = 6
  l7 : ∀ b, ov.ownBlock = some b → L b = 7
  own : F.w0.heap.size ≤ F.sb
  below : Below F.w0.heap.size F.w0 w
def SM (F : SF) (s : St) (w : World) : Prop := ∃ L kv ov, SMem F L s kv ov w
section
variable {F : SF} {L : Nat → Nat} {s : St} {kv ov : Value} {w w' : World}
theorem SMem.size (h : SMem F L s kv ov w) : F.w0.heap.size ≤ w.heap.size := h.below.size
/-- What isn't k's stays. -/
theorem SMem.keep (h : SMem F L s kv ov w) (k : Nat) (ht : ∀ b, b < w.heap.size → L b ≠ k → w'.heap[b]? = w.heap[b]?) :
    (1 ≠ k → w'.heap[F.sb]? = some (oS F.nv F.hv F.tv F.lv F.rv s.turn kv ov)) ∧ (2 ≠ k → BRow F.w0.heap.size w' F.hv (rowI F.n (fun p => hdI (s.hd p)))) ∧ (3 ≠ k → BRow F.w0.heap.size w' F.tv (rowI F.n (fun p => (s.tu p : Int)))) ∧ (4 ≠ k → BRow F.w0.heap.size w' F.lv (rowI F.n (fun p => (s.lo p : Int)))) ∧ (5 ≠ k → BRow F.w0.heap.size w' F.rv (rowI F.n (fun p => (s.tried p : Int)))) ∧ (6 ≠ k → BRow F.w0.heap.size w' kv (bk s.tl)) ∧ (7 ≠ k → BRow F.w0.heap.size w' ov (bk s.op)) :=
  ⟨fun q => (ht _ (heap_lt h.box) (by rw [h.l1]; exact q)).trans h.box,
   fun q => brow_kept h.hr (fun b e => ht b (h.hr.lt b e).2 (by rw [h.l2 b e]; exact q)),
   fun q => brow_kept h.tr (fun b e => ht b (h.tr.lt b e).2 (by rw [h.l3 b e]; exact q)),
   fun q => brow_kept h.lr (fun b e => ht b (h.lr.lt b e).2 (by rw [h.l4 b e]; exact q)),
   fun q => brow_kept h.rr (fun b e => ht b (h.rr.lt b e).2 (by rw [h.l5 b e]; exact q)),
   fun q => brow_kept h.kr (fun b e => ht b (h.kr.lt b e).2 (by rw [h.l6 b e]; exact q)),
   fun q => brow_kept h.or_ (fun b e => ht b (h.or_.lt b e).2 (by rw [h.l7 b e]; exact q))⟩
theorem SMem.drew (h : SMem F L s kv ov w) (q : Nat) : SMem F L s kv ov (w.drewN q) :=
  have K := h.keep (w' := w.drewN q) 0 (fun _ _ _ => rfl)
  ⟨K.1 (by decide), K.2.1 (by decide), K.2.2.1 (by decide), K.2.2.2.1 (by decide), K.2.2.2.2.1 (by decide), K.2.2.2.2.2.1 (by decide), K.2.2.2.2.2.2 (by decide), h.l1, h.l2, h.l3, h.l4, h.l5, h.l6, h.l7, h.own, ⟨h.below.os, h.below.tape, h.below.output, h.below.size, h.below.block⟩⟩
theorem row_own {B : Nat} {v : Value} {ks : List Int} {g m c : Nat} (hr : BRow B w v ks) (e : v = .slice (some ⟨g, 0, none⟩) m c) : B ≤ g ∧ g < w.heap.size := by
  have := hr.lt g (by rw [e]; rfl)
  exact this
theorem SMem.setT (h : SMem F L s kv ov w) {g m c p : Nat} (e : F.tv = .slice (some ⟨g, 0, none⟩) m c) (hp : p < F.n) (v : Nat) : SMem F L { s with tu := up s.tu p v } kv ov (w.setCell ⟨g, p, none⟩ (.int .i64 (v : Nat))) := by
  have K := h.keep (w' := w.setCell ⟨g, p, none⟩ (.int .i64 (v : Nat))) 3 (fun b _ hL => heap_setCell_other _ _ _ _ (fun q => hL (h.l3 b (by rw [e, q]; rfl))))
  have hr := h.tr
  rw [e] at hr
  have hm : m = F.n := by obtain ⟨_, _, e2, -⟩ := brow_shape hr; injection e2 with _ e3 _; rw [e3, rowI_len]
  have h2 := (brow_set hr (k := p) (v : Int) (by omega)).2
  rw [rowI_up, ← e] at h2
  exact ⟨K.1 (by decide), K.2.1 (by decide), h2, K.2.2.2.1 (by decide), K.2.2.2.2.1 (by decide), K.2.2.2.2.2.1 (by decide), K.2.2.2.2.2.2 (by decide), h.l1, h.l2, h.l3, h.l4, h.l5, h.l6, h.l7, h.own, h.below.setCell (row_own h.tr e).1 _⟩
theorem SMem.setL (h : SMem F L s kv ov w) {g m c p : Nat} (e : F.lv = .slice (some ⟨g, 0, none⟩) m c) (hp : p < F.n) (v : Nat) : SMem F L { s with lo := up s.lo p v } kv ov (w.setCell ⟨g, p, none⟩ (.int .i64 (v : Nat))) := by
  have K := h.keep (w' := w.setCell ⟨g, p, none⟩ (.int .i64 (v : Nat))) 4 (fun b _ hL => heap_setCell_other _ _ _ _ (fun q => hL (h.l4 b (by rw [e, q]; rfl))))
  have hr := h.lr
  rw [e] at hr
  have hm : m = F.n := by obtain ⟨_, _, e2, -⟩ := brow_shape hr; injection e2 with _ e3 _; rw [e3, rowI_len]
  have h2 := (brow_set hr (k := p) (v : Int) (by omega)).2
  rw [rowI_up, ← e] at h2
  exact ⟨K.1 (by decide), K.2.1 (by decide), K.2.2.1 (by decide), h2, K.2.2.2.2.1 (by decide), K.2.2.2.2.2.1 (by decide), K.2.2.2.2.2.2 (by decide), h.l1, h.l2, h.l3, h.l4, h.l5, h.l6, h.l7, h.own, h.below.setCell (row_own h.lr e).1 _⟩
theorem SMem.setR (h : SMem F L s kv ov w) {g m c p : Nat} (e : F.rv = .slice (some ⟨g, 0, none⟩) m c) (hp : p < F.n) (v : Nat) : SMem F L { s with tried := up s.tried p v } kv ov (w.setCell ⟨g, p, none⟩ (.int .i64 (v : Nat))) := by
  have K := h.keep (w' := w.setCell ⟨g, p, none⟩ (.int .i64 (v : Nat))) 5 (fun b _ hL => heap_setCell_other _ _ _ _ (fun q => hL (h.l5 b (by rw [e, q]; rfl))))
  have hr := h.rr
  rw [e] at hr
  have hm : m = F.n := by obtain ⟨_, _, e2, -⟩ := brow_shape hr; injection e2 with _ e3 _; rw [e3, rowI_len]
  have h2 := (brow_set hr (k := p) (v : Int) (by omega)).2
  rw [rowI_up, ← e] at h2
  exact ⟨K.1 (by decide), K.2.1 (by decide), K.2.2.1 (by decide), K.2.2.2.1 (by decide), h2, K.2.2.2.2.2.1 (by decide), K.2.2.2.2.2.2 (by decide), h.l1, h.l2, h.l3, h.l4, h.l5, h.l6, h.l7, h.own, h.below.setCell (row_own h.rr e).1 _⟩
theorem SMem.setH (h : SMem F L s kv ov w) {g m c p : Nat} (e : F.hv = .slice (some ⟨g, 0, none⟩) m c) (hp : p < F.n) (v : Nat) : SMem F L { s with hd := fun x => if x = p then some v else s.hd x } kv ov (w.setCell ⟨g, p, none⟩ (.int .i64 (v : Nat))) := by
  have K := h.keep (w' := w.setCell ⟨g, p, none⟩ (.int .i64 (v : Nat))) 2 (fun b _ hL => heap_setCell_other _ _ _ _ (fun q => hL (h.l2 b (by rw [e, q]; rfl))))
  have hr := h.hr
  rw [e] at hr
  have hm : m = F.n := by obtain ⟨_, _, e2, -⟩ := brow_shape hr; injection e2 with _ e3 _; rw [e3, rowI_len]
  have h2 := (brow_set hr (k := p) (v : Int) (by omega)).2
  have e4 : (rowI F.n (fun p => hdI (s.hd p))).set p (v : Int) = rowI F.n (fun x => hdI (if x = p then some v else s.hd x)) := by
    rw [rowI_set]
    refine rowI_congr (fun x _ => ?_)
    by_cases q : x = p
    · rw [if_pos q, if_pos q]; rfl
    · rw [if_neg q, if_neg q]
  rw [e4, ← e] at h2
  exact ⟨K.1 (by decide), h2, K.2.2.1 (by decide), K.2.2.2.1 (by decide), K.2.2.2.2.1 (by decide), K.2.2.2.2.2.1 (by decide), K.2.2.2.2.2.2 (by decide), h.l1, h.l2, h.l3, h.l4, h.l5, h.l6, h.l7, h.own, h.below.setCell (row_own h.hr e).1 _⟩
theorem SMem.setTurn (h : SMem F L s kv ov w) (t : Nat) : SMem F L { s with turn := t } kv ov (w.setCell ⟨F.sb, 5, none⟩ (.int .i64 (t : Nat))) := by
  have K := h.keep (w' := w.setCell ⟨F.sb, 5, none⟩ (.int .i64 (t : Nat))) 1 (fun b _ hL => heap_setCell_other _ _ _ _ (fun q => hL (by rw [q]; exact h.l1)))
  exact ⟨by rw [heap_setCell_same _ _ _ _ _ _ h.box]; rfl, K.2.1 (by decide), K.2.2.1 (by decide), K.2.2.2.1 (by decide), K.2.2.2.2.1 (by decide), K.2.2.2.2.2.1 (by decide), K.2.2.2.2.2.2 (by decide), h.l1, h.l2, h.l3, h.l4, h.l5, h.l6, h.l7, h.own, h.below.setCell h.own _⟩
/-- Another trail. -/
theorem SMem.setK (h : SMem F L s kv ov w) {kv' : Value} {l : List Nat} (hr : BRow F.w0.heap.size w kv' (bk l)) (hL : ∀ b, kv'.ownBlock = some b → L b = 6) : SMem F L { s with tl := l } kv' ov (w.setCell ⟨F.sb, 6, none⟩ kv') := by
  have hk : ∀ b, L b ≠ 1 → (w.setCell ⟨F.sb, 6, none⟩ kv').heap[b]? = w.heap[b]? := fun b hL => heap_setCell_other _ _ _ _ (fun q => hL (by rw [q]; exact h.l1))
  have K := h.keep (w' := w.setCell ⟨F.sb, 6, none⟩ kv') 1 (fun b _ hL => hk b hL)
  exact ⟨by rw [heap_setCell_same _ _ _ _ _ _ h.box]; rfl, K.2.1 (by decide), K.2.2.1 (by decide), K.2.2.2.1 (by decide), K.2.2.2.2.1 (by decide), brow_kept hr (fun b e => hk b (by rw [hL b e]; decide)), K.2.2.2.2.2.2 (by decide), h.l1, h.l2, h.l3, h.l4, h.l5, hL, h.l7, h.own, h.below.setCell h.own _⟩
theorem SMem.setO (h : SMem F L s kv ov w) {ov' : Value} {l : List Nat} (hr : BRow F.w0.heap.size w ov' (bk l)) (hL : ∀ b, ov'.ownBlock = some b → L b = 7) : SMem F L { s with op := l } kv ov' (w.setCell ⟨F.sb, 7, none⟩ ov') := by
  have hk : ∀ b, L b ≠ 1 → (w.setCell ⟨F.sb, 7, none⟩ ov').heap[b]? = w.heap[b]? := fun b hL => heap_setCell_other _ _ _ _ (fun q => hL (by rw [q]; exact h.l1))
  have K := h.keep (w' := w.setCell ⟨F.sb, 7, none⟩ ov') 1 (fun b _ hL => hk b hL)
  exact ⟨by rw [heap_setCell_same _ _ _ _ _ _ h.box]; rfl, K.2.1 (by decide), K.2.2.1 (by decide), K.2.2.2.1 (by decide), K.2.2.2.2.1 (by decide), K.2.2.2.2.2.1 (by decide), brow_kept hr (fun b e => hk b (by rw [hL b e]; decide)), h.l1, h.l2, h.l3, h.l4, h.l5, h.l6, hL, h.own, h.below.setCell h.own _⟩
/-- Blocks from the heap's end on are k's. -/
def lab (L : Nat → Nat) (N k : Nat) : Nat → Nat := fun b => if b < N then L b else k
theorem SMem.named (h : SMem F L s kv ov w) (k : Nat) : SMem F (lab L w.heap.size k) s kv ov w :=
  ⟨h.box, h.hr, h.tr, h.lr, h.rr, h.kr, h.or_, (if_pos (heap_lt h.box)).trans h.l1, fun b e => (if_pos (h.hr.lt b e).2).trans (h.l2 b e), fun b e => (if_pos (h.tr.lt b e).2).trans (h.l3 b e), fun b e => (if_pos (h.lr.lt b e).2).trans (h.l4 b e), fun b e => (if_pos (h.rr.lt b e).2).trans (h.l5 b e), fun b e => (if_pos (h.kr.lt b e).2).trans (h.l6 b e), fun b e => (if_pos (h.or_.lt b e).2).trans (h.l7 b e), h.own, h.below⟩
/-- The trail appended to, and stored. -/
theorem SMem.appK (h : SMem F L s kv ov w) {kv' : Value} {l : List Nat} (hr : BRow F.w0.heap.size w' kv' (bk l)) (ht : Turned (fun b => kv.ownBlock = some b) w w') (hn : ∀ b, kv'.ownBlock = some b → kv.ownBlock = some b ∨ w.heap.size ≤ b) :
    w'.heap[F.sb]? = some (oS F.nv F.hv F.tv F.lv F.rv s.turn kv ov) ∧ SM F { s with tl := l } (w'.setCell ⟨F.sb, 6, none⟩ kv') ∧ SMem F (lab L w.heap.size 6) { s with tl := l } kv' ov (w'.setCell ⟨F.sb, 6, none⟩ kv') := by
  have h6 := h.named 6
  have K := h6.keep (w' := w') 6 (fun b hb hL => ht.block b hb (fun q => hL (h6.l6 b q)))
  have k1 := K.1 (by decide)
  have hL' : ∀ b, kv'.ownBlock = some b → lab L w.heap.size 6 b = 6 := fun b e => by
    rcases hn b e with q | q
    · exact h6.l6 b q
    · exact if_neg (by omega)
  have hk : ∀ b, lab L w.heap.size 6 b ≠ 1 → (w'.setCell ⟨F.sb, 6, none⟩ kv').heap[b]? = w'.heap[b]? := fun b hL => heap_setCell_other _ _ _ _ (fun q => hL (by rw [q]; exact h6.l1))
  have hb : Below F.w0.heap.size F.w0 w' := h.below.trans (ht.below h.size (fun k e => (h.kr.lt k e).1))
  have key : SMem F (lab L w.heap.size 6) { s with tl := l } kv' ov (w'.setCell ⟨F.sb, 6, none⟩ kv') :=
    ⟨by rw [heap_setCell_same _ _ _ _ _ _ k1]; rfl, brow_kept (K.2.1 (by decide)) (fun b e => hk b (by rw [h6.l2 b e]; decide)), brow_kept (K.2.2.1 (by decide)) (fun b e => hk b (by rw [h6.l3 b e]; decide)), brow_kept (K.2.2.2.1 (by decide)) (fun b e => hk b (by rw [h6.l4 b e]; decide)), brow_kept (K.2.2.2.2.1 (by decide)) (fun b e => hk b (by rw [h6.l5 b e]; decide)), brow_kept hr (fun b e => hk b (by rw [hL' b e]; decide)), brow_kept (K.2.2.2.2.2.2 (by decide)) (fun b e => hk b (by rw [h6.l7 b e]; decide)), h6.l1, h6.l2, h6.l3, h6.l4, h6.l5, hL', h6.l7, h.own, hb.setCell h.own _⟩
  exact ⟨k1, ⟨_, _, _, key⟩, key⟩
theorem SMem.appO (h : SMem F L s kv ov w) {ov' : Value} {l : List Nat} (hr : BRow F.w0.heap.size w' ov' (bk l)) (ht : Turned (fun b => ov.ownBlock = some b) w w') (hn : ∀ b, ov'.ownBlock = some b → ov.ownBlock = some b ∨ w.heap.size ≤ b) :
    w'.heap[F.sb]? = some (oS F.nv F.hv F.tv F.lv F.rv s.turn kv ov) ∧ SM F { s with op := l } (w'.setCell ⟨F.sb, 7, none⟩ ov') := by
  have h6 := h.named 7
  have K := h6.keep (w' := w') 7 (fun b hb hL => ht.block b hb (fun q => hL (h6.l7 b q)))
  have k1 := K.1 (by decide)
  have hL' : ∀ b, ov'.ownBlock = some b → lab L w.heap.size 7 b = 7 := fun b e => by
    rcases hn b e with q | q
    · exact h6.l7 b q
    · exact if_neg (by omega)
  have hk : ∀ b, lab L w.heap.size 7 b ≠ 1 → (w'.setCell ⟨F.sb, 7, none⟩ ov').heap[b]? = w'.heap[b]? := fun b hL => heap_setCell_other _ _ _ _ (fun q => hL (by rw [q]; exact h6.l1))
  have hb : Below F.w0.heap.size F.w0 w' := h.below.trans (ht.below h.size (fun k e => (h.or_.lt k e).1))
  exact ⟨k1, _, _, _, ⟨by rw [heap_setCell_same _ _ _ _ _ _ k1]; rfl, brow_kept (K.2.1 (by decide)) (fun b e => hk b (by rw [h6.l2 b e]; decide)), brow_kept (K.2.2.1 (by decide)) (fun b e => hk b (by rw [h6.l3 b e]; decide)), brow_kept (K.2.2.2.1 (by decide)) (fun b e => hk b (by rw [h6.l4 b e]; decide)), brow_kept (K.2.2.2.2.1 (by decide)) (fun b e => hk b (by rw [h6.l5 b e]; decide)), brow_kept (K.2.2.2.2.2.1 (by decide)) (fun b e => hk b (by rw [h6.l6 b e]; decide)), brow_kept hr (fun b e => hk b (by rw [hL' b e]; decide)), h6.l1, h6.l2, h6.l3, h6.l4, h6.l5, h6.l6, hL', h.own, hb.setCell h.own _⟩⟩
/-- The rows' values, where there are places. -/
theorem row_slice {B n : Nat} {v : Value} {f : Nat → Int} (h : BRow B w v (rowI n f)) (hn : 0 < n) : ∃ g c, v = .slice (some ⟨g, 0, none⟩) n c ∧ ∀ W, BRow B W v (rowI n f) → (∀ o, W.frozen? ⟨g, o, none⟩ = false) ∧ ∀ p, p < n → W.cell? ⟨g, p, none⟩ = some (.int .i64 (f p)) := by
  obtain ⟨a, c, e, -⟩ := brow_shape h
  rw [rowI_len] at e
  rw [e] at h
  obtain ⟨g, rfl⟩ := brow_some h (by rw [rowI_len]; exact hn)
  refine ⟨g, c, e, fun W hW => ?_⟩
  rw [e] at hW
  exact ⟨(brow_set hW (k := 0) 0 hn).1, fun p hp => brow_at hW (rowI_at f hp)⟩
end
end

section
open Go.RowKit Go.Maps
/-- In block m: each vertex v that has arcs leads to the block f v of a map, which leads e to g v e. All of these blocks are labelled a. -/
structure EndsAt (L : Nat → Nat) (a : Nat) (w : World) (m : Nat) (f : Int → Option Nat) (n : Nat) (g : Int → Int → Option Int) (cn : Int → Nat) : Prop where
  out : MapG edM rdM none w m (fun v => (f v).map some) n
  inn : ∀ v b, okN v → f v = some b → MapG edI rdI 0 w b (g v) (cn v)
  pos : ∀ v b, okN v → f v = some b → 0 < cn v
  non : ∀ v, okN v → f v = none → ∀ e, okN e → g v e = none
  inj : ∀ v v' b, okN v → okN v' → f v = some b → f v' = some b → v = v'
  ne : ∀ v b, okN v → f v = some b → b ≠ m
  lm : L m = a
  lb : ∀ v b, okN v → f v = some b → L b = a
section
variable {L : Nat → Nat} {a m n : Nat} {w w' : World} {f : Int → Option Nat} {g : Int → Int → Option Int} {cn : Int → Nat}
theorem EndsAt.kept (h : EndsAt L a w m f n g cn) (hk : ∀ b, b < w.heap.size → L b = a → w'.heap[b]? = w.heap[b]?) : EndsAt L a w' m f n g cn :=
  ⟨h.out.kept (hk m h.out.lt h.lm), fun v b hv hf => (h.inn v b hv hf).kept (hk b (h.inn v b hv hf).lt (h.lb v b hv hf)), h.pos, h.non, h.inj, h.ne, h.lm, h.lb⟩
theorem EndsAt.named (h : EndsAt L a w m f n g cn) (k : Nat) : EndsAt (lab L w.heap.size k) a w m f n g cn :=
  ⟨h.out, h.inn, h.pos, h.non, h.inj, h.ne, (if_pos h.out.lt).trans h.lm, fun v b hv hf => (if_pos (h.inn v b hv hf).lt).trans (h.lb v b hv hf)⟩
theorem EndsAt.look (h : EndsAt L a w m f n g cn) {v : Int} (hv : okN v) : (Instr.lookup 60 (.map (some m)) (.int .i64 v) false).run Tryz.prog w = .ok (.map (f v)) w := by
  have := h.out.look kitM (t := 60) (e := 88) Tryz.underlying60 zeroM hv
  have e : (((f v).map some).getD none : Option Nat) = f v := by cases f v <;> rfl
  rw [e] at this
  exact this
theorem len_nil (w : World) (ty : TypeId) : (Builtin.len_ #[88] ty #[.map none]).run Tryz.prog w = .ok (.int .i64 0) w := by
  simp [Builtin.len_, run_underlying Tryz.underlying88, goInt]
/-- How many arcs a vertex has. -/
def cntOf (f : Int → Option Nat) (cn : Int → Nat) (v : Int) : Nat := match f v with | none => 0 | some _ => cn v
theorem EndsAt.len (h : EndsAt L a w m f n g cn) {v : Int} (hv : okN v) (ty : TypeId) : (Builtin.len_ #[88] ty #[.map (f v)]).run Tryz.prog w = .ok (.int .i64 (cntOf f cn v : Nat)) w := by
  unfold cntOf
  cases hf : f v with
  | none => exact len_nil w ty
  | some b => exact (h.inn v b hv hf).len (t := 88) (e := 3) Tryz.underlying88 ty
theorem EndsAt.cnt (h : EndsAt L a w m f n g cn) {v : Int} (hv : okN v) : 0 < cntOf f cn v ↔ (f v).isSome = true := by
  unfold cntOf
  cases hf : f v with
  | none => simp
  | some b => have := h.pos v b hv hf; simp; omega
/-- One end more. -/
def putE (g : Int → Int → Option Int) (v e : Int) (o : Option Int) : Int → Int → Option Int := fun x y => if x = v ∧ y = e then o else g x y
theorem turned_mapT {S : Nat → Prop} {w w' : World} {b : Nat} (h : w.mapTurned w' b) (hs : S b) : Turned S w w' := turned_map h hs
theorem heap_mapT {w w' : World} {b k : Nat} (h : w.mapTurned w' b) (hk : k ≠ b) : w'.heap[k]? = w.heap[k]? := by
  obtain ⟨es, clock, es', clock', hb, rfl⟩ := h
  exact ChangeMaps.heap_setBlock_other hb _ hk
theorem putE_same (g : Int → Int → Option Int) (v e : Int) (o : Option Int) (y : Int) : putE g v e o v y = putG (g v) e o y := by
  unfold putE putG
  by_cases z : y = e
  · rw [if_pos ⟨rfl, z⟩, if_pos z]
  · rw [if_neg (fun q => z q.2), if_neg z]
theorem putE_other (g : Int → Int → Option Int) {v x : Int} (e : Int) (o : Option Int) (h : x ≠ v) : putE g v e o x = g x := by
  funext y; exact if_neg (fun q => h q.1)
def upE {X : Type} (f : Int → X) (v : Int) (x : X) : Int → X := fun y => if y = v then x else f y
theorem upE_same {X : Type} (f : Int → X) (v : Int) (x : X) : upE f v x v = x := if_pos rfl
theorem upE_ne {X : Type} (f : Int → X) {v y : Int} (x : X) (h : y ≠ v) : upE f v x y = f y := if_neg h
/-- put, where the vertex has arcs already. -/
theorem EndsAt.putOld (h : EndsAt L a w m f n g cn) {v e o : Int} {b : Nat} (hv : okN v) (he : okN e) (hf : f v = some b) (hg : g v e = none) (hn : cn v < 1000000) :
    ∃ w', (Instr.mapUpdate 88 (.map (some b)) (.int .i64 e) (.int .i64 o)).run Tryz.prog w = .ok () w' ∧ EndsAt L a w' m f n (putE g v e (some o)) (upE cn v (cn v + 1)) ∧ Turned (fun k => L k = a) w w' := by
  obtain ⟨w', r, g1, g2⟩ := (h.inn v b hv hf).put kitI (t := 88) (e := 3) Tryz.underlying88 (by unfold maxLen; omega) he o
  rw [hg] at g1
  have g1' : MapG edI rdI 0 w' b (putG (g v) e (some o)) (cn v + 1) := g1
  refine ⟨w', r, ⟨h.out.kept (heap_mapT g2 (fun q => h.ne v b hv hf q.symm)), fun v' b' hv' hf' => ?_, fun v' b' hv' hf' => ?_, fun v' hv' hf' e' he' => ?_, h.inj, h.ne, h.lm, h.lb⟩, turned_mapT g2 (h.lb v b hv hf)⟩
  · by_cases q : v' = v
    · subst q
      obtain rfl : b' = b := Option.some.inj (hf'.symm.trans hf)
      rw [upE_same]
      exact g1'.congr (fun y _ => putE_same g v' e (some o) y)
    · rw [upE_ne _ _ q, putE_other g e (some o) q]
      exact (h.inn v' b' hv' hf').kept (heap_mapT g2 (fun z => q (h.inj v' v b hv' hv (by rw [← z]; exact hf') hf)))
  · by_cases q : v' = v
    · rw [q, upE_same]; omega
    · rw [upE_ne _ _ q]; exact h.pos v' b' hv' hf'
  · have hq : v' ≠ v := fun q => by rw [q, hf] at hf'; cases hf'
    rw [putE_other g e (some o) hq]
    exact h.non v' hv' hf' e' he'
/-- put, where it has none: a map of its own is made for it. -/
theorem EndsAt.putNew (h : EndsAt L a w m f n g cn) {v e o : Int} (hv : okN v) (he : okN e) (hf : f v = none) (hn : n < 1000000) :
    ∃ w1 w2, (Instr.mapUpdate 60 (.map (some m)) (.int .i64 v) (.map (some w.heap.size))).run Tryz.prog (w.alloc (.map #[] 0)) = .ok () w1 ∧ (Instr.lookup 60 (.map (some m)) (.int .i64 v) false).run Tryz.prog w1 = .ok (.map (some w.heap.size)) w1 ∧
      (Instr.mapUpdate 88 (.map (some w.heap.size)) (.int .i64 e) (.int .i64 o)).run Tryz.prog w1 = .ok () w2 ∧ EndsAt (lab L w.heap.size a) a w2 m (upE f v (some w.heap.size)) (n + 1) (putE g v e (some o)) (upE cn v 1) ∧ Turned (fun k => L k = a) w w2 := by
  have hb0 : Below w.heap.size w (w.alloc (.map #[] 0)) := (Below.refl _ _).alloc (Nat.le_refl _) _
  have hml := h.out.lt
  have ho : MapG edM rdM none (w.alloc (.map #[] 0)) m (fun v => (f v).map some) n := h.out.kept (hb0.block m hml)
  obtain ⟨w1, r1, g1, t1⟩ := ho.put kitM (t := 60) (e := 88) Tryz.underlying60 (by unfold maxLen; omega) hv (some w.heap.size)
  have e0 : ((f v).map some : Option (Option Nat)) = none := by rw [hf]; rfl
  have g1' : MapG edM rdM none w1 m (fun x => (upE f v (some w.heap.size) x).map some) (n + 1) := by
    have e2 : (if ((fun v => (f v).map some) v : Option (Option Nat)).isSome = true then n else n + 1) = n + 1 := by
      show (if ((f v).map some).isSome = true then n else n + 1) = n + 1
      rw [e0]; rfl
    rw [e2] at g1
    refine g1.congr (fun x _ => ?_)
    unfold putG
    by_cases q : x = v
    · rw [if_pos q, q, upE_same]; rfl
    · rw [if_neg q, upE_ne _ _ q]
  have hnew : MapG edI rdI 0 (w.alloc (.map #[] 0)) w.heap.size (fun _ => none) 0 := mapG_made w
  have hi1 : MapG edI rdI 0 w1 w.heap.size (fun _ => none) 0 := hnew.kept (heap_mapT t1 (fun q => by omega))
  obtain ⟨w2, r2, g2, t2⟩ := hi1.put kitI (t := 88) (e := 3) Tryz.underlying88 (by unfold maxLen; omega) he o
  have g2' : MapG edI rdI 0 w2 w.heap.size (putG (fun _ => none) e (some o)) 1 := g2
  have hold : ∀ k, k < w.heap.size → k ≠ m → w2.heap[k]? = w.heap[k]? := fun k hk hne => (heap_mapT t2 (by omega)).trans ((heap_mapT t1 hne).trans (hb0.block k hk))
  have hlook := g1'.look kitM (t := 60) (e := 88) Tryz.underlying60 zeroM hv
  rw [upE_same] at hlook
  have hlook' : (Instr.lookup 60 (.map (some m)) (.int .i64 v) false).run Tryz.prog w1 = .ok (.map (some w.heap.size)) w1 := hlook
  have ht : Turned (fun k => L k = a) w w2 := by
    have k1 : Turned (fun k => k = m ∨ k = w.heap.size) w w2 := ((turned_of_below hb0).trans (turned_mapT t1 (.inl rfl))).trans (turned_mapT t2 (.inr rfl))
    exact k1.mono (fun k hk q => q.elim (fun z => by rw [z]; exact h.lm) (fun z => absurd z (Nat.ne_of_lt hk)))
  refine ⟨w1, w2, r1, hlook', r2, ⟨g1'.kept (heap_mapT t2 (fun q => by omega)), fun v' b' hv' hf' => ?_, fun v' b' hv' hf' => ?_, fun v' hv' hf' e' he' => ?_, fun x y b hx hy h1 h2 => ?_, fun v' b' hv' hf' => ?_, (if_pos hml).trans h.lm, fun v' b' hv' hf' => ?_⟩, ht⟩
  · by_cases q : v' = v
    · subst q
      rw [upE_same] at hf' ⊢
      replace hf' := Option.some.inj hf'
      subst hf'
      refine g2'.congr (fun y hy => ?_)
      rw [putE_same]
      unfold putG
      by_cases z : y = e
      · rw [if_pos z, if_pos z]
      · rw [if_neg z, if_neg z]; exact h.non v' hv' hf y hy
    · rw [upE_ne _ _ q] at hf' ⊢
      rw [putE_other g e (some o) q]
      exact (h.inn v' b' hv' hf').kept (hold b' (h.inn v' b' hv' hf').lt (h.ne v' b' hv' hf'))
  · by_cases q : v' = v
    · rw [q, upE_same]; omega
    · rw [upE_ne _ _ q] at hf' ⊢; exact h.pos v' b' hv' hf'
  · by_cases q : v' = v
    · rw [q, upE_same] at hf'; cases hf'
    · rw [upE_ne _ _ q] at hf'
      rw [putE_other g e (some o) q]
      exact h.non v' hv' hf' e' he'
  · by_cases q1 : x = v
    · by_cases q2 : y = v
      · exact q1.trans q2.symm
      · rw [q1, upE_same] at h1
        rw [upE_ne _ _ q2] at h2
        replace h1 := Option.some.inj h1
        have := (h.inn y b hy h2).lt; omega
    · rw [upE_ne _ _ q1] at h1
      by_cases q2 : y = v
      · rw [q2, upE_same] at h2
        replace h2 := Option.some.inj h2
        have := (h.inn x b hx h1).lt; omega
      · rw [upE_ne _ _ q2] at h2
        exact h.inj x y b hx hy h1 h2
  · by_cases q : v' = v
    · rw [q, upE_same] at hf'; replace hf' := Option.some.inj hf'; omega
    · rw [upE_ne _ _ q] at hf'; exact h.ne v' b' hv' hf'
  · by_cases q : v' = v
    · rw [q, upE_same] at hf'; replace hf' := Option.some.inj hf'; exact if_neg (by omega)
    · rw [upE_ne _ _ q] at hf'; exact (if_pos (h.inn v' b' hv' hf').lt).trans (h.lb v' b' hv' hf')
end
end

section
open Go.RowKit Go.Maps
section
variable {L : Nat → Nat} {a m n : Nat} {w w' : World} {f : Int → Option Nat} {g : Int → Int → Option Int} {cn : Int → Nat}
theorem EndsAt.some_n (h : EndsAt L a w m f n g cn) {v : Int} {b : Nat} (hv : okN v) (hf : f v = some b) : ∃ k, n = k + 1 := by
  cases n with
  | zero =>
    have := h.out.zero hv
    rw [hf] at this
    cases this
  | succ k => exact ⟨k, rfl⟩
/-- drop, where other arcs are left. -/
theorem EndsAt.dropMore (h : EndsAt L a w m f n g cn) {v e : Int} {b k : Nat} (hv : okN v) (he : okN e) (hf : f v = some b) (hg : (g v e).isSome = true) (hc : cn v = k + 2) :
    ∃ w', (∀ ty, (Builtin.delete_ #[88, 3] ty #[.map (some b), .int .i64 e]).run Tryz.prog w = .ok (.tuple #[]) w') ∧ EndsAt L a w' m f n (putE g v e none) (upE cn v (k + 1)) ∧ Turned (fun k => L k = a) w w' := by
  have hi := h.inn v b hv hf
  rw [hc] at hi
  obtain ⟨w', r, g1, g2⟩ := hi.del (t := 88) (e := 3) Tryz.underlying88 he hg 0
  refine ⟨w', fun _ => r, ⟨h.out.kept (heap_mapT g2 (fun q => h.ne v b hv hf q.symm)), fun v' b' hv' hf' => ?_, fun v' b' hv' hf' => ?_, fun v' hv' hf' e' he' => ?_, h.inj, h.ne, h.lm, h.lb⟩, turned_mapT g2 (h.lb v b hv hf)⟩
  · by_cases q : v' = v
    · subst q
      obtain rfl : b' = b := Option.some.inj (hf'.symm.trans hf)
      rw [upE_same]
      exact g1.congr (fun y _ => putE_same g v' e none y)
    · rw [upE_ne _ _ q, putE_other g e none q]
      exact (h.inn v' b' hv' hf').kept (heap_mapT g2 (fun z => q (h.inj v' v b hv' hv (by rw [← z]; exact hf') hf)))
  · by_cases q : v' = v
    · rw [q, upE_same]; omega
    · rw [upE_ne _ _ q]; exact h.pos v' b' hv' hf'
  · have hq : v' ≠ v := fun q => by rw [q, hf] at hf'; cases hf'
    rw [putE_other g e none hq]
    exact h.non v' hv' hf' e' he'
/-- drop, where it was the last one: the vertex's map goes too. -/
theorem EndsAt.dropLast (h : EndsAt L a w m f (n + 1) g cn) {v e : Int} {b : Nat} (hv : okN v) (he : okN e) (hf : f v = some b) (hg : (g v e).isSome = true) (hc : cn v = 1) :
    ∃ w1 w2, (∀ ty, (Builtin.delete_ #[88, 3] ty #[.map (some b), .int .i64 e]).run Tryz.prog w = .ok (.tuple #[]) w1) ∧ (Instr.lookup 60 (.map (some m)) (.int .i64 v) false).run Tryz.prog w1 = .ok (.map (some b)) w1 ∧ (∀ ty, (Builtin.len_ #[88] ty #[.map (some b)]).run Tryz.prog w1 = .ok (.int .i64 0) w1) ∧
      (∀ ty, (Builtin.delete_ #[60, 3] ty #[.map (some m), .int .i64 v]).run Tryz.prog w1 = .ok (.tuple #[]) w2) ∧ EndsAt L a w2 m (upE f v none) n (putE g v e none) (upE cn v 0) ∧ Turned (fun k => L k = a) w w2 := by
  have hi := h.inn v b hv hf
  rw [hc] at hi
  obtain ⟨w1, r, g1, t1⟩ := hi.del (t := 88) (e := 3) Tryz.underlying88 he hg 0
  have ho := h.out.kept (heap_mapT t1 (fun q => h.ne v b hv hf q.symm))
  have hsome : ((f v).map some : Option (Option Nat)).isSome = true := by rw [hf]; rfl
  obtain ⟨w2, r2, g2, t2⟩ := ho.del (t := 60) (e := 88) Tryz.underlying60 hv hsome 0
  have hlook := ho.look kitM (t := 60) (e := 88) Tryz.underlying60 zeroM hv
  rw [hf] at hlook
  have hlook' : (Instr.lookup 60 (.map (some m)) (.int .i64 v) false).run Tryz.prog w1 = .ok (.map (some b)) w1 := hlook
  have g2' : MapG edM rdM none w2 m (fun x => (upE f v none x).map some) n := by
    refine g2.congr (fun x _ => ?_)
    unfold putG
    by_cases q : x = v
    · rw [if_pos q, q, upE_same]; rfl
    · rw [if_neg q, upE_ne _ _ q]
  have hold : ∀ k, k ≠ m → k ≠ b → w2.heap[k]? = w.heap[k]? := fun k h1 h2 => (heap_mapT t2 h1).trans (heap_mapT t1 h2)
  have ht : Turned (fun k => L k = a) w w2 := (turned_mapT t1 (h.lb v b hv hf)).trans (turned_mapT t2 h.lm)
  refine ⟨w1, w2, fun _ => r, hlook', fun ty => g1.len (t := 88) (e := 3) Tryz.underlying88 ty, fun _ => r2, ⟨g2', fun v' b' hv' hf' => ?_, fun v' b' hv' hf' => ?_, fun v' hv' hf' e' he' => ?_, fun x y c hx hy h1 h2 => ?_, fun v' b' hv' hf' => ?_, h.lm, fun v' b' hv' hf' => ?_⟩, ht⟩
  · have q : v' ≠ v := fun q => by rw [q, upE_same] at hf'; cases hf'
    rw [upE_ne _ _ q] at hf' ⊢
    rw [putE_other g e none q]
    exact (h.inn v' b' hv' hf').kept (hold b' (h.ne v' b' hv' hf') (fun z => q (h.inj v' v b hv' hv (by rw [← z]; exact hf') hf)))
  · have q : v' ≠ v := fun q => by rw [q, upE_same] at hf'; cases hf'
    rw [upE_ne _ _ q] at hf' ⊢
    exact h.pos v' b' hv' hf'
  · by_cases q : v' = v
    · subst q
      rw [putE_same]
      exact g1.zero he'
    · rw [upE_ne _ _ q] at hf'
      rw [putE_other g e none q]
      exact h.non v' hv' hf' e' he'
  · have q1 : x ≠ v := fun q => by rw [q, upE_same] at h1; cases h1
    have q2 : y ≠ v := fun q => by rw [q, upE_same] at h2; cases h2
    rw [upE_ne _ _ q1] at h1
    rw [upE_ne _ _ q2] at h2
    exact h.inj x y c hx hy h1 h2
  · have q : v' ≠ v := fun q => by rw [q, upE_same] at hf'; cases hf'
    rw [upE_ne _ _ q] at hf'
    exact h.ne v' b' hv' hf'
  · have q : v' ≠ v := fun q => by rw [q, upE_same] at hf'; cases hf'
    rw [upE_ne _ _ q] at hf'
    exact h.lb v' b' hv' hf'
end
theorem equalIn_map {P : Program} (w : World) (d : Nat) {t k e : TypeId} (o : Option Nat) (h : P.underlying t = some (.map k e)) : (Op.equalIn (d + 1) t (.map o) (.map none)).run P w = .ok o.isNone w := by
  cases o <;> simp [Op.equalIn, run_underlying h]
theorem eql_map_nil (w : World) : (binOp .eql 88 (.map none) (.map none)).run Tryz.prog w = .ok (.bool true) w := by
  simp only [binOp]
  simp [Op.equal, Op.maxDepth, equalIn_map w 9999 none Tryz.underlying88]
theorem eql_map_some (w : World) (b : Nat) : (binOp .eql 88 (.map (some b)) (.map none)).run Tryz.prog w = .ok (.bool false) w := by
  simp only [binOp]
  simp [Op.equal, Op.maxDepth, equalIn_map w 9999 (some b) Tryz.underlying88]
/-- What put leaves. -/
def PutAns (L : Nat → Nat) (a : Nat) (w : World) (m n : Nat) (g : Int → Int → Option Int) (cn : Int → Nat) (v e o : Int) (w' : World) : Prop := ∃ f' n' cn', EndsAt (lab L w.heap.size a) a w' m f' n' (putE g v e (some o)) cn' ∧ n' ≤ n + 1 ∧ (∀ x, cn' x ≤ upE cn v (cn v + 1) x) ∧ Turned (fun k => L k = a) w w'
set_option maxHeartbeats 4000000 in
set_option maxRecDepth 100000 in
theorem kputS {L : Nat → Nat} {a m n : Nat} {w : World} {f : Int → Option Nat} {g : Int → Int → Option Int} {cn : Int → Nat} (h : EndsAt L a w m f n g cn) {v e o : Int} (hv : okN v) (he : okN e) (hg : g v e = none) (hn : n < 1000000) (hc : cn v < 1000000) :
    Calls Tryz.prog 35 #[.map (some m), .int .i64 v, .int .i64 e, .int .i64 o] w fun r w' => r = .returned (.tuple #[]) ∧ Hid (PutAns L a w m n g cn v e o w') := by
  have k1 := h.look hv
  cases hf : f v with
  | none =>
    obtain ⟨w1, w2, r1, r2, r3, h2, ht⟩ := h.putNew (o := o) hv he hf hn
    rw [hf] at k1
    have q1 := eql_map_nil w
    have hmm := @run_makeMap Tryz.prog
    have HA : Hid (PutAns L a w m n g cn v e o w2) := ⟨_, _, _, h2, Nat.le_refl _, fun x => by
      by_cases q : x = v
      · rw [q, upE_same, upE_same]; omega
      · rw [upE_ne _ _ q, upE_ne _ _ q]; exact Nat.le_refl _, ht⟩
    clear h hv he hg hn hc hf h2 ht
    go_enter Tryz.func35, Tryz.ntmps35
    go_wp2_with fail
    go_end0
    exact ⟨rfl, HA⟩
  | some b =>
    obtain ⟨w2, r3, h2, ht⟩ := h.putOld (o := o) hv he hf hg hc
    rw [hf] at k1
    have q1 := eql_map_some w b
    have hs := ht.size
    have HA : Hid (PutAns L a w m n g cn v e o w2) := ⟨_, _, _, by
      have h3 := h2
      refine ⟨h3.out, h3.inn, h3.pos, h3.non, h3.inj, h3.ne, (if_pos h.out.lt).trans h.lm, fun v' b' hv' hf' => (if_pos (h.inn v' b' hv' hf').lt).trans (h.lb v' b' hv' hf')⟩, Nat.le_succ _, fun x => Nat.le_refl _, ht⟩
    clear h hv he hg hn hc hf h2 ht hs
    go_enter Tryz.func35, Tryz.ntmps35
    go_wp2_with fail
    go_end0
    exact ⟨rfl, HA⟩
/-- What drop leaves. -/
def DropAns (L : Nat → Nat) (a : Nat) (w : World) (m n : Nat) (g : Int → Int → Option Int) (cn : Int → Nat) (v e : Int) (w' : World) : Prop := ∃ f' n' cn', EndsAt L a w' m f' n' (putE g v e none) cn' ∧ n' ≤ n ∧ (∀ x, cn' x ≤ cn x) ∧ Turned (fun k => L k = a) w w'
set_option maxHeartbeats 4000000 in
set_option maxRecDepth 100000 in
theorem kdropS {L : Nat → Nat} {a m n : Nat} {w : World} {f : Int → Option Nat} {g : Int → Int → Option Int} {cn : Int → Nat} (h : EndsAt L a w m f n g cn) {v e : Int} (hv : okN v) (he : okN e) (hg : (g v e).isSome = true) (hcs : cn v < 1000000) :
    Calls Tryz.prog 37 #[.map (some m), .int .i64 v, .int .i64 e] w fun r w' => r = .returned (.tuple #[]) ∧ Hid (DropAns L a w m n g cn v e w') := by
  have k1 := h.look hv
  obtain ⟨b, hf⟩ : ∃ b, f v = some b := by
    cases hf : f v with
    | none => rw [h.non v hv hf e he] at hg; cases hg
    | some b => exact ⟨b, rfl⟩
  rw [hf] at k1
  obtain ⟨n', rfl⟩ := h.some_n hv hf
  have hp := h.pos v b hv hf
  obtain ⟨c, hc⟩ : ∃ c, cn v = c + 1 := ⟨cn v - 1, by omega⟩
  cases c with
  | zero =>
    obtain ⟨w1, w2, r1, r2, r3, r4, h2, ht⟩ := h.dropLast hv he hf hg hc
    have HA : Hid (DropAns L a w m (n' + 1) g cn v e w2) := ⟨_, _, _, h2, Nat.le_succ _, fun x => by
      by_cases q : x = v
      · rw [q, upE_same]; omega
      · rw [upE_ne _ _ q]; exact Nat.le_refl _, ht⟩
    have R1 := r1 0
    clear h hv he hg hcs hf hp hc h2 ht
    go_enter Tryz.func37, Tryz.ntmps37
    go_wp2_with fail
    go_end0
    exact ⟨rfl, HA⟩
  | succ k =>
    obtain ⟨w2, r1, h2, ht⟩ := h.dropMore hv he hf hg hc
    have k2 := h2.look hv
    rw [hf] at k2
    obtain ⟨kk, hkk⟩ : ∃ kk, kk = k + 1 := ⟨_, rfl⟩
    have k3 : ∀ ty, (Builtin.len_ #[88] ty #[.map (some b)]).run Tryz.prog w2 = .ok (.int .i64 (kk : Nat)) w2 := fun ty => by
      have := (h2.inn v b hv hf).len (t := 88) (e := 3) Tryz.underlying88 ty
      rw [upE_same, ← hkk] at this; exact this
    have z1 : ((kk : Int) == 0) = false := by simp; omega
    have HA : Hid (DropAns L a w m (n' + 1) g cn v e w2) := ⟨_, _, _, h2, Nat.le_refl _, fun x => by
      by_cases q : x = v
      · rw [q, upE_same]; omega
      · rw [upE_ne _ _ q]; exact Nat.le_refl _, ht⟩
    clear h hv he hg hcs hf hp hc h2 ht hkk
    go_enter Tryz.func37, Tryz.ntmps37
    go_wp2_with fail
    go_end0
    exact ⟨rfl, HA⟩
end

section
open Go.RowKit Go.Maps
/-- A Cond: its parts, its three maps, its count. -/
def oC (p ma ml me : Nat) (lk : Int) : Obj := .cells #[.pointer (some ⟨p, 0, none⟩), .map (some ma), .map (some ml), .map (some me), .int .i64 lk] 62 (0, 0)
theorem cellsC {w : World} {c p ma ml me : Nat} {lk : Int} (h : w.heap[c]? = some (oC p ma ml me lk)) : w.cell? ⟨c, 0, none⟩ = some (.pointer (some ⟨p, 0, none⟩)) ∧ w.cell? ⟨c, 1, none⟩ = some (.map (some ma)) ∧ w.cell? ⟨c, 2, none⟩ = some (.map (some ml)) ∧ w.cell? ⟨c, 3, none⟩ = some (.map (some me)) ∧ w.cell? ⟨c, 4, none⟩ = some (.int .i64 lk) ∧ ∀ o, w.frozen? ⟨c, o, none⟩ = false :=
  ⟨(cell_of_row _ _ 0 _ _ (0, 0) h).trans rfl, (cell_of_row _ _ 1 _ _ (0, 0) h).trans rfl, (cell_of_row _ _ 2 _ _ (0, 0) h).trans rfl, (cell_of_row _ _ 3 _ _ (0, 0) h).trans rfl, (cell_of_row _ _ 4 _ _ (0, 0) h).trans rfl, fun o => frozen_of_row _ _ o _ _ h⟩
theorem oC_look {w : World} {c p ma ml me : Nat} {lk : Int} (h : w.heap[c]? = some (oC p ma ml me lk)) (x : Int) : (w.setCell ⟨c, 4, none⟩ (.int .i64 x)).heap[c]? = some (oC p ma ml me x) := by
  rw [heap_setCell_same _ _ _ _ _ _ h]; rfl
theorem zeroU (w : World) : (zeroValue 106).run Tryz.prog w = .ok (evU ()) w := by kernel_rfl
/-- A set of numbers, in block s. -/
abbrev SetAt (w : World) (s : Nat) (F : Int → Option Unit) (n : Nat) : Prop := MapG edU rdU () w s F n
set_option maxHeartbeats 1000000 in
set_option maxRecDepth 100000 in
theorem kshasS {w : World} {s n : Nat} {F : Int → Option Unit} {v : Int} (h : SetAt w s F n) (hv : okN v) :
    Calls Tryz.prog 59 #[.map (some s), .int .i64 v] w fun r w' => r = .returned (.bool (F v).isSome) ∧ Below w.heap.size w w' := by
  have k1 := h.look2 kitU (t := 99) (e := 106) Tryz.underlying99 zeroU hv
  have e1 : evU ((F v).getD ()) = .agg #[] := rfl
  rw [e1] at k1
  generalize (F v).isSome = b at *
  have HB : Hid (∀ o, Below w.heap.size w (w.alloc o)) := fun o => (Below.refl _ _).alloc (Nat.le_refl _) _
  clear h hv e1
  go_enter Tryz.func59, Tryz.ntmps59
  go_wp2_with fail
  go_ret
  exact ⟨rfl, unhide HB _⟩
set_option maxHeartbeats 1000000 in
set_option maxRecDepth 100000 in
theorem klookS {L : Nat → Nat} {a m n : Nat} {w : World} {f : Int → Option Nat} {g : Int → Int → Option Int} {cn : Int → Nat} {c p ma ml me : Nat} {lk : Int} (h : EndsAt L a w m f n g cn) (hb : w.heap[c]? = some (oC p ma ml me lk)) (hc : L c ≠ a) {v : Int} (hv : okN v) (hl : 0 ≤ lk) (hl2 : lk ≤ 1000000000) :
    Calls Tryz.prog 74 #[.pointer (some ⟨c, 0, none⟩), .int .i64 v, .map (some m)] w fun r w' => r = .returned (.map (f v)) ∧ w' = w.setCell ⟨c, 4, none⟩ (.int .i64 (lk + 1)) := by
  obtain ⟨-, -, -, -, d4, df⟩ := cellsC hb
  obtain ⟨w1, hw1⟩ : ∃ w1, w1 = w.setCell ⟨c, 4, none⟩ (.int .i64 (lk + 1)) := ⟨_, rfl⟩
  have h1 : EndsAt L a w1 m f n g cn := h.kept (fun b hbl hla => by rw [hw1]; exact heap_setCell_other _ _ _ _ (fun e => hc (by have e2 : b = c := e; rw [← e2]; exact hla)))
  have k1 := h1.look hv
  obtain ⟨l1, hl1⟩ : ∃ l1, l1 = lk + 1 := ⟨_, rfl⟩
  rw [← hl1] at hw1 ⊢
  have zw : wrap64 (lk + 1) = l1 := by unfold wrap64; omega
  have HW := hide hw1
  generalize f v = fv at *
  clear h hb hc hv hl hl2 h1 hl1
  subst hw1
  go_enter Tryz.func74, Tryz.ntmps74
  go_wp2_with fail
  go_ret
  exact ⟨rfl, rfl⟩
end

section
open Go.RowKit Go.Maps
/-- A thing is laid behind a row of one's own. -/
theorem appendN {w : World} {B n : Nat} {v : Value} {xs : List Value} (k : Int) (h : w.ownsRow B 3 1 v n xs) (hB : B ≤ w.heap.size) (hn : n < 1099511627776) :
    ∃ a' c' w', (Builtin.append_ #[25, 25] 25 #[v, .slice (some ⟨w.heap.size, 0, none⟩) 1 1]).run Tryz.prog (w.alloc (.cells #[(Value.int .i64) k] 3)) = .ok (.slice a' (n + 1) c') w' ∧ w'.ownsRow B 3 1 (.slice a' (n + 1) c') (n + 1) (xs ++ [(Value.int .i64) k]) ∧ w.grownBy w' v.ownBlock ∧
      (∀ b, (Value.slice a' (n + 1) c').ownBlock = some b → v.ownBlock = some b ∨ w.heap.size ≤ b) := by
  obtain ⟨i0, hi0, hz0, hzs, hzb⟩ := info_parts info3N
  have hb : Below w.heap.size w (w.alloc (.cells #[(Value.int .i64) k] 3)) := (Below.refl _ _).alloc (Nat.le_refl _) _
  obtain ⟨v', w', hr, hown', hgr, -, hloc⟩ := run_append_own_at (P := Tryz.prog) (w.alloc (.cells #[(Value.int .i64) k] 3)) B 25 25 3 i0 _ 1 8 Tryz.underlying25 hi0 hz0 hzs hzb rfl (by omega) v n xs (h.alloc _) ⟨w.heap.size, 0, none⟩ 1 1 [(Value.int .i64) k] rfl
    (fun j u hj => by
      have h1 : j < 1 := by
        have := (List.getElem?_eq_some_iff.1 hj).1
        simpa using this
      obtain rfl : j = 0 := by omega
      rw [show (⟨w.heap.size, 0, none⟩ : Addr).add 0 = ⟨w.heap.size, 0, none⟩ by unfold Addr.add; split <;> simp_all, World.cell?_alloc_at _ _ _ _ (by simp)]
      simpa using hj) (by intro u hu; simp at hu; subst hu; rfl) (by unfold maxLen; omega) (by omega) (Nat.le_trans hB hb.size)
  obtain ⟨a', c', rfl⟩ : ∃ a' c', v' = .slice a' (n + 1) c' := by
    rcases hown'.2 with ⟨-, h3⟩ | ⟨g, cap, cur, rfl, -⟩
    · omega
    · exact ⟨_, _, rfl⟩
  refine ⟨a', c', w', hr, hown', ⟨hgr.os, hgr.tape, hgr.output, Nat.le_trans hb.size hgr.size, fun j hj hne => (hgr.block j (Nat.lt_of_lt_of_le hj hb.size) hne).trans (hb.block j hj)⟩, fun b hb' => ?_⟩
  rcases hloc with e | e
  · exact .inl (e ▸ hb')
  · rw [e] at hb'
    injection hb' with hb'
    exact .inr (by have := hb.size; omega)

set_option maxHeartbeats 2000000 in
set_option maxRecDepth 100000 in
theorem headsN {p m : Nat} {S : List (Part Int)} (w : World) (h : PAtN w p m S) (hn : tot S < 1099511627776) : Calls Tryz.prog 39 #[.pointer (some ⟨p, 0, none⟩)] w fun e w' => ∃ v ys, e = .returned v ∧
    Hid (Rising ltN ys ∧ (∀ k, k ∈ ys ↔ ∃ x ∈ S, x.ks.headD (0 : Int) = k) ∧ w'.ownsRow w.heap.size 3 1 v ys.length (ys.map (Value.int .i64)) ∧ Below w.heap.size w w') := by
  have c1 := h.cell
  obtain ⟨D, hown, -, hsz, hat⟩ := h.map
  obtain ⟨w1, hr1, g1, g2, g3⟩ := hown.range kitN.law (t := 83) (e := 95) Tryz.underlying83
  have HM0 : Hid (∃ hs left c, hs.length = 0 ∧ hs.length + c ≤ tot S ∧ (∀ l, left l = true → Maps.has D l = true) ∧ HMidN w m w.heap.size (tot S) D S hs (.slice none 0 0) left c w1) := by
    refine ⟨[], Maps.has D, Maps.size D, rfl, by simp [hsz], fun l hl => hl, g1, ⟨g2.os, g2.tape, g2.output, g2.size, fun k hk => g2.block k hk (by simp)⟩, Nat.le_refl _, by omega, World.ownsRow_nil _ _ _ _, List.Pairwise.nil, fun k hk => ?_, fun k hk => by simp at hk⟩
    constructor
    · intro hk; simp at hk
    · rintro ⟨⟨x, hx, rfl⟩, hl⟩
      have hm := head_memN h.fam hx
      rw [(hat _ hk).2, fOf_some h.fam hx hm] at hl
      cases hl
  have HST : Hid (∀ hs v left c wr, (∀ l, left l = true → Maps.has D l = true) → HMidN w m w.heap.size (tot S) D S hs v left c wr → _) := fun hs v left c wr h1 h2 => HMidN.step h hat h1 h2 0
  have HP := hide h
  have HN := hide hn
  clear h hown hsz hat g1 g2 g3 hn
  go_enter Tryz.func39, Tryz.ntmps39
  go_wp2_with fail
  go_loopw [3] (fun s3 wr => ∃ (L : Nat) (a : Option Addr) (c0 : Nat), s3 = .slice a L c0 ∧ Hid (∃ hs left c, hs.length = L ∧ hs.length + c ≤ tot S ∧ (∀ l, left l = true → Maps.has D l = true) ∧ HMidN w m w.heap.size (tot S) D S hs (.slice a L c0) left c wr)) (fun _ wr => wr.rangeLeft m w.heap.size)
  case atStart => exact ⟨0, none, 0, rfl, unhide HM0⟩
  case round =>
    obtain ⟨L, a, c0, rfl, HM⟩ := hrel
    obtain ⟨hs, left, c, hL, hLc, hsub, hM⟩ := unhide HM
    clear HM
    rcases unhide HST hs _ left c wr hsub hM with ⟨rfl, hall, hrun⟩ | ⟨k, x, w', c', hx, hk, hok, hl, hrun, hen, hlt, hrg, hb, hsz, hrow⟩
    · have CS : Hid (Calls Tryz.prog 66 #[.slice a L c0] wr fun e w' => e = .returned (.tuple #[]) ∧ Hid (∃ ys : List Int, Rising ltN ys ∧ (∀ k, k ∈ ys ↔ ∃ x ∈ S, x.ks.headD (0 : Int) = k) ∧ w'.ownsRow w.heap.size 3 1 (.slice a L c0) ys.length (ys.map (Value.int .i64)) ∧ Below w.heap.size w w')) := by
        have hmem : ∀ k, k ∈ hs ↔ ∃ x ∈ S, x.ks.headD (0 : Int) = k := fun k => by
          constructor
          · exact hM.sub k
          · rintro ⟨x, hx, rfl⟩
            exact (hM.mem _ ((unhide HP).fam.keys x hx _ (head_memN (unhide HP).fam hx))).2 ⟨⟨x, hx, rfl⟩, hall _⟩
        subst hL
        by_cases h0 : hs = []
        · subst h0
          exact (sortNoneN a c0 wr).mono fun e w' hh => ⟨hh.1, [], List.Pairwise.nil, hmem, by rw [hh.2]; exact hM.row, by rw [hh.2]; exact hM.below⟩
        · have hrow := hM.row
          obtain ⟨g, rfl⟩ : ∃ g, a = some ⟨g, 0, none⟩ := by
            rcases hM.row.2 with ⟨-, h3⟩ | ⟨g, cap, cur, e, -⟩
            · exact absurd (List.eq_nil_of_length_eq_zero h3) h0
            · simp only [Value.slice.injEq] at e
              exact ⟨g, e.1⟩
          refine (psortN w.heap.size g c0 hs wr (by have := unhide HN; omega) hM.nodup hM.row).mono fun e w' hh => ⟨hh.1, ?_⟩
          obtain ⟨ys, y1, y2, y3, y4⟩ := unhide hh.2
          refine ⟨ys, y2, fun k => (y1.mem_iff).trans (hmem k), by rw [y1.length_eq]; exact y3, hM.below.grown y4 hM.room (fun j hj => ?_)⟩
          injection hj with hj
          exact (hM.row.lt j (by rw [← hj]; rfl)).1
      clear hL hLc hsub hM hall HST HN HP HM0
      go_wp2_with fail
      refine (unhide CS).mono ?_
      rintro e w' ⟨rfl, hF⟩
      clear CS
      go_wp2_with fail
      go_ret
      obtain ⟨ys, y1⟩ := unhide hF
      exact ⟨_, ys, rfl, y1⟩
    · obtain ⟨g, cx, ev, -, -, -, -, hc⟩ := ((unhide HP).rows x hx).some_ ((unhide HP).fam.some_ x hx)
      have hpos : 0 < x.ks.length := List.length_pos_iff.2 ((unhide HP).fam.some_ x hx)
      have c2 := ((unhide HP).rows x hx).cell.1
      have c3 := hc 0 hpos
      rw [show x.ks.getD 0 (0 : Int) = x.ks.headD (0 : Int) by cases x.ks <;> rfl] at c3
      have d2 : w'.cell? ⟨x.q, 0, none⟩ = some x.v := (hb.cell (by exact World.block_lt_of_cell? _ _ c2)).trans c2
      have d3 := (hb.cell (p := ⟨g, 0, none⟩) (by exact World.block_lt_of_cell? _ _ c3)).trans c3
      rw [ev] at d2
      have hz : (0 : Int) < (x.ks.length : Int) := by omega
      have hcm : wr.rangeLeft m w.heap.size = c := hM.rng.left_eq
      by_cases e : k = x.ks.headD (0 : Int)
      · obtain ⟨a6, c6, w6, hr6, hown6, hg6, hv6⟩ := appendN k hrow (by rw [hsz]; exact hM.room) (by have := unhide HN; omega)
        have hM6 := hM.push (unhide HP) hx hk hok hl e hrg hb hsz (by rw [List.length_append, List.map_append]; exact hown6) hg6 (fun b hb' => (hrow.lt b hb').1) (row_ne_iter hM.row hM.rng)
        have HM6 : Hid (∃ hs left c, hs.length = L + 1 ∧ hs.length + c ≤ tot S ∧ (∀ l, left l = true → Maps.has D l = true) ∧ HMidN w m w.heap.size (tot S) D S hs (.slice a6 (L + 1) c6) left c w6) := by
          refine ⟨hs ++ [k], fun l => left l && !l.sameKey (klN k), c', by rw [List.length_append, hL]; rfl, by rw [List.length_append, List.length_singleton]; omega, fun l hl' => hsub l (by simp at hl'; exact hl'.1), ?_⟩
          have := hM6
          rwa [hL] at this
        have HCM : Hid (w6.rangeLeft m w.heap.size < wr.rangeLeft m w.heap.size) := by show _ < _; rw [hM6.rng.left_eq, hcm]; exact hlt
        rw [hL] at hr6
        have HR6 := hide hr6
        rw [← e] at d3
        clear e
        generalize x.ks.length = Lx at *
        generalize x.q = q at *
        clear hM hM6 hrow hr6 hown6 hg6 hv6 hrg hb hsz hlt hsub hL hLc hcm HST hc c2 c3 ev hpos hl
        go_wp2_with (at_builtin; refine Lib.wpList_append_run _ rfl _ _ 25 25 rfl (.slice a L c0) (.slice (some ⟨w'.heap.size, 0, none⟩) 1 1) rfl rfl _ _ HR6.out ?_)
        go_roundw
        case rel => exact ⟨L + 1, a6, c6, rfl, unhide HM6⟩
        case measure => exact unhide HCM
      · have hM6 := hM.pass (unhide HP) hx hk e hrg hb hsz hrow
        have HM6 : Hid (∃ hs left c, hs.length = L ∧ hs.length + c ≤ tot S ∧ (∀ l, left l = true → Maps.has D l = true) ∧ HMidN w m w.heap.size (tot S) D S hs (.slice a L c0) left c w') :=
          ⟨hs, fun l => left l && !l.sameKey (klN k), c', hL, by omega, fun l hl' => hsub l (by simp at hl'; exact hl'.1), hM6⟩
        have HCM : Hid (w'.rangeLeft m w.heap.size < wr.rangeLeft m w.heap.size) := by show _ < _; rw [hM6.rng.left_eq, hcm]; exact hlt
        have hbq := beqN _ _ e
        have hbq2 : (k == x.ks.headD (0 : Int)) = false := by simpa using e
        generalize x.ks.headD (0 : Int) = hd at *
        generalize x.ks.length = Lx at *
        generalize x.q = q at *
        clear hM hM6 hrow hrg hb hsz hlt hsub hL hLc hcm HST hc c2 c3 ev hpos hl
        go_wp2_with fail
        go_roundw
        case rel => exact ⟨L, a, c0, rfl, unhide HM6⟩
        case measure => exact unhide HCM
end

section
section
variable {K : Type} {lt : K → K → Bool}

/-- In the midst of it: the first n of 'a' and the first j of 'b' are still to be laid, the others lie behind. -/
structure Tail (lt : K → K → Bool) (a b : List K) (n j : Nat) (cs : List K) : Prop where
  hn : n ≤ a.length
  hj : j ≤ b.length
  len : cs.length = a.length + b.length
  head : cs.take n = a.take n
  rise : Rising lt (cs.drop (n + j))
  mem : ∀ k, k ∈ cs.drop (n + j) ↔ k ∈ a.drop n ∨ k ∈ b.drop j
  after : ∀ x ∈ a.drop n, ∀ y ∈ b.take j, lt y x = true
  before : ∀ x ∈ a.take n, ∀ y ∈ b.drop j, lt x y = true

theorem tail_start (a b : List K) : Tail lt a b a.length b.length (a ++ b) :=
  ⟨Nat.le_refl _, Nat.le_refl _, by simp, by simp, by rw [List.drop_of_length_le (by simp)]; exact List.Pairwise.nil, fun k => by rw [List.drop_of_length_le (by simp)]; simp, fun x hx => by simp at hx, fun x _ y hy => by simp at hy⟩

def laid (cs : List K) (at_ j n : Nat) (x : K) : List K := (cs.take (at_ + j + 1) ++ (cs.drop at_).take (n - at_) ++ cs.drop (n + j + 1)).set (at_ + j) x

theorem Tail.step (hl : Lin lt) {a b cs : List K} {n j : Nat} {x : K} (ha : Rising lt a) (hb : Rising lt b) (hd : ∀ k ∈ a, k ∉ b) (h : Tail lt a b n (j + 1) cs) (hx : b.drop j = x :: b.drop (j + 1)) :
    Tail lt a b (cnt lt (a.take n) x) j (laid cs (cnt lt (a.take n) x) j n x) := by
  have hra : Rising lt (a.take n) := ha.sublist (List.take_sublist _ _)
  obtain ⟨c1, c2⟩ := cnt_parts hl x hra
  have hcn : cnt lt (a.take n) x ≤ n := by
    have := cnt_le (lt := lt) (a.take n) x
    simp at this
    omega
  generalize cnt lt (a.take n) x = p at *
  have hn := h.hn
  have hlen := h.len
  have hj := h.hj
  have hM : (cs.drop p).take (n - p) = (a.take n).drop p := by rw [← h.head, List.drop_take]
  have e1 : cs.drop (n + j + 1) = cs.drop (n + (j + 1)) := rfl
  have l1 : (cs.take (p + j)).length = p + j := by rw [List.length_take]; omega
  have hlaid : laid cs p j n x = cs.take (p + j) ++ x :: ((a.take n).drop p ++ cs.drop (n + (j + 1))) := by
    unfold laid
    rw [hM, e1]
    have hc : cs.take (p + j + 1) = cs.take (p + j) ++ [cs[p + j]'(by omega)] := List.take_succ_eq_append_getElem (by omega)
    rw [hc, List.append_assoc, List.append_assoc, List.set_append_right _ _ (by omega), l1, Nat.sub_self]
    rfl
  have hdrop : (laid cs p j n x).drop (p + j) = x :: ((a.take n).drop p ++ cs.drop (n + (j + 1))) := by
    rw [hlaid, List.drop_append_of_le_length (by omega), List.drop_of_length_le (by omega)]; rfl
  have hxb : x ∈ b := by
    have : x ∈ b.drop j := by rw [hx]; exact List.mem_cons_self ..
    exact List.mem_of_mem_drop this
  have hxt : x ∈ b.take (j + 1) := by
    have hjl : j < b.length := by omega
    have hg : b[j] = x := by
      have := List.drop_eq_getElem_cons hjl
      rw [hx] at this
      injection this with t1 _
      exact t1.symm
    rw [List.take_succ_eq_append_getElem hjl, hg]
    exact List.mem_append.2 (.inr (List.mem_singleton.2 rfl))
  have hsplit : ∀ k, k ∈ a.drop p ↔ k ∈ (a.take n).drop p ∨ k ∈ a.drop n := fun k => by
    have : a.drop p = (a.take n).drop p ++ a.drop n := by
      conv => lhs; rw [← List.take_append_drop n a]
      rw [List.drop_append_of_le_length (by rw [List.length_take]; omega)]
    rw [this, List.mem_append]
  have hMx : ∀ k ∈ (a.take n).drop p, lt x k = true := fun k hk => by
    have h1 := c2 k hk
    have hka : k ∈ a := List.mem_of_mem_take (List.mem_of_mem_drop hk)
    rcases hl.tot k x (fun e => hd k hka (e ▸ hxb)) with e | e
    · rw [h1] at e; cases e
    · exact e
  have hbj : ∀ y ∈ b.drop (j + 1), lt x y = true := fun y hy => by
    have h1 : Rising lt (b.drop j) := hb.sublist (List.drop_sublist _ _)
    rw [hx] at h1
    exact (List.pairwise_cons.1 h1).1 y hy
  have hrest : ∀ k ∈ cs.drop (n + (j + 1)), lt x k = true := fun k hk => by
    rcases (h.mem k).1 hk with e | e
    · exact h.after k e x hxt
    · exact hbj k e
  refine ⟨by omega, by omega, ?_, ?_, ?_, fun k => ?_, fun y hy z hz => ?_, fun y hy z hz => ?_⟩
  · rw [hlaid]
    simp only [List.length_append, List.length_cons, List.length_take, List.length_drop]
    omega
  · rw [hlaid, List.take_append_of_le_length (by omega), List.take_take, Nat.min_eq_left (by omega)]
    have := congrArg (List.take p) h.head
    rwa [List.take_take, List.take_take, Nat.min_eq_left hcn] at this
  · rw [hdrop]
    refine List.pairwise_cons.2 ⟨fun k hk => ?_, List.pairwise_append.2 ⟨hra.sublist (List.drop_sublist _ _), h.rise, fun y hy z hz => ?_⟩⟩
    · rcases List.mem_append.1 hk with e | e
      · exact hMx k e
      · exact hrest k e
    · have hyt : y ∈ a.take n := List.mem_of_mem_drop hy
      rcases (h.mem z).1 hz with e | e
      · have hr2 := ha
        rw [← List.take_append_drop n a] at hr2
        exact (List.pairwise_append.1 hr2).2.2 y hyt z e
      · exact h.before y hyt z e
  · rw [hdrop, List.mem_cons, List.mem_append, h.mem, hsplit, hx, List.mem_cons]
    constructor
    · rintro (e | e | e | e)
      · exact .inr (.inl e)
      · exact .inl (.inl e)
      · exact .inl (.inr e)
      · exact .inr (.inr e)
    · rintro ((e | e) | e | e)
      · exact .inr (.inl e)
      · exact .inr (.inr (.inl e))
      · exact .inl e
      · exact .inr (.inr (.inr e))
  · have hzx : lt z x = true := by
      have hr2 := hb
      rw [← List.take_append_drop j b, hx] at hr2
      exact (List.pairwise_append.1 hr2).2.2 z hz x (List.mem_cons_self ..)
    rcases (hsplit y).1 hy with e | e
    · exact hl.trans _ _ _ hzx (hMx y e)
    · exact hl.trans _ _ _ hzx (h.after y e x hxt)
  · rw [hx] at hz
    have hyp : y ∈ (a.take n).take p := by rw [List.take_take, Nat.min_eq_left hcn]; exact hy
    rcases List.mem_cons.1 hz with rfl | hz
    · exact c1 y hyp
    · exact h.before y (List.mem_of_mem_take hyp) z hz

theorem Tail.done {a b cs : List K} {n : Nat} (ha : Rising lt a) (h : Tail lt a b n 0 cs) : Rising lt cs ∧ ∀ k, k ∈ cs ↔ k ∈ a ∨ k ∈ b := by
  have hr := h.rise
  have hm := h.mem
  have hb := h.before
  rw [Nat.add_zero] at hr hm
  rw [List.drop_zero] at hm hb
  have e : cs = a.take n ++ cs.drop n := by rw [← h.head, List.take_append_drop]
  refine ⟨?_, fun k => ?_⟩
  · rw [e]
    refine List.pairwise_append.2 ⟨ha.sublist (List.take_sublist _ _), hr, fun y hy z hz => ?_⟩
    rcases (hm z).1 hz with g | g
    · have hr2 := ha
      rw [← List.take_append_drop n a] at hr2
      exact (List.pairwise_append.1 hr2).2.2 y hy z g
    · exact hb y hy z g
  · rw [e, List.mem_append, hm]
    have : k ∈ a ↔ k ∈ a.take n ∨ k ∈ a.drop n := by
      conv => lhs; rw [← List.take_append_drop n a]
      exact List.mem_append
    rw [this]
    constructor
    · rintro (g | g | g)
      · exact .inl (.inl g)
      · exact .inl (.inr g)
      · exact .inr g
    · rintro ((g | g) | g)
      · exact .inl g
      · exact .inr (.inl g)
      · exact .inr (.inr g)
end
end

end Go.Proofs.YtkmhcgmmbkchaaaGreat
