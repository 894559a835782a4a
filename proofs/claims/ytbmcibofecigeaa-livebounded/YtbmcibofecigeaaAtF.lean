/- A heap in memory (keys of one type, ranks of int). -/
import Derived.Test.YtbmcibofecigeaaMap14
import Derived.Test.YtbmcibofecigeaaLaws2
import Derived.Test.YtbmcibofecigeaaShelf
import Derived.Lib.OwnBridge
import Derived.Lib.AppendZeros
import Derived.Sort.OwnSorted
import Derived.Sort.OwnSortedInts
import Derived.Sort.Walk0
import Derived.Test.YtbmcibofecigeaaLvB14
namespace Go.Proofs.Ytbmcibofecigeaa

section
open Go.RowKit Go.Maps Go.Sort
/-- v is a slice of these numbers, its block its own. -/
abbrev NRow (w : World) (v : Value) (ks : List Int) : Prop := w.ownsRow 0 3 1 v ks.length (ks.map (Value.int .i64))
theorem nrow_kept {w w' : World} {v : Value} {ks : List Int} (h : NRow w v ks) (hk : ∀ b, v.ownBlock = some b → w'.heap[b]? = w.heap[b]?) : NRow w' v ks := by
  refine ⟨h.1, ?_⟩
  rcases h.2 with hn | ⟨g, cap, cur, e, hb, hgg, rest⟩
  · exact .inl hn
  · exact .inr ⟨g, cap, cur, e, hb, (hk g (by rw [e]; rfl)).trans hgg, rest⟩
theorem nrow_some {w : World} {g n c : Nat} {ks : List Int} (h : NRow w (.slice (some ⟨g, 0, none⟩) n c) ks) : n = ks.length ∧ n ≤ c ∧ c ≤ maxLen ∧ (∃ cur, w.heap[g]? = some (.cells cur 3 (0, 0)) ∧ cur.size = c ∧ cur.toList.take n = ks.map (Value.int .i64)) ∧ ∀ j, j < ks.length → w.cell? ⟨g, j, none⟩ = some (.int .i64 (ks.getD j 0)) := by
  rcases h.2 with ⟨e, -⟩ | ⟨g', cap, cur, e, -, hg, hc, hm, hs, ht⟩
  · cases e
  · injection e with e1 e2 e3
    injection e1 with e1
    injection e1 with e1
    subst e1 e2 e3
    refine ⟨rfl, hc, hm, ⟨cur, hg, by simpa using hs, by simpa using ht⟩, fun j hj => ?_⟩
    have := h.cells (g := g) rfl j (.int .i64 (ks.getD j 0)) (by simp [List.getD, hj])
    rwa [show (⟨g, 0, none⟩ : Addr).add j = ⟨g, j, none⟩ by unfold Addr.add; split <;> simp_all] at this
theorem nrow_shape {w : World} {v : Value} {ks : List Int} (h : NRow w v ks) : (v = .slice none 0 0 ∧ ks = []) ∨ ∃ g c, v = .slice (some ⟨g, 0, none⟩) ks.length c := by
  rcases h.2 with ⟨e, h0⟩ | ⟨g', cap, cur, e, -⟩
  · exact .inl ⟨e, List.eq_nil_of_length_eq_zero h0⟩
  · exact .inr ⟨_, _, e⟩
def setM (cur : Array Value) : Nat → List Value → Array Value
  | _, [] => cur
  | o, v :: vs => setM (cur.setIfInBounds o v) (o + 1) vs
theorem setM_size : ∀ (vs : List Value) (o : Nat) (cur : Array Value), (setM cur o vs).size = cur.size
  | [], _, _ => rfl
  | v :: vs, o, cur => by unfold setM; rw [setM_size vs]; simp
theorem setM_list : ∀ (vs : List Value) (o : Nat) (cur : Array Value), o + vs.length ≤ cur.size → (setM cur o vs).toList = cur.toList.take o ++ vs ++ cur.toList.drop (o + vs.length)
  | [], o, cur, _ => by simp [setM]
  | v :: vs, o, cur, h => by
    have h' : o + 1 + vs.length ≤ (cur.setIfInBounds o v).size := by simp at h ⊢; omega
    have ho : o < cur.size := by simp at h; omega
    have e := setM_list vs (o + 1) (cur.setIfInBounds o v) h'
    unfold setM
    rw [e]
    have e1 : (cur.setIfInBounds o v).toList = cur.toList.set o v := by simp
    rw [e1, List.drop_set, if_pos (by omega), List.length_cons, show o + (vs.length + 1) = o + 1 + vs.length by omega]
    congr 1
    rw [show cur.toList.take o ++ v :: vs = (cur.toList.take o ++ [v]) ++ vs by simp]
    congr 1
    apply List.ext_getElem?
    intro k
    rw [List.getElem?_take, List.getElem?_append, List.length_take, Array.length_toList, Nat.min_eq_left (by omega)]
    by_cases hk : k < o
    · rw [if_pos (by omega), if_pos hk, List.getElem?_set_ne (by omega), List.getElem?_take, if_pos hk]
    · rw [if_neg hk]
      by_cases hk2 : k = o
      · subst hk2
        rw [if_pos (by omega), List.getElem?_set_self (by simpa using ho)]
        simp
      · rw [if_neg (by omega), List.getElem?_eq_none (by simp; omega)]
theorem setCells_heap {t : TypeId} (g : Nat) : ∀ (vs : List Value) (o : Nat) (w : World) (cur : Array Value), w.heap[g]? = some (.cells cur t (0, 0)) → (w.setCells g o vs).heap[g]? = some (.cells (setM cur o vs) t (0, 0))
  | [], _, _, _, h => h
  | v :: vs, o, w, cur, h => setCells_heap g vs (o + 1) (w.setCell ⟨g, o, none⟩ v) _ (heap_setCell_same w g o cur t v h)
theorem setCells_turned {S : Nat → Prop} (g : Nat) (hg : S g) : ∀ (vs : List Value) (o : Nat) (w : World), Turned S w (w.setCells g o vs)
  | [], _, _ => Turned.refl _ _
  | v :: vs, o, w => (turned_setCell w ⟨g, o, none⟩ v hg).trans (setCells_turned g hg vs (o + 1) _)
theorem turned_drew {S : Nat → Prop} (w : World) : Turned S w w.drew := ⟨rfl, rfl, rfl, Nat.le_refl _, fun _ _ _ => rfl⟩
theorem turned_alloc {S : Nat → Prop} (w : World) (o : Obj) : Turned S w (w.alloc o) := turned_of_below ((Below.refl _ _).alloc (Nat.le_refl _) _)
theorem ints_one (ks : List Int) : ∀ v ∈ ks.map (Value.int .i64), v.oneCell' = true := by
  intro v hv; obtain ⟨x, -, rfl⟩ := List.mem_map.1 hv; rfl
theorem zeroCells_size (n : Nat) : (Builtin.zeroCells (Value.int .i64 0).cells n).size = n := by
  have : (Value.int IntKind.i64 0).cells.size = 1 := rfl
  simp [Builtin.zeroCells, this]
theorem findN (v : Value) (ks : List Int) (k : Int) (w : World) (h : NRow w v ks) (hlen : ks.length ≤ 1000000) (hs : Rising ltN ks) :
    Calls Try.prog 62 #[v, .int .i64 k] w fun e w' => ∃ (f : Bool) (q : Nat), e = .returned (.tuple #[.int .i64 (cnt ltN ks k : Nat), .bool f]) ∧ w' = w.drewN q := by
  rcases nrow_shape h with ⟨rfl, rfl⟩ | ⟨g, c, rfl⟩
  · refine (Any.slices_BinarySearch_int_empty Try.laysNm225 none 0 k w).mono ?_
    rintro e w' ⟨rfl, rfl⟩
    exact ⟨false, 0, rfl, rfl⟩
  · obtain ⟨-, -, -, -, hc⟩ := nrow_some h
    refine (Any.slices_BinarySearch_int Try.laysNm225 g 0 ks.length c ks k w (Nat.le_refl _) (by omega) (fun j hj => by rw [Nat.zero_add]; exact hc j hj) (by rw [List.take_length]; exact List.Pairwise.imp (fun {a b} hab => by simp [ltN] at hab; omega) hs)).mono ?_
    rintro e w' ⟨he, q, hq⟩
    rw [List.take_length] at he
    exact ⟨_, q, he, hq⟩

set_option maxHeartbeats 1000000 in
set_option maxRecDepth 100000 in
theorem info3 : (Try.prog.info? 3).map (fun i => (i.zero, i.size, i.bytes)) = some (some (.int .i64 0), 1, 8) := by kernel_rfl
/-- A row of one's own, from B on. -/
abbrev BRow (B : Nat) (w : World) (v : Value) (ks : List Int) : Prop := w.ownsRow B 3 1 v ks.length (ks.map (Value.int .i64))
theorem brow_shape {B : Nat} {w : World} {v : Value} {ks : List Int} (h : BRow B w v ks) : ∃ a c, v = .slice a ks.length c ∧ ks.length ≤ c := by
  rcases h.2 with ⟨e, h0⟩ | ⟨g', cap, cur, e, -, -, hc, -⟩
  · exact ⟨none, 0, by rw [e, h0], by omega⟩
  · exact ⟨_, _, e, hc⟩
theorem brow_kept {B : Nat} {w w' : World} {v : Value} {ks : List Int} (h : BRow B w v ks) (hk : ∀ b, v.ownBlock = some b → w'.heap[b]? = w.heap[b]?) : BRow B w' v ks := by
  refine ⟨h.1, ?_⟩
  rcases h.2 with hn | ⟨g, cap, cur, e, hb, hgg, rest⟩
  · exact .inl hn
  · exact .inr ⟨g, cap, cur, e, hb, (hk g (by rw [e]; rfl)).trans hgg, rest⟩
theorem run_append_nil (w : World) (base : Option Addr) (l c : Nat) (hlc : l ≤ c) (ty : TypeId) : (Builtin.append_ #[25, 25] ty #[.slice base l c, .slice none 0 0]).run Try.prog w = .ok (.slice base l c) w := by
  obtain ⟨i, hi, hz, hs, hb⟩ := info_parts info3
  cases base <;> simp [Builtin.append_, run_underlying Try.underlying25, sizeOf, typeInfo, hi, Builtin.lenOf, Builtin.firstCells, hlc, storeCells]
theorem run_appN {B : Nat} {w : World} (hB : B ≤ w.heap.size) {v v2 : Value} {a b : List Int} (h1 : BRow B w v a) (h2 : NRow w v2 b) (hl : a.length + b.length ≤ 4000000) :
    ∃ v' w', (∀ ty, (Builtin.append_ #[25, 25] ty #[v, v2]).run Try.prog w = .ok v' w') ∧ BRow B w' v' (a ++ b) ∧ w.grownBy w' v.ownBlock := by
  obtain ⟨i, hi, hz, hs, hb⟩ := info_parts info3
  rcases nrow_shape h2 with ⟨rfl, rfl⟩ | ⟨g, c, rfl⟩
  · obtain ⟨x, c, rfl, hc⟩ := brow_shape h1
    exact ⟨_, w, fun ty => run_append_nil w x a.length c hc ty, by rw [List.append_nil]; exact h1, ⟨rfl, rfl, rfl, Nat.le_refl _, fun _ _ _ => rfl⟩⟩
  · obtain ⟨v', w', hr, g1, g2, -, -⟩ := run_append_own_at (P := Try.prog) w B 25 0 3 i _ 1 8 Try.underlying25 hi hz hs hb rfl (by omega) v a.length (a.map (Value.int .i64)) h1 ⟨g, 0, none⟩ b.length c (b.map (Value.int .i64)) (by simp)
      (h2.cells (g := g) rfl) (ints_one b) (by unfold maxLen; omega) (by omega) hB
    refine ⟨v', w', fun ty => hr, ?_, g2⟩
    have e1 : a.map (Value.int .i64) ++ b.map (Value.int .i64) = (a ++ b).map (Value.int .i64) := by simp
    have e2 : a.length + b.length = (a ++ b).length := by simp
    rw [e1, e2] at g1
    exact g1
theorem below_new (w : World) (o : Obj) : Below w.heap.size w (w.alloc o) := (Below.refl _ _).alloc (Nat.le_refl _) _
theorem heap_lt {w : World} {b : Nat} {o : Obj} (h : w.heap[b]? = some o) : b < w.heap.size := (Array.getElem?_eq_some_iff.1 h).1
theorem brow_at0 {B : Nat} {w : World} {v : Value} {gs : List Int} (h : BRow B w v gs) : NRow w v gs := ⟨h.1, h.2.imp id (fun ⟨g, cap, cur, e, _, r⟩ => ⟨g, cap, cur, e, Nat.zero_le _, r⟩)⟩
theorem brow_low {B B' : Nat} {w : World} {v : Value} {ks : List Int} (h : BRow B' w v ks) (hb : B ≤ B') : BRow B w v ks := ⟨h.1, h.2.imp id (fun ⟨g, cap, cur, e, q, r⟩ => ⟨g, cap, cur, e, Nat.le_trans hb q, r⟩)⟩
theorem brow_at {B : Nat} {w : World} {g n c : Nat} {ks : List Int} (h : BRow B w (.slice (some ⟨g, 0, none⟩) n c) ks) {j : Nat} {e : Int} (hj : ks[j]? = some e) : w.cell? ⟨g, j, none⟩ = some (.int .i64 e) := by
  have := h.cells (g := g) rfl j (.int .i64 e) (by rw [List.getElem?_map, hj]; rfl)
  rwa [show (⟨g, 0, none⟩ : Addr).add j = ⟨g, j, none⟩ by unfold Addr.add; split <;> simp_all] at this
theorem brow_some {B : Nat} {w : World} {a : Option Addr} {n c : Nat} {ks : List Int} (h : BRow B w (.slice a n c) ks) (h0 : 0 < ks.length) : ∃ g, a = some ⟨g, 0, none⟩ := by
  rcases h.2 with ⟨e, h1⟩ | ⟨g', cap, cur, e, -⟩
  · omega
  · injection e with e1; exact ⟨g', e1⟩
theorem brow_take {B : Nat} {w : World} {g n c : Nat} {ks : List Int} (h : BRow B w (.slice (some ⟨g, 0, none⟩) n c) ks) {m : Nat} (hm : m ≤ n) : BRow B w (.slice (some ⟨g, 0, none⟩) m c) (ks.take m) := by
  obtain ⟨h1, h2⟩ := h
  rcases h2 with ⟨e, -⟩ | ⟨g', cap, cur, e, hb, hh, h3, h4, h5, h6⟩
  · cases e
  · injection e with e1 e2 e3
    injection e1 with e1
    injection e1 with e1
    subst e1 e2 e3
    have hl : (ks.take m).length = m := by rw [List.length_take]; omega
    refine ⟨by simp, .inr ⟨g, c, cur, by rw [hl], hb, hh, by rw [hl]; omega, h4, h5, ?_⟩⟩
    rw [hl, List.map_take, ← h6, Nat.mul_one, Nat.mul_one, List.take_take, Nat.min_eq_left hm]
theorem own_eq {g n c b : Nat} (e : (Value.slice (some ⟨g, 0, none⟩) n c).ownBlock = some b) : g = b := by injection e
/-- One number more: what stays, and where it lies. -/
theorem run_app8 {B : Nat} {w : World} {v : Value} {ks : List Int} (x : Int) (h : BRow B w v ks) (hB : B ≤ w.heap.size) (hl : ks.length ≤ 2000000) :
    ∃ a' n' c' w', (∀ ty, (Builtin.append_ #[25, 25] ty #[v, .slice (some ⟨w.heap.size, 0, none⟩) 1 1]).run Try.prog (w.alloc (.cells #[.int .i64 x] 3)) = .ok (.slice a' n' c') w') ∧ BRow B w' (.slice a' n' c') (ks ++ [x]) ∧ Turned (fun b => v.ownBlock = some b) w w' ∧ ∀ b, (Value.slice a' n' c').ownBlock = some b → v.ownBlock = some b ∨ w.heap.size ≤ b := by
  have hb1 := below_new w (.cells #[.int .i64 x] 3)
  have h2 : NRow (w.alloc (.cells #[.int .i64 x] 3)) (.slice (some ⟨w.heap.size, 0, none⟩) 1 1) [x] := ⟨rfl, .inr ⟨w.heap.size, 1, #[.int .i64 x], rfl, Nat.zero_le _, heap_alloc_new _ _, Nat.le_refl _, by unfold maxLen; omega, rfl, rfl⟩⟩
  have h1 : BRow B (w.alloc (.cells #[.int .i64 x] 3)) v ks := brow_kept h (fun b e => hb1.block b (h.lt b e).2)
  obtain ⟨ii, hi1, hz, hs, hb⟩ := info_parts info3
  obtain ⟨v', w', hr, g1, g2, -, g5⟩ := run_append_own_at (P := Try.prog) (w.alloc (.cells #[.int .i64 x] 3)) B 25 0 3 ii _ 1 8 Try.underlying25 hi1 hz hs hb rfl (by omega) v ks.length (ks.map (Value.int .i64)) h1 ⟨w.heap.size, 0, none⟩ 1 1 ([x].map (Value.int .i64)) (by simp)
      (h2.cells (g := w.heap.size) rfl) (ints_one [x]) (by unfold maxLen; omega) (by omega) (Nat.le_trans hB hb1.size)
  have e1 : ks.map (Value.int .i64) ++ [x].map (Value.int .i64) = (ks ++ [x]).map (Value.int .i64) := by simp
  have e2 : ks.length + 1 = (ks ++ [x]).length := by simp
  rw [e1, e2] at g1
  have g1' : BRow B w' v' (ks ++ [x]) := g1
  obtain ⟨a', c', e, -⟩ := brow_shape g1'
  subst e
  refine ⟨a', _, c', w', fun ty => hr, g1', (turned_of_below hb1).trans ⟨g2.os, g2.tape, g2.output, g2.size, fun k hk hn => g2.block k hk (fun e => hn e.symm)⟩, fun b eb => ?_⟩
  rcases g5 with q | q
  · exact .inl (by rw [← q]; exact eb)
  · rw [q] at eb; injection eb with eb; exact .inr (by have := hb1.size; omega)
theorem brow_set {B : Nat} {W : World} {g n c k : Nat} {ks : List Int} (h : BRow B W (.slice (some ⟨g, 0, none⟩) n c) ks) (x : Int) (_ : k < n) : (∀ o, W.frozen? ⟨g, o, none⟩ = false) ∧ BRow B (W.setCell ⟨g, k, none⟩ (.int .i64 x)) (.slice (some ⟨g, 0, none⟩) n c) (ks.set k x) := by
  rcases h.2 with ⟨e, -⟩ | ⟨g', cap, cur, e, hb, hgg, hc, hm, hs, ht⟩
  · cases e
  · obtain rfl : g = g' := by injection e with e1; injection e1 with e1; injection e1
    refine ⟨fun o => frozen_of_row W _ o _ _ hgg, by simp, .inr ⟨g, cap, _, ?_, hb, heap_setCell_same W g k cur 3 _ hgg, ?_, hm, by simpa using hs, ?_⟩⟩
    · rw [List.length_set]; exact e
    · rw [List.length_set]; exact hc
    · rw [List.length_set, Array.toList_setIfInBounds, List.take_set, ht, List.map_set]
end

section
open Go.RowKit Go.Maps
def oL (s : Int) (mv me : Nat) (tc : Int) : Obj := .cells #[.int .i64 s, .map (some mv), .map (some me), .int .i64 tc] 51 (0, 0)
def oSp (ov iv : Value) (x : L14.Sp) : Obj := .cells #[ov, iv, .bool x.1, .float .f32 x.2.1, .int .i64 x.2.2] 47 (0, 0)
theorem cellsL {w : World} {b : Nat} {s : Int} {mv me : Nat} {tc : Int} (h : w.heap[b]? = some (oL s mv me tc)) : w.cell? ⟨b, 0, none⟩ = some (.int .i64 s) ∧ w.cell? ⟨b, 1, none⟩ = some (.map (some mv)) ∧ w.cell? ⟨b, 2, none⟩ = some (.map (some me)) ∧ w.cell? ⟨b, 3, none⟩ = some (.int .i64 tc) ∧ ∀ o, w.frozen? ⟨b, o, none⟩ = false :=
  ⟨(cell_of_row _ _ 0 _ _ (0, 0) h).trans rfl, (cell_of_row _ _ 1 _ _ (0, 0) h).trans rfl, (cell_of_row _ _ 2 _ _ (0, 0) h).trans rfl, (cell_of_row _ _ 3 _ _ (0, 0) h).trans rfl, fun o => frozen_of_row _ _ o _ _ h⟩
theorem cellsSp {w : World} {b : Nat} {ov iv : Value} {x : L14.Sp} (h : w.heap[b]? = some (oSp ov iv x)) : w.cell? ⟨b, 0, none⟩ = some ov ∧ w.cell? ⟨b, 1, none⟩ = some iv ∧ w.cell? ⟨b, 2, none⟩ = some (.bool x.1) ∧ w.cell? ⟨b, 3, none⟩ = some (.float .f32 x.2.1) ∧ w.cell? ⟨b, 4, none⟩ = some (.int .i64 x.2.2) ∧ ∀ o, w.frozen? ⟨b, o, none⟩ = false :=
  ⟨(cell_of_row _ _ 0 _ _ (0, 0) h).trans rfl, (cell_of_row _ _ 1 _ _ (0, 0) h).trans rfl, (cell_of_row _ _ 2 _ _ (0, 0) h).trans rfl, (cell_of_row _ _ 3 _ _ (0, 0) h).trans rfl, (cell_of_row _ _ 4 _ _ (0, 0) h).trans rfl, fun o => frozen_of_row _ _ o _ _ h⟩
abbrev Lab := Nat → Option (Nat × Int)
/-- The tree at p: who holds which block says L. V tells each vertex's spot, O and I the edges that leave and enter. -/
structure LvAt (L : Lab) (w : World) (p mv me : Nat) (s tc : Int) (V : Int → Option Nat) (nv : Nat) (E : L14.Es) (ne : Nat) (T : L14.Tr) (O I : Int → List Int) : Prop where
  box : w.heap[p]? = some (oL s mv me tc)
  vs : MapG dat ptrElem none w mv (fun v => (V v).map some) nv
  es : MapG edG rdG (0, 0, 0) w me E ne
  lp : L p = some (1, 0)
  lv : L mv = some (2, 0)
  le : L me = some (3, 0)
  sp : ∀ v b, V v = some b → ∃ ov iv, w.heap[b]? = some (oSp ov iv (T v)) ∧ L b = some (4, v) ∧ NRow w ov (O v) ∧ NRow w iv (I v) ∧ (∀ d, ov.ownBlock = some d → L d = some (5, v)) ∧ (∀ d, iv.ownBlock = some d → L d = some (6, v))
section
variable {L : Lab} {w w' : World} {p mv me : Nat} {s tc : Int} {V : Int → Option Nat} {nv : Nat} {E : L14.Es} {ne : Nat} {T : L14.Tr} {O I : Int → List Int}
theorem LvAt.kept (h : LvAt L w p mv me s tc V nv E ne T O I) (hk : ∀ b, b < w.heap.size → L b ≠ none → w'.heap[b]? = w.heap[b]?) : LvAt L w' p mv me s tc V nv E ne T O I := by
  refine ⟨(hk p (Array.getElem?_eq_some_iff.1 h.box).1 (by rw [h.lp]; exact fun z => by cases z)).trans h.box, h.vs.kept (hk mv h.vs.lt (by rw [h.lv]; exact fun z => by cases z)), h.es.kept (hk me h.es.lt (by rw [h.le]; exact fun z => by cases z)), h.lp, h.lv, h.le, fun v b hb => ?_⟩
  obtain ⟨ov, iv, g1, g2, g3, g4, g5, g6⟩ := h.sp v b hb
  exact ⟨ov, iv, (hk b (Array.getElem?_eq_some_iff.1 g1).1 (by rw [g2]; exact fun z => by cases z)).trans g1, g2, nrow_kept g3 (fun d e => hk d (g3.lt d e).2 (by rw [g5 d e]; exact fun z => by cases z)), nrow_kept g4 (fun d e => hk d (g4.lt d e).2 (by rw [g6 d e]; exact fun z => by cases z)), g5, g6⟩
theorem LvAt.below (h : LvAt L w p mv me s tc V nv E ne T O I) (hb : Below w.heap.size w w') : LvAt L w' p mv me s tc V nv E ne T O I := h.kept (fun b hl _ => hb.block b hl)
/-- What is known of a vertex, written anew. -/
theorem LvAt.setSp (h : LvAt L w p mv me s tc V nv E ne T O I) {v : Int} {b : Nat} (hv : V v = some b) (x : L14.Sp) : LvAt L (((w.setCell ⟨b, 2, none⟩ (.bool x.1)).setCell ⟨b, 3, none⟩ (.float .f32 x.2.1)).setCell ⟨b, 4, none⟩ (.int .i64 x.2.2)) p mv me s tc V nv E ne (L14.upd T v x) O I ∧ Turned (fun d => d = b) w (((w.setCell ⟨b, 2, none⟩ (.bool x.1)).setCell ⟨b, 3, none⟩ (.float .f32 x.2.1)).setCell ⟨b, 4, none⟩ (.int .i64 x.2.2)) := by
  obtain ⟨ov, iv, g1, g2, g3, g4, g5, g6⟩ := h.sp v b hv
  have ht : Turned (fun d => d = b) w (((w.setCell ⟨b, 2, none⟩ (.bool x.1)).setCell ⟨b, 3, none⟩ (.float .f32 x.2.1)).setCell ⟨b, 4, none⟩ (.int .i64 x.2.2)) := ((turned_setCell (S := fun d => d = b) w ⟨b, 2, none⟩ _ rfl).trans (turned_setCell (S := fun d => d = b) _ ⟨b, 3, none⟩ _ rfl)).trans (turned_setCell (S := fun d => d = b) _ ⟨b, 4, none⟩ _ rfl)
  have e0 : (w.setCell ⟨b, 2, none⟩ (.bool x.1)).heap[b]? = some (oSp ov iv (x.1, (T v).2.1, (T v).2.2)) := by rw [heap_setCell_same _ _ _ _ _ _ g1]; rfl
  have e1 : ((w.setCell ⟨b, 2, none⟩ (.bool x.1)).setCell ⟨b, 3, none⟩ (.float .f32 x.2.1)).heap[b]? = some (oSp ov iv (x.1, x.2.1, (T v).2.2)) := by rw [heap_setCell_same _ _ _ _ _ _ e0]; rfl
  have e2 : (((w.setCell ⟨b, 2, none⟩ (.bool x.1)).setCell ⟨b, 3, none⟩ (.float .f32 x.2.1)).setCell ⟨b, 4, none⟩ (.int .i64 x.2.2)).heap[b]? = some (oSp ov iv x) := by rw [heap_setCell_same _ _ _ _ _ _ e1]; rfl
  have hne : ∀ {d : Nat} {k : Nat} {u : Int}, L d = some (k, u) → (k, u) ≠ (4, v) → d ≠ b := fun {d k u} q r z => by
    rw [z, g2] at q
    exact r (Option.some.inj q).symm
  have hk : ∀ d, d < w.heap.size → d ≠ b → (((w.setCell ⟨b, 2, none⟩ (.bool x.1)).setCell ⟨b, 3, none⟩ (.float .f32 x.2.1)).setCell ⟨b, 4, none⟩ (.int .i64 x.2.2)).heap[d]? = w.heap[d]? := fun d q r => ht.block d q r
  refine ⟨⟨(hk p (Array.getElem?_eq_some_iff.1 h.box).1 (hne h.lp (by simp))).trans h.box, h.vs.kept (hk mv h.vs.lt (hne h.lv (by simp))), h.es.kept (hk me h.es.lt (hne h.le (by simp))), h.lp, h.lv, h.le, fun u d hd => ?_⟩, ht⟩
  by_cases z : u = v
  · subst z
    rw [hv] at hd
    have e3 := Option.some.inj hd
    subst e3
    refine ⟨ov, iv, by rw [L14.upd_self]; exact e2, g2, nrow_kept g3 (fun d e => hk d (g3.lt d e).2 (hne (g5 d e) (by simp))), nrow_kept g4 (fun d e => hk d (g4.lt d e).2 (hne (g6 d e) (by simp))), g5, g6⟩
  · obtain ⟨ov', iv', f1, f2, f3, f4, f5, f6⟩ := h.sp u d hd
    rw [L14.upd_ne z]
    exact ⟨ov', iv', (hk d (Array.getElem?_eq_some_iff.1 f1).1 (hne f2 (by simp [z]))).trans f1, f2, nrow_kept f3 (fun c e => hk c (f3.lt c e).2 (hne (f5 c e) (by simp))), nrow_kept f4 (fun c e => hk c (f4.lt c e).2 (hne (f6 c e) (by simp))), f5, f6⟩
/-- How many were touched. -/
theorem LvAt.setTc (h : LvAt L w p mv me s tc V nv E ne T O I) (x : Int) : LvAt L (w.setCell ⟨p, 3, none⟩ (.int .i64 x)) p mv me s x V nv E ne T O I ∧ Turned (fun d => d = p) w (w.setCell ⟨p, 3, none⟩ (.int .i64 x)) := by
  have ht : Turned (fun d => d = p) w (w.setCell ⟨p, 3, none⟩ (.int .i64 x)) := turned_setCell (S := fun d => d = p) w ⟨p, 3, none⟩ _ rfl
  have hne : ∀ {d : Nat} {k : Nat} {u : Int}, L d = some (k, u) → (k, u) ≠ (1, 0) → d ≠ p := fun {d k u} q r z => by
    rw [z, h.lp] at q
    exact r (Option.some.inj q).symm
  have hk : ∀ d, d < w.heap.size → d ≠ p → (w.setCell ⟨p, 3, none⟩ (.int .i64 x)).heap[d]? = w.heap[d]? := fun d q r => ht.block d q r
  refine ⟨⟨by rw [heap_setCell_same _ _ _ _ _ _ h.box]; rfl, h.vs.kept (hk mv h.vs.lt (hne h.lv (by simp))), h.es.kept (hk me h.es.lt (hne h.le (by simp))), h.lp, h.lv, h.le, fun u d hd => ?_⟩, ht⟩
  obtain ⟨ov', iv', f1, f2, f3, f4, f5, f6⟩ := h.sp u d hd
  exact ⟨ov', iv', (hk d (Array.getElem?_eq_some_iff.1 f1).1 (hne f2 (by simp))).trans f1, f2, nrow_kept f3 (fun c e => hk c (f3.lt c e).2 (hne (f5 c e) (by simp))), nrow_kept f4 (fun c e => hk c (f4.lt c e).2 (hne (f6 c e) (by simp))), f5, f6⟩
end
theorem zeroPt (w : World) : (zeroValue 44).run Try.prog w = .ok (ptr none) w := by kernel_rfl
theorem zeroEg (w : World) : (zeroValue 73).run Try.prog w = .ok (evG (0, 0, 0)) w := by kernel_rfl
section
variable {L : Lab} {w w' : World} {p mv me : Nat} {s tc : Int} {V : Int → Option Nat} {nv : Nat} {E : L14.Es} {ne : Nat} {T : L14.Tr} {O I : Int → List Int}
theorem LvAt.lookV (h : LvAt L w p mv me s tc V nv E ne T O I) {v : Int} (hv : okN v) : (Instr.lookup 48 (.map (some mv)) (.int .i64 v) false).run Try.prog w = .ok (ptr (V v)) w := by
  have := h.vs.look kitPt Try.underlying48 zeroPt hv
  cases q : V v with
  | none => simpa [q] using this
  | some b => simpa [q] using this
theorem LvAt.lookV2 (h : LvAt L w p mv me s tc V nv E ne T O I) {v : Int} (hv : okN v) : (Instr.lookup 48 (.map (some mv)) (.int .i64 v) true).run Try.prog w = .ok (.tuple #[ptr (V v), .bool (V v).isSome]) w := by
  have := h.vs.look2 kitPt Try.underlying48 zeroPt hv
  cases q : V v with
  | none => simpa [q] using this
  | some b => simpa [q] using this
theorem LvAt.lookE (h : LvAt L w p mv me s tc V nv E ne T O I) {e : Int} (he : okN e) : (Instr.lookup 49 (.map (some me)) (.int .i64 e) false).run Try.prog w = .ok (evG ((E e).getD (0, 0, 0))) w := h.es.look kitEg Try.underlying49 zeroEg he
theorem LvAt.lookE2 (h : LvAt L w p mv me s tc V nv E ne T O I) {e : Int} (he : okN e) : (Instr.lookup 49 (.map (some me)) (.int .i64 e) true).run Try.prog w = .ok (.tuple #[evG ((E e).getD (0, 0, 0)), .bool (E e).isSome]) w := h.es.look2 kitEg Try.underlying49 zeroEg he
end
end

section
open Go.RowKit Go.Maps
theorem run_storeF (w : World) (a : Addr) (n : Nat) (m : Mode) : (store a (.float .f32 n) m).run Try.prog w = stored Try.prog w a (.float .f32 n) m := run_store Try.prog w a (.float .f32 n) m rfl
/-- A rank is a word; what is more than +Inf counts as it. -/
def cfl (r : Nat) : Nat := min r 2139095040
def gf (r : Nat) : Int := (cfl r : Int)
/-- A function value that answers whether one rank is before another, and turns nothing. -/
def LessF (lv : Value) (gg : Nat → Int) : Prop := ∃ (g : Nat) (cb : Array Value), lv = .func (.func g) #[] cb ∧ (∀ args w, (callFunc g args).run Try.prog w = .ok (.enter g args) w) ∧
  ∀ (x y : Nat) (w : World), Calls Try.prog g (#[.float .f32 (cfl x), .float .f32 (cfl y)] ++ cb) w fun e w' => e = .returned (.bool (decide (gg x < gg y))) ∧ w' = w
abbrev EntF := Ent Int Nat
def klF : Int → Lit := (fun k : Int => Lit.int .i64 k)
def KeyOkF : Int → Prop := (fun k : Int => (Lit.int .i64 k).wf = true)
def encF (es : List EntF) : List Value := enc3 (fun e => .int .i64 (e.key)) (fun e => .float .f32 (cfl e.rank)) (fun e => .int .i64 e.turn) es
theorem lawF : Keyed Try.prog 3 := int_keyed Try.underlying3
theorem keyF {k : Int} (h : KeyOkF k) : keyOf Try.prog 3 (.int .i64 (k)) = some (klF k) := keyOf_int_mk Try.underlying3 h
theorem injF (a b : Int) (h : klF a = klF b) : a = b := by
  simpa [klF] using h
theorem litF (k : Int) : WideAt.IsKeyLit (klF k) := by simp [klF, WideAt.IsKeyLit]

/-- At p stands a heap; its rank's order lv, its entries' row v, its map in the block m; n keys were put in ever. -/
structure HAtF [Inhabited EntF] (w : World) (p m : Nat) (lv v : Value) (es : List EntF) (n : Nat) : Prop where
  box : w.heap[p]? = some (.cells #[lv, v, .map (some m), .int .i64 n] 111 (0, 0))
  row : w.ownsRow 0 123 3 v es.length (encF es)
  map : ∃ D, w.ownsMap Try.prog 3 (plainElem Try.prog 3) m es.length D ∧ MapIs klF D es
  keys : ∀ i, i < es.length → KeyOkF (at_ es i).key
  ne1 : v.ownBlock ≠ some p
  ne2 : v.ownBlock ≠ some m
  ne3 : m ≠ p



theorem HAtF.cells [Inhabited EntF] {w : World} {p m : Nat} {lv v : Value} {es : List EntF} {n : Nat} (h : HAtF w p m lv v es n) :
    w.cell? ⟨p, 0, none⟩ = some lv ∧ w.cell? ⟨p, 1, none⟩ = some v ∧ w.cell? ⟨p, 2, none⟩ = some (.map (some m)) ∧ w.cell? ⟨p, 3, none⟩ = some (.int .i64 n) ∧ ∀ o, w.frozen? ⟨p, o, none⟩ = false := by
  refine ⟨?_, ?_, ?_, ?_, fun o => frozen_of_row w p o _ _ h.box⟩ <;> rw [cell_of_row w p _ _ _ _ h.box] <;> rfl

theorem HAtF.lt [Inhabited EntF] {w : World} {p m : Nat} {lv v : Value} {es : List EntF} {n : Nat} (h : HAtF w p m lv v es n) {k : Nat} (hk : Foot p m v k) : k < w.heap.size := by
  rcases hk with rfl | rfl | hk
  · exact (Array.getElem?_eq_some_iff.1 h.box).1
  · obtain ⟨D, hD, -⟩ := h.map; exact hD.lt
  · exact (h.row.lt k hk).2

theorem HAtF.kept [Inhabited EntF] {w w' : World} {p m : Nat} {lv v : Value} {es : List EntF} {n : Nat} (h : HAtF w p m lv v es n) (hk : ∀ k, Foot p m v k → w'.heap[k]? = w.heap[k]?) : HAtF w' p m lv v es n := by
  obtain ⟨D, hD, hM⟩ := h.map
  refine ⟨(hk p (.inl rfl)).trans h.box, ⟨h.row.1, ?_⟩, ⟨D, ?_, hM⟩, h.keys, h.ne1, h.ne2, h.ne3⟩
  · rcases h.row.2 with hn | ⟨g, cap, cur, rfl, hb, hgg, rest⟩
    · exact .inl hn
    · exact .inr ⟨g, cap, cur, rfl, hb, (hk g (.inr (.inr rfl))).trans hgg, rest⟩
  · obtain ⟨es', clock, h1, h2⟩ := hD
    exact ⟨es', clock, (hk m (.inr (.inl rfl))).trans h1, h2⟩

theorem HAtF.drewN [Inhabited EntF] {w : World} {p m : Nat} {lv v : Value} {es : List EntF} {n : Nat} (h : HAtF w p m lv v es n) (q : Nat) : HAtF (w.drewN q) p m lv v es n := h.kept (fun _ _ => rfl)

/-- Where there are entries: their cells. -/
theorem HAtF.some_ [Inhabited EntF] {w : World} {p m : Nat} {lv v : Value} {es : List EntF} {n : Nat} (h : HAtF w p m lv v es n) (h0 : 0 < es.length) :
    ∃ b c, v = .slice (some ⟨b, 0, none⟩) es.length c ∧ b ≠ p ∧ b ≠ m ∧ es.length ≤ c ∧ c ≤ maxLen ∧ (∀ o, w.frozen? ⟨b, o, none⟩ = false) ∧
      ∀ i, i < es.length → w.cell? ⟨b, i * 3, none⟩ = some (.int .i64 ((at_ es i).key)) ∧ w.cell? ⟨b, i * 3 + 1, none⟩ = some (.float .f32 (cfl (at_ es i).rank)) ∧ w.cell? ⟨b, i * 3 + 2, none⟩ = some (.int .i64 (at_ es i).turn) := by
  have hr := h.row
  have h1 := h.ne1
  have h2 := h.ne2
  rcases h.row.2 with ⟨-, h3⟩ | ⟨g, cap, cur, rfl, -, hg, hc, hm, -⟩
  · omega
  · have add : ∀ j, (⟨g, 0, none⟩ : Addr).add j = ⟨g, j, none⟩ := fun j => by unfold Addr.add; split <;> simp_all
    refine ⟨g, cap, rfl, fun e => h1 (by simp [Value.ownBlock, e]), fun e => h2 (by simp [Value.ownBlock, e]), hc, hm, fun o => frozen_of_row w g o _ _ hg, fun i hi => ?_⟩
    have hcl := hr.cells (g := g) rfl
    obtain ⟨e1, e2, e3⟩ := enc3_at (fun e : EntF => .int .i64 (e.key)) (fun e => .float .f32 (cfl e.rank)) (fun e => .int .i64 e.turn) es i hi
    have f1 := hcl _ _ e1
    have f2 := hcl _ _ e2
    have f3 := hcl _ _ e3
    rw [add] at f1 f2 f3
    exact ⟨f1, f2, f3⟩
end

end Go.Proofs.Ytbmcibofecigeaa
