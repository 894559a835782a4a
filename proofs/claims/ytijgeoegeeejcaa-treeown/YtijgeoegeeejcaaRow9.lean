/- Rows of numbers in memory (made by mkrow.py). -/
import Derived.Test.YtijgeoegeeejcaaRise9
import Derived.Test.YtijgeoegeeejcaaLaws2
import Derived.Test.YtijgeoegeeejcaaShelf
import Derived.Lib.OwnBridge
import Derived.Lib.AppendZeros
import Derived.Sort.OwnSorted
import Derived.Sort.OwnSortedInts
import Derived.Sort.Walk0
namespace Go.Proofs.Ytijgeoegeeejcaa
open Go.RowKit Go.Maps Go.Sort

/-- v is a slice of these numbers, its block its own. -/
abbrev NRow (w : World) (v : Value) (ks : List Int) : Prop := w.ownsRow 0 3 1 v ks.length (ks.map (Value.int .i64))
theorem nrow_kept {w w' : World} {v : Value} {ks : List Int} (h : NRow w v ks) (hk : ∀ b, v.ownBlock = some b → w'.heap[b]? = w.heap[b]?) : NRow w' v ks := by
  refine ⟨h.1, ?_⟩
  rcases h.2 with hn | ⟨g, cap, cur, e, hb, hgg, rest⟩
  · exact .inl hn
  · exact .inr ⟨g, cap, cur, e, hb, (hk g (by rw [e]; rfl)).trans hgg, rest⟩
theorem nrow_some {w : World} {g n c : Nat} {ks : List Int} (h : NRow w (.slice (some ⟨g, 0, none⟩) n c) ks) : n = ks.length ∧ n ≤ c ∧ c ≤ maxLen ∧ (∃ cur, w.heap[g]? = some (.cells cur 3 (0, 0)) ∧ cur.size = c ∧ cur.toList.take n = ks.map (Value.int .i64)) ∧ ∀ j, j < ks.length → w.cell? ⟨g, j, none⟩ = some (.int .i64 (ks.getD j 0)) := by
  rcases h.2 with ⟨e, -⟩ | ⟨g', cap, cur, e, -, hg, hc, hm, hs, ht⟩
  · cases e
  · injection e with e1 e2 e3
    injection e1 with e1
    injection e1 with e1
    subst e1 e2 e3
    refine ⟨rfl, hc, hm, ⟨cur, hg, by simpa using hs, by simpa using ht⟩, fun j hj => ?_⟩
    have := h.cells (g := g) rfl j (.int .i64 (ks.getD j 0)) (by simp [List.getD, hj])
    rwa [show (⟨g, 0, none⟩ : Addr).add j = ⟨g, j, none⟩ by unfold Addr.add; split <;> simp_all] at this
theorem nrow_shape {w : World} {v : Value} {ks : List Int} (h : NRow w v ks) : (v = .slice none 0 0 ∧ ks = []) ∨ ∃ g c, v = .slice (some ⟨g, 0, none⟩) ks.length c := by
  rcases h.2 with ⟨e, h0⟩ | ⟨g', cap, cur, e, -⟩
  · exact .inl ⟨e, List.eq_nil_of_length_eq_zero h0⟩
  · exact .inr ⟨_, _, e⟩
def setM (cur : Array Value) : Nat → List Value → Array Value
  | _, [] => cur
  | o, v :: vs => setM (cur.setIfInBounds o v) (o + 1) vs
theorem setM_size : ∀ (vs : List Value) (o : Nat) (cur : Array Value), (setM cur o vs).size = cur.size
  | [], _, _ => rfl
  | v :: vs, o, cur => by unfold setM; rw [setM_size vs]; simp
theorem setM_list : ∀ (vs : List Value) (o : Nat) (cur : Array Value), o + vs.length ≤ cur.size → (setM cur o vs).toList = cur.toList.take o ++ vs ++ cur.toList.drop (o + vs.length)
  | [], o, cur, _ => by simp [setM]
  | v :: vs, o, cur, h => by
    have h' : o + 1 + vs.length ≤ (cur.setIfInBounds o v).size := by simp at h ⊢; omega
    have ho : o < cur.size := by simp at h; omega
    have e := setM_list vs (o + 1) (cur.setIfInBounds o v) h'
    unfold setM
    rw [e]
    have e1 : (cur.setIfInBounds o v).toList = cur.toList.set o v := by simp
    rw [e1, List.drop_set, if_pos (by omega), List.length_cons, show o + (vs.length + 1) = o + 1 + vs.length by omega]
    congr 1
    rw [show cur.toList.take o ++ v :: vs = (cur.toList.take o ++ [v]) ++ vs by simp]
    congr 1
    apply List.ext_getElem?
    intro k
    rw [List.getElem?_take, List.getElem?_append, List.length_take, Array.length_toList, Nat.min_eq_left (by omega)]
    by_cases hk : k < o
    · rw [if_pos (by omega), if_pos hk, List.getElem?_set_ne (by omega), List.getElem?_take, if_pos hk]
    · rw [if_neg hk]
      by_cases hk2 : k = o
      · subst hk2
        rw [if_pos (by omega), List.getElem?_set_self (by simpa using ho)]
        simp
      · rw [if_neg (by omega), List.getElem?_eq_none (by simp; omega)]
theorem setCells_heap {t : TypeId} (g : Nat) : ∀ (vs : List Value) (o : Nat) (w : World) (cur : Array Value), w.heap[g]? = some (.cells cur t (0, 0)) → (w.setCells g o vs).heap[g]? = some (.cells (setM cur o vs) t (0, 0))
  | [], _, _, _, h => h
  | v :: vs, o, w, cur, h => setCells_heap g vs (o + 1) (w.setCell ⟨g, o, none⟩ v) _ (heap_setCell_same w g o cur t v h)
theorem setCells_turned {S : Nat → Prop} (g : Nat) (hg : S g) : ∀ (vs : List Value) (o : Nat) (w : World), Turned S w (w.setCells g o vs)
  | [], _, _ => Turned.refl _ _
  | v :: vs, o, w => (turned_setCell w ⟨g, o, none⟩ v hg).trans (setCells_turned g hg vs (o + 1) _)
theorem turned_drew {S : Nat → Prop} (w : World) : Turned S w w.drew := ⟨rfl, rfl, rfl, Nat.le_refl _, fun _ _ _ => rfl⟩
theorem turned_alloc {S : Nat → Prop} (w : World) (o : Obj) : Turned S w (w.alloc o) := turned_of_below ((Below.refl _ _).alloc (Nat.le_refl _) _)
theorem ints_one (ks : List Int) : ∀ v ∈ ks.map (Value.int .i64), v.oneCell' = true := by
  intro v hv; obtain ⟨x, -, rfl⟩ := List.mem_map.1 hv; rfl
theorem zeroCells_size (n : Nat) : (Builtin.zeroCells (Value.int .i64 0).cells n).size = n := by
  have : (Value.int IntKind.i64 0).cells.size = 1 := rfl
  simp [Builtin.zeroCells, this]
theorem findN (v : Value) (ks : List Int) (k : Int) (w : World) (h : NRow w v ks) (hlen : ks.length ≤ 1000000) (hs : Rising ltN ks) :
    Calls Try.prog 58 #[v, .int .i64 k] w fun e w' => ∃ (f : Bool) (q : Nat), e = .returned (.tuple #[.int .i64 (cnt ltN ks k : Nat), .bool f]) ∧ w' = w.drewN q := by
  rcases nrow_shape h with ⟨rfl, rfl⟩ | ⟨g, c, rfl⟩
  · refine (Any.slices_BinarySearch_int_empty Try.laysNm225 none 0 k w).mono ?_
    rintro e w' ⟨rfl, rfl⟩
    exact ⟨false, 0, rfl, rfl⟩
  · obtain ⟨-, -, -, -, hc⟩ := nrow_some h
    refine (Any.slices_BinarySearch_int Try.laysNm225 g 0 ks.length c ks k w (Nat.le_refl _) (by omega) (fun j hj => by rw [Nat.zero_add]; exact hc j hj) (by rw [List.take_length]; exact List.Pairwise.imp (fun {a b} hab => by simp [ltN] at hab; omega) hs)).mono ?_
    rintro e w' ⟨he, q, hq⟩
    rw [List.take_length] at he
    exact ⟨_, q, he, hq⟩

set_option maxHeartbeats 1000000 in
set_option maxRecDepth 100000 in
theorem info3 : (Try.prog.info? 3).map (fun i => (i.zero, i.size, i.bytes)) = some (some (.int .i64 0), 1, 8) := by kernel_rfl
/-- A row of one's own, from B on. -/
abbrev BRow (B : Nat) (w : World) (v : Value) (ks : List Int) : Prop := w.ownsRow B 3 1 v ks.length (ks.map (Value.int .i64))
theorem brow_shape {B : Nat} {w : World} {v : Value} {ks : List Int} (h : BRow B w v ks) : ∃ a c, v = .slice a ks.length c ∧ ks.length ≤ c := by
  rcases h.2 with ⟨e, h0⟩ | ⟨g', cap, cur, e, -, -, hc, -⟩
  · exact ⟨none, 0, by rw [e, h0], by omega⟩
  · exact ⟨_, _, e, hc⟩
theorem brow_kept {B : Nat} {w w' : World} {v : Value} {ks : List Int} (h : BRow B w v ks) (hk : ∀ b, v.ownBlock = some b → w'.heap[b]? = w.heap[b]?) : BRow B w' v ks := by
  refine ⟨h.1, ?_⟩
  rcases h.2 with hn | ⟨g, cap, cur, e, hb, hgg, rest⟩
  · exact .inl hn
  · exact .inr ⟨g, cap, cur, e, hb, (hk g (by rw [e]; rfl)).trans hgg, rest⟩
theorem run_append_nil (w : World) (base : Option Addr) (l c : Nat) (hlc : l ≤ c) (ty : TypeId) : (Builtin.append_ #[22, 22] ty #[.slice base l c, .slice none 0 0]).run Try.prog w = .ok (.slice base l c) w := by
  obtain ⟨i, hi, hz, hs, hb⟩ := info_parts info3
  cases base <;> simp [Builtin.append_, run_underlying Try.underlying22, sizeOf, typeInfo, hi, Builtin.lenOf, Builtin.firstCells, hlc, storeCells]
theorem run_appN {B : Nat} {w : World} (hB : B ≤ w.heap.size) {v v2 : Value} {a b : List Int} (h1 : BRow B w v a) (h2 : NRow w v2 b) (hl : a.length + b.length ≤ 4000000) :
    ∃ v' w', (∀ ty, (Builtin.append_ #[22, 22] ty #[v, v2]).run Try.prog w = .ok v' w') ∧ BRow B w' v' (a ++ b) ∧ w.grownBy w' v.ownBlock := by
  obtain ⟨i, hi, hz, hs, hb⟩ := info_parts info3
  rcases nrow_shape h2 with ⟨rfl, rfl⟩ | ⟨g, c, rfl⟩
  · obtain ⟨x, c, rfl, hc⟩ := brow_shape h1
    exact ⟨_, w, fun ty => run_append_nil w x a.length c hc ty, by rw [List.append_nil]; exact h1, ⟨rfl, rfl, rfl, Nat.le_refl _, fun _ _ _ => rfl⟩⟩
  · obtain ⟨v', w', hr, g1, g2, -, -⟩ := run_append_own_at (P := Try.prog) w B 22 0 3 i _ 1 8 Try.underlying22 hi hz hs hb rfl (by omega) v a.length (a.map (Value.int .i64)) h1 ⟨g, 0, none⟩ b.length c (b.map (Value.int .i64)) (by simp)
      (h2.cells (g := g) rfl) (ints_one b) (by unfold maxLen; omega) (by omega) hB
    refine ⟨v', w', fun ty => hr, ?_, g2⟩
    have e1 : a.map (Value.int .i64) ++ b.map (Value.int .i64) = (a ++ b).map (Value.int .i64) := by simp
    have e2 : a.length + b.length = (a ++ b).length := by simp
    rw [e1, e2] at g1
    exact g1
theorem sortN (B : Nat) (v : Value) (ks : List Int) (w : World) (hb : ks.length ≤ 4000000) (h : BRow B w v ks) :
    Calls Try.prog 41 #[v] w fun e w' => e = .returned (.tuple #[]) ∧ Hid (∃ ys, ys.Perm ks ∧ ys.Pairwise (· ≤ ·) ∧ BRow B w' v ys ∧ w.grownBy w' v.ownBlock) := by
  rcases h.2 with ⟨rfl, h0⟩ | ⟨g, c, cur, rfl, hb0, hg, hn0, hm0, hs0, -⟩
  · obtain rfl : ks = [] := List.eq_nil_of_length_eq_zero h0
    refine (Any.slices_Sort_int_none Try.lays189 none 0 w).mono ?_
    rintro e w' ⟨rfl, rfl⟩
    exact ⟨rfl, [], List.Perm.refl _, List.Pairwise.nil, h, ⟨rfl, rfl, rfl, Nat.le_refl _, fun _ _ _ => rfl⟩⟩
  · obtain ⟨g', c', e, -, hlt, hcap, hm, -, hH⟩ := Lib.holds_of_ownsRow h (by simp)
    injection e with e1 e2 e3
    injection e1 with e1
    injection e1 with e1
    subst e1 e3
    refine (Any.slices_Sort_int Try.lays189 g 0 c ks w hH hlt (by omega)).mono ?_
    rintro e w' ⟨he, n, os, rfl⟩
    have hp : (ks.mergeSort fun x y => decide (x ≤ y)).Perm ks := List.mergeSort_perm _ _
    refine ⟨he, _, hp, ?_, ?_, grownBy_sortedI _⟩
    · have h1 : (ks.mergeSort fun x y => decide (x ≤ y)).Pairwise (fun x y => decide (x ≤ y) = true) := List.pairwise_mergeSort (fun a b c h1 h2 => by simp at *; omega) (fun a b => by simp; omega) _
      exact h1.imp (fun {a b} hab => by simpa using hab)
    · have := ownsRow_sortedI (n := n) (os := os) hp.length_eq hb0 hg hn0 hm0 hs0
      unfold BRow
      rw [hp.length_eq]
      exact this
theorem below_new (w : World) (o : Obj) : Below w.heap.size w (w.alloc o) := (Below.refl _ _).alloc (Nat.le_refl _) _
theorem heap_lt {w : World} {b : Nat} {o : Obj} (h : w.heap[b]? = some o) : b < w.heap.size := (Array.getElem?_eq_some_iff.1 h).1
theorem brow_at0 {B : Nat} {w : World} {v : Value} {gs : List Int} (h : BRow B w v gs) : NRow w v gs := ⟨h.1, h.2.imp id (fun ⟨g, cap, cur, e, _, r⟩ => ⟨g, cap, cur, e, Nat.zero_le _, r⟩)⟩
theorem brow_low {B B' : Nat} {w : World} {v : Value} {ks : List Int} (h : BRow B' w v ks) (hb : B ≤ B') : BRow B w v ks := ⟨h.1, h.2.imp id (fun ⟨g, cap, cur, e, q, r⟩ => ⟨g, cap, cur, e, Nat.le_trans hb q, r⟩)⟩
theorem brow_at {B : Nat} {w : World} {g n c : Nat} {ks : List Int} (h : BRow B w (.slice (some ⟨g, 0, none⟩) n c) ks) {j : Nat} {e : Int} (hj : ks[j]? = some e) : w.cell? ⟨g, j, none⟩ = some (.int .i64 e) := by
  have := h.cells (g := g) rfl j (.int .i64 e) (by rw [List.getElem?_map, hj]; rfl)
  rwa [show (⟨g, 0, none⟩ : Addr).add j = ⟨g, j, none⟩ by unfold Addr.add; split <;> simp_all] at this
theorem brow_some {B : Nat} {w : World} {a : Option Addr} {n c : Nat} {ks : List Int} (h : BRow B w (.slice a n c) ks) (h0 : 0 < ks.length) : ∃ g, a = some ⟨g, 0, none⟩ := by
  rcases h.2 with ⟨e, h1⟩ | ⟨g', cap, cur, e, -⟩
  · omega
  · injection e with e1; exact ⟨g', e1⟩
theorem brow_take {B : Nat} {w : World} {g n c : Nat} {ks : List Int} (h : BRow B w (.slice (some ⟨g, 0, none⟩) n c) ks) {m : Nat} (hm : m ≤ n) : BRow B w (.slice (some ⟨g, 0, none⟩) m c) (ks.take m) := by
  obtain ⟨h1, h2⟩ := h
  rcases h2 with ⟨e, -⟩ | ⟨g', cap, cur, e, hb, hh, h3, h4, h5, h6⟩
  · cases e
  · injection e with e1 e2 e3
    injection e1 with e1
    injection e1 with e1
    subst e1 e2 e3
    have hl : (ks.take m).length = m := by rw [List.length_take]; omega
    refine ⟨by simp, .inr ⟨g, c, cur, by rw [hl], hb, hh, by rw [hl]; omega, h4, h5, ?_⟩⟩
    rw [hl, List.map_take, ← h6, Nat.mul_one, Nat.mul_one, List.take_take, Nat.min_eq_left hm]
theorem own_eq {g n c b : Nat} (e : (Value.slice (some ⟨g, 0, none⟩) n c).ownBlock = some b) : g = b := by injection e
/-- One number more: what stays, and where it lies. -/
theorem run_app8 {B : Nat} {w : World} {v : Value} {ks : List Int} (x : Int) (h : BRow B w v ks) (hB : B ≤ w.heap.size) (hl : ks.length ≤ 2000000) :
    ∃ a' n' c' w', (∀ ty, (Builtin.append_ #[22, 22] ty #[v, .slice (some ⟨w.heap.size, 0, none⟩) 1 1]).run Try.prog (w.alloc (.cells #[.int .i64 x] 3)) = .ok (.slice a' n' c') w') ∧ BRow B w' (.slice a' n' c') (ks ++ [x]) ∧ Turned (fun b => v.ownBlock = some b) w w' ∧ ∀ b, (Value.slice a' n' c').ownBlock = some b → v.ownBlock = some b ∨ w.heap.size ≤ b := by
  have hb1 := below_new w (.cells #[.int .i64 x] 3)
  have h2 : NRow (w.alloc (.cells #[.int .i64 x] 3)) (.slice (some ⟨w.heap.size, 0, none⟩) 1 1) [x] := ⟨rfl, .inr ⟨w.heap.size, 1, #[.int .i64 x], rfl, Nat.zero_le _, heap_alloc_new _ _, Nat.le_refl _, by unfold maxLen; omega, rfl, rfl⟩⟩
  have h1 : BRow B (w.alloc (.cells #[.int .i64 x] 3)) v ks := brow_kept h (fun b e => hb1.block b (h.lt b e).2)
  obtain ⟨ii, hi1, hz, hs, hb⟩ := info_parts info3
  obtain ⟨v', w', hr, g1, g2, -, g5⟩ := run_append_own_at (P := Try.prog) (w.alloc (.cells #[.int .i64 x] 3)) B 22 0 3 ii _ 1 8 Try.underlying22 hi1 hz hs hb rfl (by omega) v ks.length (ks.map (Value.int .i64)) h1 ⟨w.heap.size, 0, none⟩ 1 1 ([x].map (Value.int .i64)) (by simp)
      (h2.cells (g := w.heap.size) rfl) (ints_one [x]) (by unfold maxLen; omega) (by omega) (Nat.le_trans hB hb1.size)
  have e1 : ks.map (Value.int .i64) ++ [x].map (Value.int .i64) = (ks ++ [x]).map (Value.int .i64) := by simp
  have e2 : ks.length + 1 = (ks ++ [x]).length := by simp
  rw [e1, e2] at g1
  have g1' : BRow B w' v' (ks ++ [x]) := g1
  obtain ⟨a', c', e, -⟩ := brow_shape g1'
  subst e
  refine ⟨a', _, c', w', fun ty => hr, g1', (turned_of_below hb1).trans ⟨g2.os, g2.tape, g2.output, g2.size, fun k hk hn => g2.block k hk (fun e => hn e.symm)⟩, fun b eb => ?_⟩
  rcases g5 with q | q
  · exact .inl (by rw [← q]; exact eb)
  · rw [q] at eb; injection eb with eb; exact .inr (by have := hb1.size; omega)
theorem brow_set {B : Nat} {W : World} {g n c k : Nat} {ks : List Int} (h : BRow B W (.slice (some ⟨g, 0, none⟩) n c) ks) (x : Int) (_ : k < n) : (∀ o, W.frozen? ⟨g, o, none⟩ = false) ∧ BRow B (W.setCell ⟨g, k, none⟩ (.int .i64 x)) (.slice (some ⟨g, 0, none⟩) n c) (ks.set k x) := by
  rcases h.2 with ⟨e, -⟩ | ⟨g', cap, cur, e, hb, hgg, hc, hm, hs, ht⟩
  · cases e
  · obtain rfl : g = g' := by injection e with e1; injection e1 with e1; injection e1
    refine ⟨fun o => frozen_of_row W _ o _ _ hgg, by simp, .inr ⟨g, cap, _, ?_, hb, heap_setCell_same W g k cur 3 _ hgg, ?_, hm, by simpa using hs, ?_⟩⟩
    · rw [List.length_set]; exact e
    · rw [List.length_set]; exact hc
    · rw [List.length_set, Array.toList_setIfInBounds, List.take_set, ht, List.map_set]
end Go.Proofs.Ytijgeoegeeejcaa
