/- Rows of records in memory, whatever a record's cells are. -/
import Derived.Test.YtijgeoegeeejcaaRow9
namespace Go.Proofs.Ytijgeoegeeejcaa
open Go.RowKit Go.Maps
/-- How a record lies: so many cells, each of one value. -/
structure Kit (X : Type) (k : Nat) (enc : X → List Value) : Prop where
  pos : 0 < k
  len : ∀ x, (enc x).length = k
  one : ∀ x, ∀ v ∈ enc x, v.oneCell' = true
abbrev RRow {X : Type} (t : TypeId) (k : Nat) (enc : X → List Value) (B : Nat) (w : World) (v : Value) (xs : List X) : Prop := w.ownsRow B t k v xs.length (xs.flatMap enc)
section
variable {X : Type} {t : TypeId} {k : Nat} {enc : X → List Value} {B : Nat} {w w' : World} {v : Value} {xs : List X}
theorem flat_len (K : Kit X k enc) : ∀ xs : List X, (xs.flatMap enc).length = xs.length * k
  | [] => by simp
  | x :: xs => by rw [List.flatMap_cons, List.length_append, K.len, flat_len K xs, List.length_cons, Nat.add_mul]; omega
theorem flat_at (K : Kit X k enc) : ∀ {xs : List X} {i : Nat} {x : X}, xs[i]? = some x → ∀ {j : Nat}, j < k → (xs.flatMap enc)[i * k + j]? = (enc x)[j]?
  | [], i, x, h, j, _ => by simp at h
  | y :: xs, 0, x, h, j, hj => by
    injection h with h
    subst h
    rw [List.flatMap_cons, Nat.zero_mul, Nat.zero_add, List.getElem?_append_left (by rw [K.len]; exact hj)]
  | y :: xs, i + 1, x, h, j, hj => by
    rw [List.flatMap_cons, List.getElem?_append_right (by rw [K.len, Nat.add_mul]; omega), K.len, show (i + 1) * k + j - k = i * k + j by rw [Nat.add_mul]; omega]
    exact flat_at K (by simpa using h) hj
theorem flat_one (K : Kit X k enc) (xs : List X) : ∀ v ∈ xs.flatMap enc, v.oneCell' = true := fun v hv => by
  obtain ⟨x, -, h⟩ := List.mem_flatMap.1 hv
  exact K.one x v h
theorem rrow_kept (h : RRow t k enc B w v xs) (hk : ∀ b, v.ownBlock = some b → w'.heap[b]? = w.heap[b]?) : RRow t k enc B w' v xs := by
  refine ⟨h.1, ?_⟩
  rcases h.2 with hn | ⟨g, cap, cur, e, hb, hgg, rest⟩
  · exact .inl hn
  · exact .inr ⟨g, cap, cur, e, hb, (hk g (by rw [e]; rfl)).trans hgg, rest⟩
theorem rrow_below (h : RRow t k enc B w v xs) (hb : Below w.heap.size w w') : RRow t k enc B w' v xs := rrow_kept h (fun b e => hb.block b (h.lt b e).2)
theorem rrow_low {B' : Nat} (h : RRow t k enc B' w v xs) (hb : B ≤ B') : RRow t k enc B w v xs := ⟨h.1, h.2.imp id (fun ⟨g, cap, cur, e, q, r⟩ => ⟨g, cap, cur, e, Nat.le_trans hb q, r⟩)⟩
theorem rrow_shape (h : RRow t k enc B w v xs) : ∃ a c, v = .slice a xs.length c := by
  rcases h.2 with ⟨e, h0⟩ | ⟨g', cap, cur, e, -⟩
  · exact ⟨none, 0, by rw [h0]; exact e⟩
  · exact ⟨_, _, e⟩
theorem rrow_len {a : Option Addr} {n c : Nat} (h : RRow t k enc B w (.slice a n c) xs) : n = xs.length := by
  obtain ⟨a', c', e⟩ := rrow_shape h
  injection e
theorem rrow_some {a : Option Addr} {n c : Nat} (h : RRow t k enc B w (.slice a n c) xs) (h0 : 0 < xs.length) : ∃ g, a = some ⟨g, 0, none⟩ := by
  rcases h.2 with ⟨e, h1⟩ | ⟨g', cap, cur, e, -⟩
  · omega
  · injection e with e1; exact ⟨g', e1⟩
theorem add_off13 (b off j : Nat) : (⟨b, off, none⟩ : Addr).add j = ⟨b, off + j, none⟩ := by
  unfold Addr.add; split <;> simp_all
theorem rrow_at (K : Kit X k enc) {g n c : Nat} (h : RRow t k enc B w (.slice (some ⟨g, 0, none⟩) n c) xs) {i : Nat} {x : X} (hi : xs[i]? = some x) {j : Nat} {u : Value} (hj : (enc x)[j]? = some u) : w.cell? ⟨g, i * k + j, none⟩ = some u := by
  have hjk : j < k := by have := (List.getElem?_eq_some_iff.1 hj).1; rw [K.len] at this; exact this
  have := h.cells (g := g) rfl _ _ ((flat_at K hi hjk).trans hj)
  rwa [add_off13, Nat.zero_add] at this
theorem rrow_frozen {g n c : Nat} (h : RRow t k enc B w (.slice (some ⟨g, 0, none⟩) n c) xs) (h0 : 0 < xs.length) : ∀ o, w.frozen? ⟨g, o, none⟩ = false := by
  rcases h.2 with ⟨e, h1⟩ | ⟨g', cap, cur, e, -, hh, -⟩
  · omega
  · injection e with e1
    injection e1 with e1
    injection e1 with e1
    subst e1
    exact fun o => frozen_of_row _ _ o _ _ hh
theorem flat_set (K : Kit X k enc) : ∀ {xs : List X} {i : Nat} {x x' : X} {j : Nat} {u : Value}, xs[i]? = some x → j < k → enc x' = (enc x).set j u → (xs.set i x').flatMap enc = (xs.flatMap enc).set (i * k + j) u
  | [], i, x, x', j, u, h, _, _ => by simp at h
  | y :: xs, 0, x, x', j, u, h, hj, e => by
    injection h with h
    subst h
    rw [List.set_cons_zero, List.flatMap_cons, List.flatMap_cons, Nat.zero_mul, Nat.zero_add, List.set_append_left _ _ (by rw [K.len]; exact hj), e]
  | y :: xs, i + 1, x, x', j, u, h, hj, e => by
    rw [List.set_cons_succ, List.flatMap_cons, List.flatMap_cons, List.set_append_right _ _ (by rw [K.len, Nat.add_mul]; omega), K.len, show (i + 1) * k + j - k = i * k + j by rw [Nat.add_mul]; omega, flat_set K (by simpa using h) hj e]
/-- One cell of a record, written. -/
theorem rrow_set (K : Kit X k enc) {g n c : Nat} (h : RRow t k enc B w (.slice (some ⟨g, 0, none⟩) n c) xs) {i : Nat} {x x' : X} (hi : xs[i]? = some x) {j : Nat} (hj : j < k) {u : Value} (e : enc x' = (enc x).set j u) : RRow t k enc B (w.setCell ⟨g, i * k + j, none⟩ u) (.slice (some ⟨g, 0, none⟩) n c) (xs.set i x') := by
  have hn := rrow_len h
  subst hn
  have h1 := (World.ownsRow.stored h (i * k + j) u).1
  show World.ownsRow _ _ _ _ _ _ _
  rw [flat_set K hi hj e, List.length_set]
  exact h1
theorem rrow_take (K : Kit X k enc) {g n c : Nat} (h : RRow t k enc B w (.slice (some ⟨g, 0, none⟩) n c) xs) {m : Nat} (hm : m ≤ n) : RRow t k enc B w (.slice (some ⟨g, 0, none⟩) m c) (xs.take m) := by
  have hn := rrow_len h
  obtain ⟨h1, h2⟩ := h
  rcases h2 with ⟨e, -⟩ | ⟨g', cap, cur, e, hb, hh, h3, h4, h5, h6⟩
  · cases e
  · injection e with e1 e2 e3
    injection e1 with e1
    injection e1 with e1
    subst e1 e2 e3
    have hl : (xs.take m).length = m := by rw [List.length_take]; omega
    have e : ∀ (ys : List X) (m : Nat), (ys.take m).flatMap enc = (ys.flatMap enc).take (m * k) := by
      intro ys
      induction ys with
      | nil => intro m; simp
      | cons y ys ih =>
        intro m
        cases m with
        | zero => simp
        | succ m => 
          have e0 : (enc y).take ((m + 1) * k) = enc y := List.take_of_length_le (by rw [K.len, Nat.add_mul]; omega)
          rw [List.take_succ_cons, List.flatMap_cons, List.flatMap_cons, ih m, List.take_append, K.len, e0, show (m + 1) * k - k = m * k by rw [Nat.add_mul]; omega]
    refine ⟨by rw [flat_len K], .inr ⟨g, c, cur, by rw [hl], hb, hh, by rw [hl]; omega, h4, h5, ?_⟩⟩
    rw [hl, e, ← h6, List.take_take, Nat.min_eq_left (Nat.mul_le_mul_right k hm)]
/-- Records appended from wherever they lie. -/
theorem run_appR (K : Kit X k enc) {ts : TypeId} {z : Value} {bytes : Nat} (hu : Try.prog.underlying ts = some (.slice t)) (hinfo : (Try.prog.info? t).map (fun i => (i.zero, i.size, i.bytes)) = some (some z, k, bytes)) (hz0 : z.cells.size = k) (hby : bytes ≤ 1000) {ys : List X} {ad : Addr} {c : Nat} (h : RRow t k enc B w v xs) (hB : B ≤ w.heap.size) (hcell : ∀ j u, (ys.flatMap enc)[j]? = some u → w.cell? (ad.add j) = some u) (hl : xs.length + ys.length ≤ 1000000) :
    ∃ a' n' c' w', (∀ ty, (Builtin.append_ #[ts, ts] ty #[v, .slice (some ad) ys.length c]).run Try.prog w = .ok (.slice a' n' c') w') ∧ RRow t k enc B w' (.slice a' n' c') (xs ++ ys) ∧ Turned (fun b => v.ownBlock = some b) w w' ∧ ∀ b, (Value.slice a' n' c').ownBlock = some b → v.ownBlock = some b ∨ w.heap.size ≤ b := by
  obtain ⟨i, hi, hz, hsz, hb⟩ := info_parts hinfo
  have hmul : (xs.length + ys.length) * bytes ≤ 1000000 * 1000 := Nat.mul_le_mul hl hby
  obtain ⟨v', w', hr, g1, g2, -, g5⟩ := run_append_own_at (P := Try.prog) w B ts 0 t i _ k bytes hu hi hz hsz hb hz0 K.pos v xs.length (xs.flatMap enc) h ad ys.length c (ys.flatMap enc) (flat_len K ys) hcell (flat_one K ys) (by unfold maxLen; omega) (by omega) hB
  have e2 : xs.length + ys.length = (xs ++ ys).length := by simp
  rw [← List.flatMap_append, e2] at g1
  have g1' : RRow t k enc B w' v' (xs ++ ys) := g1
  obtain ⟨a', c', e⟩ := rrow_shape g1'
  subst e
  refine ⟨a', _, c', w', fun ty => hr, g1', ⟨g2.os, g2.tape, g2.output, g2.size, fun k hk hn => g2.block k hk (fun e => hn e.symm)⟩, fun b eb => ?_⟩
  rcases g5 with q | q
  · exact .inl (by rw [← q]; exact eb)
  · have eb2 := Option.some.inj (q.symm.trans eb); exact .inr (by omega)
/-- One record, out of a block of its own. -/
theorem run_app1 (K : Kit X k enc) {ts : TypeId} {z : Value} {bytes : Nat} (hu : Try.prog.underlying ts = some (.slice t)) (hinfo : (Try.prog.info? t).map (fun i => (i.zero, i.size, i.bytes)) = some (some z, k, bytes)) (hz0 : z.cells.size = k) (hby : bytes ≤ 1000) (y : X) {cs : Array Value} (hcs : cs.toList = enc y) (h : RRow t k enc B w v xs) (hB : B ≤ w.heap.size) (hl : xs.length < 1000000) :
    ∃ a' n' c' w', (∀ ty, (Builtin.append_ #[ts, ts] ty #[v, .slice (some ⟨w.heap.size, 0, none⟩) 1 1]).run Try.prog (w.alloc (.cells cs t)) = .ok (.slice a' n' c') w') ∧ RRow t k enc B w' (.slice a' n' c') (xs ++ [y]) ∧ Turned (fun b => v.ownBlock = some b) w w' ∧ ∀ b, (Value.slice a' n' c').ownBlock = some b → v.ownBlock = some b ∨ w.heap.size ≤ b := by
  have hb := below_new w (.cells cs t)
  have hs := hb.size
  obtain ⟨a', n', c', w', r, g1, g2, g3⟩ := run_appR (ad := ⟨w.heap.size, 0, none⟩) (c := 1) (ys := [y]) K hu hinfo hz0 hby (rrow_below h hb) (by omega) (fun j u hj => by
    rw [add_off13, Nat.zero_add, cell_of_row _ _ j _ _ (0, 0) (heap_alloc_new w (.cells cs t))]
    rw [List.flatMap_cons, List.flatMap_nil, List.append_nil, ← hcs] at hj
    rw [← hj]; simp) (by simp; omega)
  exact ⟨a', n', c', w', r, g1, ⟨g2.os.trans hb.os, g2.tape.trans hb.tape, g2.output.trans hb.output, Nat.le_trans hs g2.size, fun k h1 hk => (g2.block k (by omega) hk).trans (hb.block k h1)⟩, fun b e => (g3 b e).imp id (fun q => by omega)⟩
end
theorem nrow_below {w w' : World} {v : Value} {ks : List Int} (h : NRow w v ks) (hb : Below w.heap.size w w') : NRow w' v ks := nrow_kept h (fun b e => hb.block b (h.lt b e).2)
theorem cloneI {v : Value} {ks : List Int} (w : World) (h : NRow w v ks) (hl : ks.length ≤ 1000000) :
    Calls Try.prog 40 #[v] w fun e w' => ∃ v', e = .returned v' ∧ Hid (BRow w.heap.size w' v' ks ∧ Below w.heap.size w w') := by
  rcases nrow_shape h with ⟨rfl, rfl⟩ | ⟨g, c, rfl⟩
  · refine (Try.slices_Clone_int_nil 0 0 w).mono ?_
    rintro e w' ⟨rfl, rfl⟩
    exact ⟨_, rfl, ⟨rfl, .inl ⟨rfl, rfl⟩⟩, Below.refl _ _⟩
  · refine (Try.slices_Clone_int g 0 ks.length c ks w (Nat.le_refl _) (by omega) (fun j hj => by rw [Nat.zero_add]; exact (nrow_some h).2.2.2.2 j hj)).mono ?_
    rintro e w' ⟨v', rfl, g1, -, g2⟩
    rw [List.take_length] at g1
    exact ⟨v', rfl, g1, g2⟩
/-- Where a number stands among rising ones, and whether it does. -/
theorem findB (v : Value) (ks : List Int) (k : Int) (w : World) (h : NRow w v ks) (hlen : ks.length ≤ 1000000) (hs : ks.Pairwise (· ≤ ·)) :
    Calls Try.prog 58 #[v, .int .i64 k] w fun e w' => e = .returned (.tuple #[.int .i64 (ks.countP (fun x => decide (x < k)) : Nat), .bool (decide (k ∈ ks))]) ∧ ∃ q, w' = w.drewN q := by
  rcases nrow_shape h with ⟨rfl, rfl⟩ | ⟨g, c, rfl⟩
  · refine (Try.slices_BinarySearch_int_empty none 0 k w).mono ?_
    rintro e w' ⟨rfl, rfl⟩
    exact ⟨by simp, 0, rfl⟩
  · obtain ⟨-, -, -, -, hc⟩ := nrow_some h
    refine (Try.slices_BinarySearch_int g 0 ks.length c ks k w (Nat.le_refl _) (by omega) (fun j hj => by rw [Nat.zero_add]; exact hc j hj) (by rw [List.take_length]; exact hs)).mono ?_
    rintro e w' ⟨he, q, hq⟩
    rw [List.take_length] at he
    refine ⟨?_, q, hq⟩
    rw [he, List.contains_eq_mem]
end Go.Proofs.Ytijgeoegeeejcaa
