/- Witnesses as bytes: numbers, their bytes, reading and writing, as mathematics. -/
import Derived.Test.YtagibmgbjhemkaaGreatTail
import Derived.Test.YtagibmgbjhemkaaGreatAtI
import Derived.Lib.AppendZeros
import Derived.Lib.OwnBridge
import Derived.Deep.Cut
import Derived.Deep.CutRange
import Derived.Deep.LoopGhost
import Derived.Laws.ResultCell
import Derived.Laws.OwnMore
import Derived.Test.YtagibmgbjhemkaaGreatRows
namespace Go.Proofs.YtagibmgbjhemkaaGreat

namespace W16
open Go.RowKit Go.Maps
theorem turned_drew {S : Nat → Prop} (w : World) : Turned S w w.drew := ⟨rfl, rfl, rfl, Nat.le_refl _, fun _ _ _ => rfl⟩
theorem below_new (w : World) (o : Obj) : Below w.heap.size w (w.alloc o) := (Below.refl _ _).alloc (Nat.le_refl _) _
theorem turned_alloc {S : Nat → Prop} (w : World) (o : Obj) : Turned S w (w.alloc o) := turned_of_below (below_new w o)
theorem heap_lt {w : World} {b : Nat} {o : Obj} (h : w.heap[b]? = some o) : b < w.heap.size := (Array.getElem?_eq_some_iff.1 h).1
theorem cell_lt {w : World} {x : Addr} {v : Value} (h : w.cell? x = some v) : x.block < w.heap.size := by
  unfold World.cell? at h
  cases hb : w.heap[x.block]? with
  | none => rw [hb] at h; cases h
  | some o => exact heap_lt hb
structure Kit (X : Type) (k : Nat) (enc : X → List Value) : Prop where
  pos : 0 < k
  len : ∀ x, (enc x).length = k
  one : ∀ x, ∀ v ∈ enc x, v.oneCell' = true
abbrev RRow {X : Type} (t : TypeId) (k : Nat) (enc : X → List Value) (B : Nat) (w : World) (v : Value) (xs : List X) : Prop := w.ownsRow B t k v xs.length (xs.flatMap enc)
section
variable {X : Type} {t : TypeId} {k : Nat} {enc : X → List Value} {B : Nat} {w w' : World} {v : Value} {xs : List X}
theorem flat_len (K : Kit X k enc) : ∀ xs : List X, (xs.flatMap enc).length = xs.length * k
  | [] => by simp
  | x :: xs => by rw [List.flatMap_cons, List.length_append, K.len, flat_len K xs, List.length_cons, Nat.add_mul]; omega
theorem flat_at (K : Kit X k enc) : ∀ {xs : List X} {i : Nat} {x : X}, xs[i]? = some x → ∀ {j : Nat}, j < k → (xs.flatMap enc)[i * k + j]? = (enc x)[j]?
  | [], i, x, h, j, _ => by simp at h
  | y :: xs, 0, x, h, j, hj => by
    injection h with h
    subst h; rw [List.flatMap_cons, Nat.zero_mul, Nat.zero_add, List.getElem?_append_left (by rw [K.len]; exact hj)]
  | y :: xs, i + 1, x, h, j, hj => by
    rw [List.flatMap_cons, List.getElem?_append_right (by rw [K.len, Nat.add_mul]; omega), K.len, show (i + 1) * k + j - k = i * k + j by rw [Nat.add_mul]; omega]
    exact flat_at K (by simpa using h) hj
theorem flat_one (K : Kit X k enc) (xs : List X) : ∀ v ∈ xs.flatMap enc, v.oneCell' = true := fun v hv => by
  obtain ⟨x, -, h⟩ := List.mem_flatMap.1 hv; exact K.one x v h
theorem rrow_kept (h : RRow t k enc B w v xs) (hk : ∀ b, v.ownBlock = some b → w'.heap[b]? = w.heap[b]?) : RRow t k enc B w' v xs := by
  refine ⟨h.1, ?_⟩; rcases h.2 with hn | ⟨g, cap, cur, e, hb, hgg, rest⟩
  · exact .inl hn
  · exact .inr ⟨g, cap, cur, e, hb, (hk g (by rw [e]; rfl)).trans hgg, rest⟩
theorem rrow_below (h : RRow t k enc B w v xs) (hb : Below w.heap.size w w') : RRow t k enc B w' v xs := rrow_kept h (fun b e => hb.block b (h.lt b e).2)
theorem rrow_low {B' : Nat} (h : RRow t k enc B' w v xs) (hb : B ≤ B') : RRow t k enc B w v xs := ⟨h.1, h.2.imp id (fun ⟨g, cap, cur, e, q, r⟩ => ⟨g, cap, cur, e, Nat.le_trans hb q, r⟩)⟩
theorem rrow_shape (h : RRow t k enc B w v xs) : ∃ a c, v = .slice a xs.length c := by
  rcases h.2 with ⟨e, h0⟩ | ⟨g', cap, cur, e, -⟩
  · exact ⟨none, 0, by rw [h0]; exact e⟩
  · exact ⟨_, _, e⟩
theorem rrow_len {a : Option Addr} {n c : Nat} (h : RRow t k enc B w (.slice a n c) xs) : n = xs.length := by
  obtain ⟨a', c', e⟩ := rrow_shape h; injection e
theorem rrow_some {a : Option Addr} {n c : Nat} (h : RRow t k enc B w (.slice a n c) xs) (h0 : 0 < xs.length) : ∃ g, a = some ⟨g, 0, none⟩ := by
  rcases h.2 with ⟨e, h1⟩ | ⟨g', cap, cur, e, -⟩
  · omega
  · injection e with e1; exact ⟨g', e1⟩
theorem add_off13 (b off j : Nat) : (⟨b, off, none⟩ : Addr).add j = ⟨b, off + j, none⟩ := by
  unfold Addr.add; split <;> simp_all
theorem rrow_at (K : Kit X k enc) {g n c : Nat} (h : RRow t k enc B w (.slice (some ⟨g, 0, none⟩) n c) xs) {i : Nat} {x : X} (hi : xs[i]? = some x) {j : Nat} {u : Value} (hj : (enc x)[j]? = some u) : w.cell? ⟨g, i * k + j, none⟩ = some u := by
  have hjk : j < k := by have := (List.getElem?_eq_some_iff.1 hj).1; rw [K.len] at this; exact this
  have := h.cells (g := g) rfl _ _ ((flat_at K hi hjk).trans hj)
  rwa [add_off13, Nat.zero_add] at this
theorem flat_set (K : Kit X k enc) : ∀ {xs : List X} {i : Nat} {x x' : X} {j : Nat} {u : Value}, xs[i]? = some x → j < k → enc x' = (enc x).set j u → (xs.set i x').flatMap enc = (xs.flatMap enc).set (i * k + j) u
  | [], i, x, x', j, u, h, _, _ => by simp at h
  | y :: xs, 0, x, x', j, u, h, hj, e => by
    injection h with h
    subst h; rw [List.set_cons_zero, List.flatMap_cons, List.flatMap_cons, Nat.zero_mul, Nat.zero_add, List.set_append_left _ _ (by rw [K.len]; exact hj), e]
  | y :: xs, i + 1, x, x', j, u, h, hj, e => by
    rw [List.set_cons_succ, List.flatMap_cons, List.flatMap_cons, List.set_append_right _ _ (by rw [K.len, Nat.add_mul]; omega), K.len, show (i + 1) * k + j - k = i * k + j by rw [Nat.add_mul]; omega, flat_set K (by simpa using h) hj e]
theorem rrow_set (K : Kit X k enc) {g n c : Nat} (h : RRow t k enc B w (.slice (some ⟨g, 0, none⟩) n c) xs) {i : Nat} {x x' : X} (hi : xs[i]? = some x) {j : Nat} (hj : j < k) {u : Value} (e : enc x' = (enc x).set j u) : RRow t k enc B (w.setCell ⟨g, i * k + j, none⟩ u) (.slice (some ⟨g, 0, none⟩) n c) (xs.set i x') := by
  have hn := rrow_len h; subst hn; have h1 := (World.ownsRow.stored h (i * k + j) u).1; show World.ownsRow _ _ _ _ _ _ _; rw [flat_set K hi hj e, List.length_set]; exact h1
theorem rrow_take (K : Kit X k enc) {g n c : Nat} (h : RRow t k enc B w (.slice (some ⟨g, 0, none⟩) n c) xs) {m : Nat} (hm : m ≤ n) : RRow t k enc B w (.slice (some ⟨g, 0, none⟩) m c) (xs.take m) := by
  have hn := rrow_len h; obtain ⟨h1, h2⟩ := h; rcases h2 with ⟨e, -⟩ | ⟨g', cap, cur, e, hb, hh, h3, h4, h5, h6⟩
  · cases e
  · injection e with e1 e2 e3
    injection e1 with e1
    injection e1 with e1
    subst e1 e2 e3; have hl : (xs.take m).length = m := by rw [List.length_take]; omega
    have e : ∀ (ys : List X) (m : Nat), (ys.take m).flatMap enc = (ys.flatMap enc).take (m * k) := by
      intro ys
      induction ys with
      | nil => intro m; simp
      | cons y ys ih =>
        intro m
        cases m with
        | zero => simp
        | succ m => 
          have e0 : (enc y).take ((m + 1) * k) = enc y := List.take_of_length_le (by rw [K.len, Nat.add_mul]; omega)
          rw [List.take_succ_cons, List.flatMap_cons, List.flatMap_cons, ih m, List.take_append, K.len, e0, show (m + 1) * k - k = m * k by rw [Nat.add_mul]; omega]
    refine ⟨by rw [flat_len K], .inr ⟨g, c, cur, by rw [hl], hb, hh, by rw [hl]; omega, h4, h5, ?_⟩⟩
    rw [hl, e, ← h6, List.take_take, Nat.min_eq_left (Nat.mul_le_mul_right k hm)]
theorem run_appR (K : Kit X k enc) {ts : TypeId} {z : Value} {bytes : Nat} (hu : Tryz.prog.underlying ts = some (.slice t)) (hinfo : (Tryz.prog.info? t).map (fun i => (i.zero, i.size, i.bytes)) = some (some z, k, bytes)) (hz0 : z.cells.size = k) (hby : bytes ≤ 1000) {ys : List X} {ad : Addr} {c : Nat} (h : RRow t k enc B w v xs) (hB : B ≤ w.heap.size) (hcell : ∀ j u, (ys.flatMap enc)[j]? = some u → w.cell? (ad.add j) = some u) (hl : xs.length + ys.length ≤ 1000000) :
    ∃ a' n' c' w', (∀ ty, (Builtin.append_ #[ts, ts] ty #[v, .slice (some ad) ys.length c]).run Tryz.prog w = .ok (.slice a' n' c') w') ∧ RRow t k enc B w' (.slice a' n' c') (xs ++ ys) ∧ Turned (fun b => v.ownBlock = some b) w w' ∧ ∀ b, (Value.slice a' n' c').ownBlock = some b → v.ownBlock = some b ∨ w.heap.size ≤ b := by
  obtain ⟨i, hi, hz, hsz, hb⟩ := info_parts hinfo; have hmul : (xs.length + ys.length) * bytes ≤ 1000000 * 1000 := Nat.mul_le_mul hl hby; obtain ⟨v', w', hr, g1, g2, -, g5⟩ := run_append_own_at (P := Tryz.prog) w B ts 0 t i _ k bytes hu hi hz hsz hb hz0 K.pos v xs.length (xs.flatMap enc) h ad ys.length c (ys.flatMap enc) (flat_len K ys) hcell (flat_one K ys) (by unfold maxLen; omega) (by omega) hB
  have e2 : xs.length + ys.length = (xs ++ ys).length := by simp
  rw [← List.flatMap_append, e2] at g1; have g1' : RRow t k enc B w' v' (xs ++ ys) := g1; obtain ⟨a', c', e⟩ := rrow_shape g1'; subst e; refine ⟨a', _, c', w', fun ty => hr, g1', ⟨g2.os, g2.tape, g2.output, g2.size, fun k hk hn => g2.block k hk (fun e => hn e.symm)⟩, fun b eb => ?_⟩
  rcases g5 with q | q
  · exact .inl (by rw [← q]; exact eb)
  · have eb2 := Option.some.inj (q.symm.trans eb); exact .inr (by omega)
theorem run_app1 (K : Kit X k enc) {ts : TypeId} {z : Value} {bytes : Nat} (hu : Tryz.prog.underlying ts = some (.slice t)) (hinfo : (Tryz.prog.info? t).map (fun i => (i.zero, i.size, i.bytes)) = some (some z, k, bytes)) (hz0 : z.cells.size = k) (hby : bytes ≤ 1000) (y : X) {cs : Array Value} (hcs : cs.toList = enc y) (h : RRow t k enc B w v xs) (hB : B ≤ w.heap.size) (hl : xs.length < 1000000) :
    ∃ a' n' c' w', (∀ ty, (Builtin.append_ #[ts, ts] ty #[v, .slice (some ⟨w.heap.size, 0, none⟩) 1 1]).run Tryz.prog (w.alloc (.cells cs t)) = .ok (.slice a' n' c') w') ∧ RRow t k enc B w' (.slice a' n' c') (xs ++ [y]) ∧ Turned (fun b => v.ownBlock = some b) w w' ∧ ∀ b, (Value.slice a' n' c').ownBlock = some b → v.ownBlock = some b ∨ w.heap.size ≤ b := by
  have hb := below_new w (.cells cs t); have hs := hb.size; obtain ⟨a', n', c', w', r, g1, g2, g3⟩ := run_appR (ad := ⟨w.heap.size, 0, none⟩) (c := 1) (ys := [y]) K hu hinfo hz0 hby (rrow_below h hb) (by omega) (fun j u hj => by
    rw [add_off13, Nat.zero_add, cell_of_row _ _ j _ _ (0, 0) (heap_alloc_new w (.cells cs t))]; rw [List.flatMap_cons, List.flatMap_nil, List.append_nil, ← hcs] at hj; rw [← hj]; simp) (by simp; omega)
  exact ⟨a', n', c', w', r, g1, ⟨g2.os.trans hb.os, g2.tape.trans hb.tape, g2.output.trans hb.output, Nat.le_trans hs g2.size, fun k h1 hk => (g2.block k (by omega) hk).trans (hb.block k h1)⟩, fun b e => (g3 b e).imp id (fun q => by omega)⟩
end
/-! bytes, numbers -/
def encB (x : Nat) : List Value := [.int .u8 (x : Nat)]
theorem kitB : Kit Nat 1 encB := ⟨by omega, fun _ => rfl, fun x v hv => by simp [encB] at hv; rcases hv with rfl; rfl⟩
abbrev ByRow (B : Nat) (w : World) (v : Value) (bs : List Nat) : Prop := RRow 5 1 encB B w v bs
theorem infoB : (Tryz.prog.info? 5).map (fun i => (i.zero, i.size, i.bytes)) = some (some (.int .u8 0), 1, 1) := by kernel_rfl
def encN (x : Int) : List Value := [.int .i64 x]
theorem kitN : Kit Int 1 encN := ⟨by omega, fun _ => rfl, fun x v hv => by simp [encN] at hv; rcases hv with rfl; rfl⟩
abbrev NRow (B : Nat) (w : World) (v : Value) (ks : List Int) : Prop := RRow 3 1 encN B w v ks
theorem infoN : (Tryz.prog.info? 3).map (fun i => (i.zero, i.size, i.bytes)) = some (some (.int .i64 0), 1, 8) := by kernel_rfl
def Lies {X : Type} (f : X → Value) (w : World) (v : Value) (xs : List X) : Prop :=
  ∃ a c, v = .slice a xs.length c ∧ xs.length ≤ c ∧ (a = none → c = 0) ∧ (xs = [] ∨ ∃ b off, a = some ⟨b, off, none⟩ ∧ ∀ (i : Nat) (x : X), xs[i]? = some x → w.cell? ⟨b, off + i, none⟩ = some (f x))
abbrev u8v (x : Nat) : Value := .int .u8 (x : Nat)
abbrev i64v (x : Int) : Value := .int .i64 x
section
variable {X : Type} {f : X → Value} {w w' : World} {v : Value} {xs : List X}
theorem lies_below (h : Lies f w v xs) (hb : Below w.heap.size w w') : Lies f w' v xs := by
  obtain ⟨a, c, e, h1, h2, h3⟩ := h; refine ⟨a, c, e, h1, h2, h3.imp id ?_⟩
  rintro ⟨b, off, ea, h⟩
  exact ⟨b, off, ea, fun i x hx => (cell_of_heap (hb.block _ (cell_lt (h i x hx)))).trans (h i x hx)⟩
theorem lies_turned {S : Nat → Prop} (h : Lies f w v xs) (ht : Turned S w w') (hs : ∀ b, v.ownBlock = some b → ¬ S b) : Lies f w' v xs := by
  obtain ⟨a, c, rfl, h1, h2, h3⟩ := h; refine ⟨a, c, rfl, h1, h2, h3.imp id ?_⟩
  rintro ⟨b, off, rfl, h⟩
  exact ⟨b, off, rfl, fun i x hx => (cell_of_heap (ht.block _ (cell_lt (h i x hx)) (hs b rfl))).trans (h i x hx)⟩
theorem lies_at {a : Option Addr} {n c : Nat} (h : Lies f w (.slice a n c) xs) {i : Nat} {x : X} (hx : xs[i]? = some x) : ∃ b off, a = some ⟨b, off, none⟩ ∧ w.cell? ⟨b, off + i, none⟩ = some (f x) := by
  obtain ⟨a', c', e, -, -, h3⟩ := h; injection e with e1
  subst e1; rcases h3 with h3 | ⟨b, off, rfl, h⟩
  · rw [h3] at hx; cases hx
  · exact ⟨b, off, rfl, h i x hx⟩
theorem lies_shape (h : Lies f w v xs) : ∃ a c, v = .slice a xs.length c := by
  obtain ⟨a, c, e, -⟩ := h; exact ⟨a, c, e⟩
theorem lies_len {a : Option Addr} {n c : Nat} (h : Lies f w (.slice a n c) xs) : n = xs.length ∧ n ≤ c := by
  obtain ⟨a', c', e, h1, -⟩ := h; injection e with e1 e2 e3
  subst e2 e3; exact ⟨rfl, h1⟩
theorem lies_of_row {t : TypeId} {enc : X → List Value} {B : Nat} (hf : ∀ x, enc x = [f x]) (h : RRow t 1 enc B w v xs) : Lies f w v xs := by
  obtain ⟨h1, h2⟩ := h; have hfl : ∀ (xs : List X) (i : Nat) (x : X), xs[i]? = some x → (xs.flatMap enc)[i]? = some (f x) := by
    intro xs
    induction xs with
    | nil => intro i x h; cases h
    | cons y ys ih =>
      intro i x h; rw [List.flatMap_cons, hf y]
      cases i with
      | zero => injection h with h; subst h; rfl
      | succ i => exact ih i x (by simpa using h)
  have h0 : w.ownsRow B t 1 v xs.length (xs.flatMap enc) := ⟨h1, h2⟩; rcases h2 with ⟨rfl, h3⟩ | ⟨g, cap, cur, rfl, -, hg, hc, -⟩
  · obtain rfl : xs = [] := List.eq_nil_of_length_eq_zero h3; exact ⟨none, 0, rfl, Nat.le_refl _, fun _ => rfl, .inl rfl⟩
  · refine ⟨_, cap, rfl, hc, (fun e => by cases e), .inr ⟨g, 0, rfl, fun i x hx => ?_⟩⟩
    have := h0.cells (g := g) rfl i _ (hfl xs i x hx)
    rwa [add_off13] at this
end
theorem byrow_lies {B : Nat} {w : World} {v : Value} {bs : List Nat} (h : ByRow B w v bs) : Lies u8v w v bs := lies_of_row (fun _ => rfl) h
theorem nrow_lies {B : Nat} {w : World} {v : Value} {ks : List Int} (h : NRow B w v ks) : Lies i64v w v ks := lies_of_row (fun _ => rfl) h
theorem run_append_nil {ts t : TypeId} {z : Value} {k bytes : Nat} (hu : Tryz.prog.underlying ts = some (.slice t)) (hinfo : (Tryz.prog.info? t).map (fun i => (i.zero, i.size, i.bytes)) = some (some z, k, bytes)) (w : World) (base : Option Addr) (l c : Nat) (hlc : l ≤ c) (a2 : Option Addr) (c2 : Nat) (ty : TypeId) :
    (Builtin.append_ #[ts, ts] ty #[.slice base l c, .slice a2 0 c2]).run Tryz.prog w = .ok (.slice base l c) w := by
  obtain ⟨i, hi, hz, hs, hb⟩ := info_parts hinfo
  cases base <;> cases a2 <;> simp [Builtin.append_, run_underlying hu, sizeOf, typeInfo, hi, Builtin.lenOf, Builtin.firstCells, hlc, storeCells, loadCells, loadCellsFrom, Sem.run_pure, Result.andThen]
theorem rrow_room {X : Type} {t : TypeId} {k : Nat} {enc : X → List Value} {B : Nat} {w : World} {v : Value} {xs : List X} (h : RRow t k enc B w v xs) : ∃ a c, v = .slice a xs.length c ∧ xs.length ≤ c := by
  rcases h.2 with ⟨e, h0⟩ | ⟨g', cap, cur, e, -, -, hc, -⟩
  · exact ⟨none, 0, by rw [e, h0], by omega⟩
  · exact ⟨_, _, e, hc⟩
theorem run_appL {X : Type} {f : X → Value} {enc : X → List Value} {ts t : TypeId} {z : Value} {bytes B : Nat} {w : World} {v v2 : Value} {xs ys : List X} (K : Kit X 1 enc) (hf : ∀ x, enc x = [f x]) (hu : Tryz.prog.underlying ts = some (.slice t)) (hinfo : (Tryz.prog.info? t).map (fun i => (i.zero, i.size, i.bytes)) = some (some z, 1, bytes)) (hz0 : z.cells.size = 1) (h : RRow t 1 enc B w v xs) (hB : B ≤ w.heap.size) (h2 : Lies f w v2 ys) (hl : xs.length + ys.length ≤ maxLen) (hby : (xs.length + ys.length) * bytes ≤ 140737488355328) :
    ∃ a' n' c' w', (∀ ty, (Builtin.append_ #[ts, ts] ty #[v, v2]).run Tryz.prog w = .ok (.slice a' n' c') w') ∧ RRow t 1 enc B w' (.slice a' n' c') (xs ++ ys) ∧ Turned (fun b => v.ownBlock = some b) w w' ∧ ∀ b, (Value.slice a' n' c').ownBlock = some b → v.ownBlock = some b ∨ w.heap.size ≤ b := by
  obtain ⟨a2, c2, rfl, h3, h4, h5⟩ := h2; rcases h5 with rfl | ⟨b, off, rfl, hc⟩
  · obtain ⟨a, c, rfl, hlc⟩ := rrow_room h; exact ⟨a, _, c, w, fun ty => run_append_nil hu hinfo w a _ c hlc a2 c2 ty, by rw [List.append_nil]; exact h, Turned.refl _ _, fun b e => .inl e⟩
  · obtain ⟨i, hi, hz, hsz, hb⟩ := info_parts hinfo; have hcell : ∀ j u, (ys.flatMap enc)[j]? = some u → w.cell? ((⟨b, off, none⟩ : Addr).add j) = some u := by
      intro j u hj; have hjl : j < ys.length := by have := (List.getElem?_eq_some_iff.1 hj).1; rw [flat_len K, Nat.mul_one] at this; exact this
      have h1 : (ys.flatMap enc)[j]? = some (f ys[j]) := by
        have := flat_at K (List.getElem?_eq_getElem hjl) (j := 0) (by omega)
        rw [Nat.mul_one, Nat.add_zero, hf] at this; rw [this]; rfl
      rw [hj] at h1
      cases h1
      rw [add_off13]; exact hc j _ (List.getElem?_eq_getElem hjl)
    obtain ⟨v', w', hr, g1, g2, -, g5⟩ := run_append_own_at (P := Tryz.prog) w B ts 0 t i _ 1 bytes hu hi hz hsz hb hz0 K.pos v xs.length (xs.flatMap enc) h ⟨b, off, none⟩ ys.length c2 (ys.flatMap enc) (flat_len K ys) hcell (flat_one K ys) hl hby hB; have e2 : xs.length + ys.length = (xs ++ ys).length := by simp
    rw [← List.flatMap_append, e2] at g1; have g1' : RRow t 1 enc B w' v' (xs ++ ys) := g1; obtain ⟨a', c', e⟩ := rrow_shape g1'; subst e; refine ⟨a', _, c', w', fun ty => hr, g1', ⟨g2.os, g2.tape, g2.output, g2.size, fun k hk hn => g2.block k hk (fun e => hn e.symm)⟩, fun b eb => ?_⟩
    rcases g5 with q | q
    · exact .inl (by rw [← q]; exact eb)
    · have eb2 := Option.some.inj (q.symm.trans eb); exact .inr (by omega)
abbrev run_appBs {B : Nat} {w : World} {v v2 : Value} {xs ys : List Nat} (h : ByRow B w v xs) (hB : B ≤ w.heap.size) (h2 : Lies u8v w v2 ys) (hl : xs.length + ys.length ≤ 140737488355328) :=
  run_appL (ts := 23) kitB (f := u8v) (fun _ => rfl) Tryz.underlying23 infoB rfl h hB h2 (by unfold maxLen; omega) (by omega)
theorem run_app1B {B : Nat} {w : World} {v : Value} {xs : List Nat} (y : Nat) (h : ByRow B w v xs) (hB : B ≤ w.heap.size) (hl : xs.length < 1000000) :
    ∃ a' n' c' w', (∀ ty, (Builtin.append_ #[23, 23] ty #[v, .slice (some ⟨w.heap.size, 0, none⟩) 1 1]).run Tryz.prog (w.alloc (.cells #[.int .u8 (y : Nat)] 5)) = .ok (.slice a' n' c') w') ∧ ByRow B w' (.slice a' n' c') (xs ++ [y]) ∧ Turned (fun b => v.ownBlock = some b) w w' ∧ ∀ b, (Value.slice a' n' c').ownBlock = some b → v.ownBlock = some b ∨ w.heap.size ≤ b :=
  run_app1 kitB Tryz.underlying23 infoB rfl (by omega) y rfl h hB hl
end W16

namespace W16
def nbF : Nat → Nat → List Nat
  | 0, n => [n]
  | k + 1, n => if n < 128 then [n] else (n % 128 + 128) :: nbF k (n / 128)
theorem nbF_fuel : ∀ (k j n : Nat), n ≤ k → n ≤ j → nbF k n = nbF j n
  | 0, 0, _, _, _ => rfl
  | 0, j + 1, n, h, _ => by
    obtain rfl : n = 0 := by omega
    rfl
  | k + 1, 0, n, _, h => by
    obtain rfl : n = 0 := by omega
    rfl
  | k + 1, j + 1, n, h1, h2 => by
    unfold nbF
    by_cases h : n < 128
    · rw [if_pos h, if_pos h]
    · rw [if_neg h, if_neg h, nbF_fuel k j (n / 128) (by omega) (by omega)]
def nb (n : Nat) : List Nat := nbF n n
theorem nb_lt {n : Nat} (h : n < 128) : nb n = [n] := by
  unfold nb
  cases n with
  | zero => rfl
  | succ m => unfold nbF; rw [if_pos h]
theorem nb_ge {n : Nat} (h : ¬ n < 128) : nb n = (n % 128 + 128) :: nb (n / 128) := by
  cases n with
  | zero => omega
  | succ m =>
    show nbF (m + 1) (m + 1) = _; unfold nbF; rw [if_neg h]; exact congrArg (List.cons _) (nbF_fuel _ _ _ (by omega) (Nat.le_refl _))
theorem nb_pos (n : Nat) : 0 < (nb n).length := by
  by_cases h : n < 128
  · rw [nb_lt h]; simp
  · rw [nb_ge h]; simp
theorem nb_byte : ∀ (n : Nat), ∀ x ∈ nb n, x < 256 := by
  intro n
  induction n using Nat.strongRecOn with
  | _ n ih =>
    intro x hx
    by_cases h : n < 128
    · rw [nb_lt h] at hx; simp at hx; omega
    · rw [nb_ge h] at hx; rcases List.mem_cons.1 hx with rfl | hx
      · omega
      · exact ih (n / 128) (by omega) x hx
theorem nb_len : ∀ (k n : Nat), n < 128 ^ (k + 1) → (nb n).length ≤ k + 1
  | 0, n, h => by rw [nb_lt (by simpa using h)]; simp
  | k + 1, n, h => by
    by_cases h1 : n < 128
    · rw [nb_lt h1]; simp
    · rw [nb_ge h1, List.length_cons]; have := nb_len k (n / 128) (by rw [Nat.pow_succ] at h; exact Nat.div_lt_of_lt_mul (by omega))
      omega
def bb (u : Nat) : List Nat := [u % 256, u / 256 % 256, u / 65536 % 256, u / 16777216 % 256]
def bv (x0 x1 x2 x3 : Nat) : Nat := x0 + x1 * 256 + x2 * 65536 + x3 * 16777216
theorem bb_bv {x0 x1 x2 x3 : Nat} (h0 : x0 < 256) (h1 : x1 < 256) (h2 : x2 < 256) (h3 : x3 < 256) : bb (bv x0 x1 x2 x3) = [x0, x1, x2, x3] := by
  unfold bb bv; rw [show (x0 + x1 * 256 + x2 * 65536 + x3 * 16777216) % 256 = x0 by omega, show (x0 + x1 * 256 + x2 * 65536 + x3 * 16777216) / 256 % 256 = x1 by omega, show (x0 + x1 * 256 + x2 * 65536 + x3 * 16777216) / 65536 % 256 = x2 by omega, show (x0 + x1 * 256 + x2 * 65536 + x3 * 16777216) / 16777216 % 256 = x3 by omega]
theorem bv_bb {u : Nat} (h : u < 4294967296) : bv (u % 256) (u / 256 % 256) (u / 65536 % 256) (u / 16777216 % 256) = u := by unfold bv; omega
abbrev WtV := Int × Int × Nat × List Int
def Good (x : WtV) : Prop := x.2.2.2.length ≤ 1024 ∧ (0 ≤ x.1 ∧ x.1 ≤ 2147483647) ∧ (0 ≤ x.2.1 ∧ x.2.1 ≤ 2147483647) ∧ x.2.2.1 < 4294967296 ∧ ∀ e ∈ x.2.2.2, 1 ≤ e ∧ e ≤ 1024
def encEs (es : List Int) : List Nat := es.flatMap (fun e => nb e.toNat)
def encWt (x : WtV) : List Nat := 183 :: (nb x.1.toNat ++ (nb x.2.1.toNat ++ (bb x.2.2.1 ++ (nb x.2.2.2.length ++ encEs x.2.2.2))))
def rangeB (x : WtV) : Bool := (decide (0 ≤ x.1 ∧ x.1 ≤ 2147483647) && decide (0 ≤ x.2.1 ∧ x.2.1 ≤ 2147483647)) && x.2.2.2.all (fun e => decide (1 ≤ e ∧ e ≤ 1024))
def errC (x : WtV) : Int := if 1024 < x.2.2.2.length then 3 else if rangeB x = true then 0 else 1
theorem good_of {x : WtV} (h : errC x = 0) (hu : x.2.2.1 < 4294967296) : Good x := by
  unfold errC at h
  by_cases h1 : 1024 < x.2.2.2.length
  · rw [if_pos h1] at h; omega
  · rw [if_neg h1] at h
    by_cases h2 : rangeB x = true
    · unfold rangeB at h2; simp only [Bool.and_eq_true, decide_eq_true_eq, List.all_eq_true] at h2; exact ⟨by omega, h2.1.1, h2.1.2, hu, h2.2⟩
    · rw [if_neg h2] at h; omega
theorem errC_good {x : WtV} (h : Good x) : errC x = 0 := by
  obtain ⟨h1, h2, h3, -, h4⟩ := h; unfold errC; rw [if_neg (by omega), if_pos]
  unfold rangeB; simp only [Bool.and_eq_true, decide_eq_true_eq, List.all_eq_true]; exact ⟨⟨h2, h3⟩, h4⟩
theorem encEs_cons (e : Int) (es : List Int) : encEs (e :: es) = nb e.toNat ++ encEs es := by simp [encEs]
theorem encEs_append (a b : List Int) : encEs (a ++ b) = encEs a ++ encEs b := by simp [encEs]
theorem encEs_nil {es : List Int} (h : encEs es = []) : es = [] := by
  cases es with
  | nil => rfl
  | cons e es =>
    rw [encEs_cons] at h; have := nb_pos e.toNat; have h2 := congrArg List.length h; simp only [List.length_append, List.length_nil] at h2; omega
def rdN (lo hi : Nat) : Nat → Nat → List Nat → Option (Nat × List Nat)
  | _, _, [] => none
  | n, s, x :: t => if hi / 2 ^ s < x % 128 then none else if 128 ≤ x then rdN lo hi (n + x % 128 * 2 ^ s) (s + 7) t
    else if (x = 0 ∧ 0 < s) ∨ n + x % 128 * 2 ^ s < lo ∨ hi < n + x % 128 * 2 ^ s then none else some (n + x % 128 * 2 ^ s, t)
theorem rdN_nb (lo hi : Nat) (t : List Nat) : ∀ (m n s : Nat), n + m * 2 ^ s ≤ hi → lo ≤ n + m * 2 ^ s → (0 < s → 0 < m) → rdN lo hi n s (nb m ++ t) = some (n + m * 2 ^ s, t) := by
  intro m
  induction m using Nat.strongRecOn with
  | _ m ih =>
    intro n s h1 h2 h3; have hp : 0 < 2 ^ s := Nat.two_pow_pos s
    by_cases h : m < 128
    · rw [nb_lt h, List.singleton_append, rdN, show m % 128 = m by omega, if_neg, if_neg (by omega), if_neg (by omega)]
      exact Nat.not_lt.2 ((Nat.le_div_iff_mul_le hp).2 (by omega))
    · have e : m % 128 * 2 ^ s + m / 128 * 2 ^ (s + 7) = m * 2 ^ s := by
        rw [Nat.pow_add, show m / 128 * (2 ^ s * 2 ^ 7) = m / 128 * 128 * 2 ^ s by rw [show (2 : Nat) ^ 7 = 128 from rfl]; rw [Nat.mul_comm (2 ^ s) 128, ← Nat.mul_assoc], ← Nat.add_mul, show m % 128 + m / 128 * 128 = m by omega]
      have h5 : m % 128 * 2 ^ s ≤ m * 2 ^ s := Nat.mul_le_mul_right _ (by omega)
      rw [nb_ge h, List.cons_append, rdN, show (m % 128 + 128) % 128 = m % 128 by omega, if_neg (Nat.not_lt.2 ((Nat.le_div_iff_mul_le hp).2 (by omega))), if_pos (by omega), ih (m / 128) (by omega) _ _ (by omega) (by omega) (by omega)]
      rw [show n + m % 128 * 2 ^ s + m / 128 * 2 ^ (s + 7) = n + m * 2 ^ s by omega]
theorem rdN_some (lo hi : Nat) : ∀ (bs : List Nat) (n s r : Nat) (t : List Nat), (∀ x ∈ bs, x < 256) → rdN lo hi n s bs = some (r, t) → ∃ m, bs = nb m ++ t ∧ r = n + m * 2 ^ s ∧ lo ≤ r ∧ r ≤ hi ∧ (0 < s → 0 < m)
  | [], n, s, r, t, _, h => by cases h
  | x :: bs, n, s, r, t, hb, h => by
    have hx := hb x (by simp)
    rw [rdN] at h
    by_cases h1 : hi / 2 ^ s < x % 128
    · rw [if_pos h1] at h; cases h
    · rw [if_neg h1] at h
      by_cases h2 : 128 ≤ x
      · rw [if_pos h2] at h; obtain ⟨m, e1, e2, e3, e4, e5⟩ := rdN_some lo hi bs _ _ r t (fun y hy => hb y (by simp [hy])) h
        have hm : 0 < m := e5 (by omega)
        refine ⟨x % 128 + 128 * m, ?_, ?_, e3, e4, fun _ => by omega⟩
        · rw [nb_ge (by omega), show (x % 128 + 128 * m) % 128 + 128 = x by omega, show (x % 128 + 128 * m) / 128 = m by omega, e1]; rfl
        · rw [e2, Nat.pow_add, Nat.add_mul, show (2 : Nat) ^ 7 = 128 from rfl, show m * (2 ^ s * 128) = 128 * m * 2 ^ s by rw [Nat.mul_comm (2 ^ s) 128, ← Nat.mul_assoc, Nat.mul_comm m 128]]; omega
      · rw [if_neg h2] at h
        by_cases h3 : (x = 0 ∧ 0 < s) ∨ n + x % 128 * 2 ^ s < lo ∨ hi < n + x % 128 * 2 ^ s
        · rw [if_pos h3] at h; cases h
        · rw [if_neg h3] at h; injection h with h
          injection h with h4 h5
          subst h4 h5; rw [show x % 128 = x by omega] at h3 ⊢
          exact ⟨x, by rw [nb_lt (by omega)]; rfl, rfl, by omega, by omega, fun hs => by omega⟩
def rdE : Nat → List Nat → Option (List Int × List Nat)
  | 0, t => some ([], t)
  | k + 1, t => (rdN 1 1024 0 0 t).bind fun p => (rdE k p.2).map fun q => ((p.1 : Int) :: q.1, q.2)
def rdB : List Nat → Option (Nat × List Nat)
  | x0 :: x1 :: x2 :: x3 :: t => some (bv x0 x1 x2 x3, t)
  | _ => none
def dec : List Nat → Option WtV
  | [] => none
  | x :: t => if x = 183 then (rdN 0 2147483647 0 0 t).bind fun p => (rdN 0 2147483647 0 0 p.2).bind fun q => (rdB q.2).bind fun u => (rdN 0 1024 0 0 u.2).bind fun k => (rdE k.1 k.2).bind fun z =>
      if z.2 = [] then some ((p.1 : Int), (q.1 : Int), u.1, z.1) else none
    else none
theorem rdN0 {lo hi m : Nat} (t : List Nat) (h1 : lo ≤ m) (h2 : m ≤ hi) : rdN lo hi 0 0 (nb m ++ t) = some (m, t) := by
  rw [rdN_nb lo hi t m 0 0 (by omega) (by omega) (by omega)]; simp
theorem rdN0_some {lo hi : Nat} {bs : List Nat} {r : Nat} {t : List Nat} (hb : ∀ x ∈ bs, x < 256) (h : rdN lo hi 0 0 bs = some (r, t)) : bs = nb r ++ t ∧ lo ≤ r ∧ r ≤ hi := by
  obtain ⟨m, e1, e2, e3, e4, -⟩ := rdN_some lo hi bs 0 0 r t hb h; obtain rfl : r = m := by simpa using e2
  exact ⟨e1, e3, e4⟩
theorem rdE_enc : ∀ (es : List Int) (t : List Nat), (∀ e ∈ es, 1 ≤ e ∧ e ≤ 1024) → rdE es.length (encEs es ++ t) = some (es, t)
  | [], t, _ => rfl
  | e :: es, t, h => by
    have h1 := h e (by simp)
    rw [encEs_cons, List.append_assoc, List.length_cons, rdE, rdN0 _ (by omega) (by omega)]
    simp only [Option.bind_some]; rw [rdE_enc es t (fun x hx => h x (by simp [hx]))]
    simp only [Option.map_some, Option.some.injEq, Prod.mk.injEq, and_true, List.cons.injEq]; omega
theorem rdE_some : ∀ (k : Nat) (bs : List Nat) (es : List Int) (t : List Nat), (∀ x ∈ bs, x < 256) → rdE k bs = some (es, t) → es.length = k ∧ bs = encEs es ++ t ∧ ∀ e ∈ es, 1 ≤ e ∧ e ≤ 1024
  | 0, bs, es, t, _, h => by
    injection h with h; injection h with h1 h2; subst h1 h2; exact ⟨rfl, rfl, fun e he => by cases he⟩
  | k + 1, bs, es, t, hb, h => by
    rw [rdE] at h
    cases h1 : rdN 1 1024 0 0 bs with
    | none => rw [h1] at h; cases h
    | some p =>
      obtain ⟨r, t1⟩ := p; rw [h1] at h; simp only [Option.bind_some] at h; obtain ⟨e1, e2, e3⟩ := rdN0_some hb h1
      cases h2 : rdE k t1 with
      | none => rw [h2] at h; cases h
      | some q =>
        obtain ⟨es1, t2⟩ := q; rw [h2] at h; simp only [Option.map_some, Option.some.injEq, Prod.mk.injEq] at h; obtain ⟨rfl, rfl⟩ := h; obtain ⟨g1, g2, g3⟩ := rdE_some k t1 es1 t2 (fun x hx => hb x (by rw [e1]; simp [hx])) h2
        refine ⟨by simp [g1], by rw [encEs_cons, Int.toNat_natCast, List.append_assoc, ← g2]; exact e1, fun e he => ?_⟩
        rcases List.mem_cons.1 he with rfl | he
        · omega
        · exact g3 e he
theorem rdB_bb {u : Nat} (h : u < 4294967296) (t : List Nat) : rdB (bb u ++ t) = some (u, t) := by
  show some (bv _ _ _ _, t) = _; rw [bv_bb h]
theorem rdB_some {bs t : List Nat} {u : Nat} (hb : ∀ x ∈ bs, x < 256) (h : rdB bs = some (u, t)) : bs = bb u ++ t ∧ u < 4294967296 := by
  match bs, h with
  | x0 :: x1 :: x2 :: x3 :: t', h =>
    injection h with h; injection h with h1 h2; subst h1 h2
    have h0 := hb x0 (by simp); have h1 := hb x1 (by simp); have h2 := hb x2 (by simp); have h3 := hb x3 (by simp)
    exact ⟨by rw [bb_bv h0 h1 h2 h3]; rfl, by unfold bv; omega⟩
theorem dec_enc {x : WtV} (h : Good x) : dec (encWt x) = some x := by
  obtain ⟨F, T, u, es⟩ := x; obtain ⟨h1, h2, h3, h4, h5⟩ := h; simp only at h1 h2 h3 h4 h5; unfold encWt dec; simp only [if_true]; rw [rdN0 _ (by omega) (by omega)]
  simp only [Option.bind_some]; rw [rdN0 _ (by omega) (by omega)]
  simp only [Option.bind_some]; rw [rdB_bb h4]; simp only [Option.bind_some]; rw [rdN0 _ (by omega) (by omega)]
  simp only [Option.bind_some]; have := rdE_enc es [] h5; rw [List.append_nil] at this; rw [this]; simp only [Option.bind_some, if_true, Option.some.injEq, Prod.mk.injEq, and_true]; omega
theorem dec_some {bs : List Nat} {x : WtV} (hb : ∀ y ∈ bs, y < 256) (h : dec bs = some x) : Good x ∧ encWt x = bs := by
  match bs, hb, h with
  | y :: t, hb, h =>
    rw [dec] at h
    by_cases hy : y = 183
    · rw [if_pos hy] at h; have hb1 : ∀ z ∈ t, z < 256 := fun z hz => hb z (by simp [hz])
      cases e1 : rdN 0 2147483647 0 0 t with
      | none => rw [e1] at h; cases h
      | some p =>
        obtain ⟨F, t1⟩ := p; rw [e1] at h; simp only [Option.bind_some] at h; obtain ⟨g1, -, g2⟩ := rdN0_some hb1 e1; have hb2 : ∀ z ∈ t1, z < 256 := fun z hz => hb1 z (by rw [g1]; simp [hz])
        cases e2 : rdN 0 2147483647 0 0 t1 with
        | none => rw [e2] at h; cases h
        | some p =>
          obtain ⟨T, t2⟩ := p; rw [e2] at h; simp only [Option.bind_some] at h; obtain ⟨g3, -, g4⟩ := rdN0_some hb2 e2; have hb3 : ∀ z ∈ t2, z < 256 := fun z hz => hb2 z (by rw [g3]; simp [hz])
          cases e3 : rdB t2 with
          | none => rw [e3] at h; cases h
          | some p =>
            obtain ⟨u, t3⟩ := p; rw [e3] at h; simp only [Option.bind_some] at h; obtain ⟨g5, g6⟩ := rdB_some hb3 e3; have hb4 : ∀ z ∈ t3, z < 256 := fun z hz => hb3 z (by rw [g5]; simp [hz])
            cases e4 : rdN 0 1024 0 0 t3 with
            | none => rw [e4] at h; cases h
            | some p =>
              obtain ⟨k, t4⟩ := p; rw [e4] at h; simp only [Option.bind_some] at h; obtain ⟨g7, -, g8⟩ := rdN0_some hb4 e4; have hb5 : ∀ z ∈ t4, z < 256 := fun z hz => hb4 z (by rw [g7]; simp [hz])
              cases e5 : rdE k t4 with
              | none => rw [e5] at h; cases h
              | some p =>
                obtain ⟨es, t5⟩ := p; rw [e5] at h; simp only [Option.bind_some] at h; obtain ⟨g9, g10, g11⟩ := rdE_some k t4 es t5 hb5 e5
                by_cases h0 : t5 = []
                · rw [if_pos h0] at h; injection h with h
                  subst h h0 g9; refine ⟨⟨by simp; omega, ⟨by simp, by simp; omega⟩, ⟨by simp, by simp; omega⟩, g6, g11⟩, ?_⟩
                  unfold encWt; simp only [Int.toNat_natCast]; rw [List.append_nil] at g10; rw [← g10, ← g7, ← g5, ← g3, ← g1, hy]
                · rw [if_neg h0] at h; cases h
    · rw [if_neg hy] at h; cases h
theorem encEs_len : ∀ (es : List Int), (∀ e ∈ es, 1 ≤ e ∧ e ≤ 1024) → (encEs es).length ≤ es.length * 2
  | [], _ => by simp [encEs]
  | e :: es, h => by
    have h1 := h e (by simp)
    rw [encEs_cons, List.length_append, List.length_cons]; have := encEs_len es (fun x hx => h x (by simp [hx]))
    have := nb_len 1 e.toNat (by simp; omega)
    omega
theorem enc_len {x : WtV} (h : Good x) : (encWt x).length ≤ 4000 := by
  obtain ⟨F, T, u, es⟩ := x; obtain ⟨h1, h2, h3, h4, h5⟩ := h; simp only at h1 h2 h3 h4 h5; have a := nb_len 4 F.toNat (by simp; omega)
  have b := nb_len 4 T.toNat (by simp; omega)
  have c := nb_len 1 es.length (by simp; omega)
  have d := encEs_len es h5; simp only [encWt, List.length_cons, List.length_append, bb, List.length_nil]; omega
theorem encEs_byte (es : List Int) : ∀ x ∈ encEs es, x < 256 := by
  intro x hx; simp only [encEs, List.mem_flatMap] at hx; obtain ⟨e, -, hx⟩ := hx; exact nb_byte _ x hx
theorem enc_byte (x : WtV) : ∀ y ∈ encWt x, y < 256 := by
  intro y hy; simp only [encWt, List.mem_cons, List.mem_append, bb, List.not_mem_nil, or_false] at hy; rcases hy with rfl | h | h | (rfl | rfl | rfl | rfl) | h | h
  · omega
  · exact nb_byte _ y h
  · exact nb_byte _ y h
  · omega
  · omega
  · omega
  · omega
  · exact nb_byte _ y h
  · exact encEs_byte _ y h
end W16

end Go.Proofs.YtagibmgbjhemkaaGreat
