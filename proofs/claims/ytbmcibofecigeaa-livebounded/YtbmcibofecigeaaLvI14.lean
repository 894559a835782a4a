/- A live tree of a graph; vertices come and go. -/
import Derived.Test.YtbmcibofecigeaaAtF
import Derived.Test.YtbmcibofecigeaaWCost
import Derived.Test.YtbmcibofecigeaaLiveF
import Derived.Test.YtbmcibofecigeaaLvC14
import Derived.Test.YtbmcibofecigeaaLvU14
namespace Go.Proofs.Ytbmcibofecigeaa

section
open Go.RowKit Go.Maps
/-- How a record lies: so many cells, each of one value. -/
structure Kit (X : Type) (k : Nat) (enc : X → List Value) : Prop where
  pos : 0 < k
  len : ∀ x, (enc x).length = k
  one : ∀ x, ∀ v ∈ enc x, v.oneCell' = true
abbrev RRow {X : Type} (t : TypeId) (k : Nat) (enc : X → List Value) (B : Nat) (w : World) (v : Value) (xs : List X) : Prop := w.ownsRow B t k v xs.length (xs.flatMap enc)
section
variable {X : Type} {t : TypeId} {k : Nat} {enc : X → List Value} {B : Nat} {w w' : World} {v : Value} {xs : List X}
theorem flat_len (K : Kit X k enc) : ∀ xs : List X, (xs.flatMap enc).length = xs.length * k
  | [] => by simp
  | x :: xs => by rw [List.flatMap_cons, List.length_append, K.len, flat_len K xs, List.length_cons, Nat.add_mul]; omega
theorem flat_at (K : Kit X k enc) : ∀ {xs : List X} {i : Nat} {x : X}, xs[i]? = some x → ∀ {j : Nat}, j < k → (xs.flatMap enc)[i * k + j]? = (enc x)[j]?
  | [], i, x, h, j, _ => by simp at h
  | y :: xs, 0, x, h, j, hj => by
    injection h with h
    subst h
    rw [List.flatMap_cons, Nat.zero_mul, Nat.zero_add, List.getElem?_append_left (by rw [K.len]; exact hj)]
  | y :: xs, i + 1, x, h, j, hj => by
    rw [List.flatMap_cons, List.getElem?_append_right (by rw [K.len, Nat.add_mul]; omega), K.len, show (i + 1) * k + j - k = i * k + j by rw [Nat.add_mul]; omega]
    exact flat_at K (by simpa using h) hj
theorem flat_one (K : Kit X k enc) (xs : List X) : ∀ v ∈ xs.flatMap enc, v.oneCell' = true := fun v hv => by
  obtain ⟨x, -, h⟩ := List.mem_flatMap.1 hv
  exact K.one x v h
theorem rrow_kept (h : RRow t k enc B w v xs) (hk : ∀ b, v.ownBlock = some b → w'.heap[b]? = w.heap[b]?) : RRow t k enc B w' v xs := by
  refine ⟨h.1, ?_⟩
  rcases h.2 with hn | ⟨g, cap, cur, e, hb, hgg, rest⟩
  · exact .inl hn
  · exact .inr ⟨g, cap, cur, e, hb, (hk g (by rw [e]; rfl)).trans hgg, rest⟩
theorem rrow_below (h : RRow t k enc B w v xs) (hb : Below w.heap.size w w') : RRow t k enc B w' v xs := rrow_kept h (fun b e => hb.block b (h.lt b e).2)
theorem rrow_low {B' : Nat} (h : RRow t k enc B' w v xs) (hb : B ≤ B') : RRow t k enc B w v xs := ⟨h.1, h.2.imp id (fun ⟨g, cap, cur, e, q, r⟩ => ⟨g, cap, cur, e, Nat.le_trans hb q, r⟩)⟩
theorem rrow_shape (h : RRow t k enc B w v xs) : ∃ a c, v = .slice a xs.length c := by
  rcases h.2 with ⟨e, h0⟩ | ⟨g', cap, cur, e, -⟩
  · exact ⟨none, 0, by rw [h0]; exact e⟩
  · exact ⟨_, _, e⟩
theorem rrow_len {a : Option Addr} {n c : Nat} (h : RRow t k enc B w (.slice a n c) xs) : n = xs.length := by
  obtain ⟨a', c', e⟩ := rrow_shape h
  injection e
theorem rrow_some {a : Option Addr} {n c : Nat} (h : RRow t k enc B w (.slice a n c) xs) (h0 : 0 < xs.length) : ∃ g, a = some ⟨g, 0, none⟩ := by
  rcases h.2 with ⟨e, h1⟩ | ⟨g', cap, cur, e, -⟩
  · omega
  · injection e with e1; exact ⟨g', e1⟩
theorem add_off13 (b off j : Nat) : (⟨b, off, none⟩ : Addr).add j = ⟨b, off + j, none⟩ := by
  unfold Addr.add; split <;> simp_all
theorem rrow_at (K : Kit X k enc) {g n c : Nat} (h : RRow t k enc B w (.slice (some ⟨g, 0, none⟩) n c) xs) {i : Nat} {x : X} (hi : xs[i]? = some x) {j : Nat} {u : Value} (hj : (enc x)[j]? = some u) : w.cell? ⟨g, i * k + j, none⟩ = some u := by
  have hjk : j < k := by have := (List.getElem?_eq_some_iff.1 hj).1; rw [K.len] at this; exact this
  have := h.cells (g := g) rfl _ _ ((flat_at K hi hjk).trans hj)
  rwa [add_off13, Nat.zero_add] at this
theorem rrow_frozen {g n c : Nat} (h : RRow t k enc B w (.slice (some ⟨g, 0, none⟩) n c) xs) (h0 : 0 < xs.length) : ∀ o, w.frozen? ⟨g, o, none⟩ = false := by
  rcases h.2 with ⟨e, h1⟩ | ⟨g', cap, cur, e, -, hh, -⟩
  · omega
  · injection e with e1
    injection e1 with e1
    injection e1 with e1
    subst e1
    exact fun o => frozen_of_row _ _ o _ _ hh
theorem flat_set (K : Kit X k enc) : ∀ {xs : List X} {i : Nat} {x x' : X} {j : Nat} {u : Value}, xs[i]? = some x → j < k → enc x' = (enc x).set j u → (xs.set i x').flatMap enc = (xs.flatMap enc).set (i * k + j) u
  | [], i, x, x', j, u, h, _, _ => by simp at h
  | y :: xs, 0, x, x', j, u, h, hj, e => by
    injection h with h
    subst h
    rw [List.set_cons_zero, List.flatMap_cons, List.flatMap_cons, Nat.zero_mul, Nat.zero_add, List.set_append_left _ _ (by rw [K.len]; exact hj), e]
  | y :: xs, i + 1, x, x', j, u, h, hj, e => by
    rw [List.set_cons_succ, List.flatMap_cons, List.flatMap_cons, List.set_append_right _ _ (by rw [K.len, Nat.add_mul]; omega), K.len, show (i + 1) * k + j - k = i * k + j by rw [Nat.add_mul]; omega, flat_set K (by simpa using h) hj e]
/-- One cell of a record, written. -/
theorem rrow_set (K : Kit X k enc) {g n c : Nat} (h : RRow t k enc B w (.slice (some ⟨g, 0, none⟩) n c) xs) {i : Nat} {x x' : X} (hi : xs[i]? = some x) {j : Nat} (hj : j < k) {u : Value} (e : enc x' = (enc x).set j u) : RRow t k enc B (w.setCell ⟨g, i * k + j, none⟩ u) (.slice (some ⟨g, 0, none⟩) n c) (xs.set i x') := by
  have hn := rrow_len h
  subst hn
  have h1 := (World.ownsRow.stored h (i * k + j) u).1
  show World.ownsRow _ _ _ _ _ _ _
  rw [flat_set K hi hj e, List.length_set]
  exact h1
theorem rrow_take (K : Kit X k enc) {g n c : Nat} (h : RRow t k enc B w (.slice (some ⟨g, 0, none⟩) n c) xs) {m : Nat} (hm : m ≤ n) : RRow t k enc B w (.slice (some ⟨g, 0, none⟩) m c) (xs.take m) := by
  have hn := rrow_len h
  obtain ⟨h1, h2⟩ := h
  rcases h2 with ⟨e, -⟩ | ⟨g', cap, cur, e, hb, hh, h3, h4, h5, h6⟩
  · cases e
  · injection e with e1 e2 e3
    injection e1 with e1
    injection e1 with e1
    subst e1 e2 e3
    have hl : (xs.take m).length = m := by rw [List.length_take]; omega
    have e : ∀ (ys : List X) (m : Nat), (ys.take m).flatMap enc = (ys.flatMap enc).take (m * k) := by
      intro ys
      induction ys with
      | nil => intro m; simp
      | cons y ys ih =>
        intro m
        cases m with
        | zero => simp
        | succ m => 
          have e0 : (enc y).take ((m + 1) * k) = enc y := List.take_of_length_le (by rw [K.len, Nat.add_mul]; omega)
          rw [List.take_succ_cons, List.flatMap_cons, List.flatMap_cons, ih m, List.take_append, K.len, e0, show (m + 1) * k - k = m * k by rw [Nat.add_mul]; omega]
    refine ⟨by rw [flat_len K], .inr ⟨g, c, cur, by rw [hl], hb, hh, by rw [hl]; omega, h4, h5, ?_⟩⟩
    rw [hl, e, ← h6, List.take_take, Nat.min_eq_left (Nat.mul_le_mul_right k hm)]
/-- Records appended from wherever they lie. -/
theorem run_appR (K : Kit X k enc) {ts : TypeId} {z : Value} {bytes : Nat} (hu : Try.prog.underlying ts = some (.slice t)) (hinfo : (Try.prog.info? t).map (fun i => (i.zero, i.size, i.bytes)) = some (some z, k, bytes)) (hz0 : z.cells.size = k) (hby : bytes ≤ 1000) {ys : List X} {ad : Addr} {c : Nat} (h : RRow t k enc B w v xs) (hB : B ≤ w.heap.size) (hcell : ∀ j u, (ys.flatMap enc)[j]? = some u → w.cell? (ad.add j) = some u) (hl : xs.length + ys.length ≤ 1000000) :
    ∃ a' n' c' w', (∀ ty, (Builtin.append_ #[ts, ts] ty #[v, .slice (some ad) ys.length c]).run Try.prog w = .ok (.slice a' n' c') w') ∧ RRow t k enc B w' (.slice a' n' c') (xs ++ ys) ∧ Turned (fun b => v.ownBlock = some b) w w' ∧ ∀ b, (Value.slice a' n' c').ownBlock = some b → v.ownBlock = some b ∨ w.heap.size ≤ b := by
  obtain ⟨i, hi, hz, hsz, hb⟩ := info_parts hinfo
  have hmul : (xs.length + ys.length) * bytes ≤ 1000000 * 1000 := Nat.mul_le_mul hl hby
  obtain ⟨v', w', hr, g1, g2, -, g5⟩ := run_append_own_at (P := Try.prog) w B ts 0 t i _ k bytes hu hi hz hsz hb hz0 K.pos v xs.length (xs.flatMap enc) h ad ys.length c (ys.flatMap enc) (flat_len K ys) hcell (flat_one K ys) (by unfold maxLen; omega) (by omega) hB
  have e2 : xs.length + ys.length = (xs ++ ys).length := by simp
  rw [← List.flatMap_append, e2] at g1
  have g1' : RRow t k enc B w' v' (xs ++ ys) := g1
  obtain ⟨a', c', e⟩ := rrow_shape g1'
  subst e
  refine ⟨a', _, c', w', fun ty => hr, g1', ⟨g2.os, g2.tape, g2.output, g2.size, fun k hk hn => g2.block k hk (fun e => hn e.symm)⟩, fun b eb => ?_⟩
  rcases g5 with q | q
  · exact .inl (by rw [← q]; exact eb)
  · have eb2 := Option.some.inj (q.symm.trans eb); exact .inr (by omega)
/-- One record, out of a block of its own. -/
theorem run_app1 (K : Kit X k enc) {ts : TypeId} {z : Value} {bytes : Nat} (hu : Try.prog.underlying ts = some (.slice t)) (hinfo : (Try.prog.info? t).map (fun i => (i.zero, i.size, i.bytes)) = some (some z, k, bytes)) (hz0 : z.cells.size = k) (hby : bytes ≤ 1000) (y : X) {cs : Array Value} (hcs : cs.toList = enc y) (h : RRow t k enc B w v xs) (hB : B ≤ w.heap.size) (hl : xs.length < 1000000) :
    ∃ a' n' c' w', (∀ ty, (Builtin.append_ #[ts, ts] ty #[v, .slice (some ⟨w.heap.size, 0, none⟩) 1 1]).run Try.prog (w.alloc (.cells cs t)) = .ok (.slice a' n' c') w') ∧ RRow t k enc B w' (.slice a' n' c') (xs ++ [y]) ∧ Turned (fun b => v.ownBlock = some b) w w' ∧ ∀ b, (Value.slice a' n' c').ownBlock = some b → v.ownBlock = some b ∨ w.heap.size ≤ b := by
  have hb := below_new w (.cells cs t)
  have hs := hb.size
  obtain ⟨a', n', c', w', r, g1, g2, g3⟩ := run_appR (ad := ⟨w.heap.size, 0, none⟩) (c := 1) (ys := [y]) K hu hinfo hz0 hby (rrow_below h hb) (by omega) (fun j u hj => by
    rw [add_off13, Nat.zero_add, cell_of_row _ _ j _ _ (0, 0) (heap_alloc_new w (.cells cs t))]
    rw [List.flatMap_cons, List.flatMap_nil, List.append_nil, ← hcs] at hj
    rw [← hj]; simp) (by simp; omega)
  exact ⟨a', n', c', w', r, g1, ⟨g2.os.trans hb.os, g2.tape.trans hb.tape, g2.output.trans hb.output, Nat.le_trans hs g2.size, fun k h1 hk => (g2.block k (by omega) hk).trans (hb.block k h1)⟩, fun b e => (g3 b e).imp id (fun q => by omega)⟩
end
theorem nrow_below {w w' : World} {v : Value} {ks : List Int} (h : NRow w v ks) (hb : Below w.heap.size w w') : NRow w' v ks := nrow_kept h (fun b e => hb.block b (h.lt b e).2)
/-- Where a number stands among rising ones, and whether it does. -/
theorem findB (v : Value) (ks : List Int) (k : Int) (w : World) (h : NRow w v ks) (hlen : ks.length ≤ 1000000) (hs : ks.Pairwise (· ≤ ·)) :
    Calls Try.prog 62 #[v, .int .i64 k] w fun e w' => e = .returned (.tuple #[.int .i64 (ks.countP (fun x => decide (x < k)) : Nat), .bool (decide (k ∈ ks))]) ∧ ∃ q, w' = w.drewN q := by
  rcases nrow_shape h with ⟨rfl, rfl⟩ | ⟨g, c, rfl⟩
  · refine (Try.slices_BinarySearch_int_empty none 0 k w).mono ?_
    rintro e w' ⟨rfl, rfl⟩
    exact ⟨by simp, 0, rfl⟩
  · obtain ⟨-, -, -, -, hc⟩ := nrow_some h
    refine (Try.slices_BinarySearch_int g 0 ks.length c ks k w (Nat.le_refl _) (by omega) (fun j hj => by rw [Nat.zero_add]; exact hc j hj) (by rw [List.take_length]; exact hs)).mono ?_
    rintro e w' ⟨he, q, hq⟩
    rw [List.take_length] at he
    refine ⟨?_, q, hq⟩
    rw [he, List.contains_eq_mem]
end

section
open Go.RowKit Go.Maps
abbrev EdV := Int × Int × Int × Int
def encE (x : EdV) : List Value := [.int .i64 x.1, .int .i64 x.2.1, .int .i64 x.2.2.1, .int .u32 x.2.2.2]
theorem kitE : Kit EdV 4 encE := ⟨by omega, fun _ => rfl, fun x v hv => by simp [encE] at hv; rcases hv with rfl | rfl | rfl | rfl <;> rfl⟩
abbrev ERow (B : Nat) (w : World) (v : Value) (es : List EdV) : Prop := RRow 42 4 encE B w v es
/-- A vertex, whether no walk leads there, its distance's bits, its last edge. -/
abbrev DiV := Int × Bool × Nat × Int
def encD (x : DiV) : List Value := [.int .i64 x.1, .bool x.2.1, .int .u32 (x.2.2.1 : Nat), .int .i64 x.2.2.2]
theorem kitD : Kit DiV 4 encD := ⟨by omega, fun _ => rfl, fun x v hv => by simp [encD] at hv; rcases hv with rfl | rfl | rfl | rfl <;> rfl⟩
/-- An edge's number, the place to which it leads, its weight. -/
abbrev WyV := Int × Nat × Nat
def encW (x : WyV) : List Value := [.int .i64 x.1, .int .i64 (x.2.1 : Nat), .float .f32 x.2.2]
theorem kitW : Kit WyV 3 encW := ⟨by omega, fun _ => rfl, fun x v hv => by simp [encW] at hv; rcases hv with rfl | rfl | rfl <;> rfl⟩
/-- A slice, as it stands in a list of lists. -/
abbrev SlV := Option Addr × Nat × Nat
def slv (x : SlV) : Value := .slice x.1 x.2.1 x.2.2
def encS (x : SlV) : List Value := [slv x]
theorem kitS : Kit SlV 1 encS := ⟨by omega, fun _ => rfl, fun x v hv => by simp [encS] at hv; rcases hv with rfl; rfl⟩
theorem infoED : (Try.prog.info? 42).map (fun i => (i.zero, i.size, i.bytes)) = some (some (.agg #[.int .i64 0, .int .i64 0, .int .i64 0, .int .u32 0]), 4, 32) := by kernel_rfl
section
variable {B : Nat} {w : World} {g n c i : Nat}
theorem erow_at {es : List EdV} {x : EdV} (h : ERow B w (.slice (some ⟨g, 0, none⟩) n c) es) (hi : es[i]? = some x) : w.cell? ⟨g, i * 4, none⟩ = some (.int .i64 x.1) ∧ w.cell? ⟨g, i * 4 + 1, none⟩ = some (.int .i64 x.2.1) ∧ w.cell? ⟨g, i * 4 + 2, none⟩ = some (.int .i64 x.2.2.1) ∧ w.cell? ⟨g, i * 4 + 3, none⟩ = some (.int .u32 x.2.2.2) :=
  ⟨rrow_at kitE h hi (j := 0) rfl, rrow_at kitE h hi (j := 1) rfl, rrow_at kitE h hi (j := 2) rfl, rrow_at kitE h hi (j := 3) rfl⟩
end
/-! Where a vertex stands. -/
def cmpI (x y : Int) : Int := if x < y then -1 else if y < x then 1 else 0
/-- How many stand ahead of v. -/
def rankV (ds : List DiV) (v : Int) : Nat := ds.countP (fun d => decide (d.1 < v))
def RiseD (ds : List DiV) : Prop := ds.Pairwise (fun a b => a.1 < b.1)
theorem rank_le (ds : List DiV) (v : Int) : rankV ds v ≤ ds.length := List.countP_le_length
theorem rank_lt : ∀ {ds : List DiV} {v : Int}, RiseD ds → ∀ {i : Nat} {d : DiV}, ds[i]? = some d → (i < rankV ds v ↔ d.1 < v)
  | [], v, _, i, d, h => by simp at h
  | x :: ds, v, hr, i, d, h => by
    obtain ⟨p1, p2⟩ := List.pairwise_cons.1 hr
    unfold rankV
    rw [List.countP_cons]
    by_cases hx : x.1 < v
    · rw [if_pos (by simpa using hx)]
      cases i with
      | zero => injection h with h; subst h; exact ⟨fun _ => hx, fun _ => by omega⟩
      | succ i =>
        have := rank_lt (v := v) p2 (i := i) (d := d) (by simpa using h)
        unfold rankV at this
        rw [← this]; omega
    · have h0 : ds.countP (fun d => decide (d.1 < v)) = 0 := List.countP_eq_zero.2 (fun y hy => by have := p1 y hy; simp; omega)
      rw [if_neg (by simpa using hx), h0]
      refine ⟨fun q => by omega, fun q => ?_⟩
      cases i with
      | zero => injection h with h; subst h; exact absurd q hx
      | succ i => have := p1 d (List.mem_of_getElem? (by simpa using h)); omega
theorem rank_found {ds : List DiV} {v : Int} (hr : RiseD ds) : v ∈ ds.map (·.1) ↔ ∃ d, ds[rankV ds v]? = some d ∧ d.1 = v := by
  constructor
  · intro h
    obtain ⟨d, hd, rfl⟩ := List.mem_map.1 h
    obtain ⟨i, hi⟩ := List.mem_iff_getElem?.1 hd
    have h1 := (not_congr (rank_lt (v := d.1) hr hi)).2 (by omega)
    have hl := (List.getElem?_eq_some_iff.1 hi).1
    obtain ⟨e, he⟩ : ∃ e, ds[rankV ds d.1]? = some e := ⟨_, List.getElem?_eq_getElem (by omega)⟩
    have h2 := (not_congr (rank_lt (v := d.1) hr he)).1 (by omega)
    rcases Nat.lt_or_ge (rankV ds d.1) i with q | q
    · have h3 := List.pairwise_iff_getElem.1 hr (rankV ds d.1) i (by omega) hl q
      rw [(List.getElem?_eq_some_iff.1 he).2, (List.getElem?_eq_some_iff.1 hi).2] at h3
      omega
    · have : rankV ds d.1 = i := by omega
      rw [this, hi] at he
      injection he with he
      exact ⟨d, by rw [this]; exact hi, rfl⟩
  · rintro ⟨d, hd, rfl⟩
    exact List.mem_map.2 ⟨d, List.mem_of_getElem? hd, rfl⟩
theorem midW {l h k : Nat} (hb : l + h ≤ 4000000) (hk : k = (l + h) / 2) : wrap64 (IntKind.u64.wrap (wrap64 ((l : Int) + (h : Int))) / 2) = (k : Int) := by
  have e1 : wrap64 ((l : Int) + (h : Int)) = (l : Int) + (h : Int) := by unfold wrap64; omega
  have e2 : IntKind.u64.wrap ((l : Int) + (h : Int)) = (l : Int) + (h : Int) := by unfold IntKind.wrap; simp [IntKind.signed, IntKind.bits]; omega
  rw [e1, e2]
  unfold wrap64
  omega
end

section
open Go.RowKit Go.Maps
attribute [local go_sem] run_storeF run_fieldE0 run_fieldE1
/-- The edges as records. -/
structure ERel (E : L14.Es) (gs : List EdV) : Prop where
  ed : ∀ e u v c, E e = some (u, v, c) ↔ (e, u, v, (c : Int)) ∈ gs
  un : (gs.map (·.1)).Nodup
  lo : ∀ x ∈ gs, 1 ≤ x.1 ∧ 0 ≤ x.2.2.2 ∧ x.2.2.2 < 2139095040
/-- At p stands a live tree of this graph. -/
def LvK (L : Lab) (w : World) (p : Nat) (s tc : Int) (vs : List Int) (gs : List EdV) (T : L14.Tr) (N : Nat) : Prop :=
  ∃ mv me V nv E ne O I, LvS L w p mv me s tc V nv E ne T O I ∧ GL V E O I vs N ∧ s ∈ vs ∧ L14.Right E s T ∧ ERel E gs ∧ nv ≤ N ∧ ne ≤ N
/-- What a call leaves. -/
def LvGo (L : Lab) (w : World) (p : Nat) (s tc : Int) (vs : List Int) (gs : List EdV) (T : L14.Tr) (N : Nat) (w' : World) : Prop := ∃ L', LvK L' w' p s tc vs gs T N ∧ ChL L w L' w'
section
variable {L : Lab} {w w' : World} {p : Nat} {s tc : Int} {vs : List Int} {gs : List EdV} {T : L14.Tr} {N : Nat}
theorem LvK.below (h : LvK L w p s tc vs gs T N) (hb : Below w.heap.size w w') : LvK L w' p s tc vs gs T N := by
  obtain ⟨mv, me, V, nv, E, ne, O, I, h1, h2⟩ := h
  exact ⟨mv, me, V, nv, E, ne, O, I, h1.below hb, h2⟩
theorem LvK.go (h : LvK L w p s tc vs gs T N) (hb : Below w.heap.size w w') : LvGo L w p s tc vs gs T N w' := ⟨L, h.below hb, ChL.below hb⟩
theorem LvK.more {M : Nat} (h : LvK L w p s tc vs gs T N) (hM : N ≤ M) : LvK L w p s tc vs gs T M := by
  obtain ⟨mv, me, V, nv, E, ne, O, I, h1, h2, h3, h4, h5, h6, h7⟩ := h
  exact ⟨mv, me, V, nv, E, ne, O, I, h1, h2.more hM, h3, h4, h5, by omega, by omega⟩
theorem tr_none {E : L14.Es} {V : Int → Option Nat} {O I : Int → List Int} (hR : L14.Right E s T) (hG : GL V E O I vs N) (hs : s ∈ vs) {v : Int} (hv : v ∉ vs) : T v = (false, 0, 0) := by
  have hf : L14.fnd T v = false := by
    cases q : L14.fnd T v with
    | false => rfl
    | true => exact absurd (found_in hR hG hs q) hv
  obtain ⟨h1, h2⟩ := hR.non v hf
  unfold L14.fnd at hf
  unfold L14.cst at h1
  unfold L14.lst at h2
  have : T v = ((T v).1, (T v).2.1, (T v).2.2) := rfl
  rw [this, hf, h1, h2]
theorem vTouchedT (h : LvK L w p s tc vs gs T N) : Calls Try.prog 6 #[.pointer (some ⟨p, 0, none⟩)] w fun e w' => e = .returned (.int .i64 tc) ∧ w' = w := by
  obtain ⟨mv, me, V, nv, E, ne, O, I, h1, -⟩ := h
  obtain ⟨-, -, -, c3, -⟩ := cellsL h1.at_.box
  clear h1
  go_enter Try.func6, Try.ntmps6
  go_wp2_with fail
  go_ret
  exact ⟨rfl, rfl⟩
set_option maxHeartbeats 1000000 in
theorem vAddVIn (h : LvK L w p s tc vs gs T N) {v : Int} (hv : v ∈ vs) : Calls Try.prog 12 #[.pointer (some ⟨p, 0, none⟩), .int .i64 v] w fun e w' => e = .returned (.bool false) ∧ w' = w := by
  obtain ⟨mv, me, V, nv, E, ne, O, I, h1, h2, -⟩ := h
  have C1 := hide (vhasT h1.at_ (h2.okV v hv))
  obtain ⟨b, hb⟩ := h2.at_ hv
  rw [hb] at C1
  have C1' : Hid (Calls Try.prog 29 #[.pointer (some ⟨p, 0, none⟩), .int .i64 v] w fun e w' => e = .returned (.bool true) ∧ w' = w) := C1
  clear h1 h2 C1 hb hv
  go_enter Try.func12, Try.ntmps12
  go_wp2_with fail
  refine (unhide C1').mono ?_
  rintro e w1 ⟨rfl, hw⟩
  rw [hw]
  clear C1' hw w1
  go_wp2_with fail
  go_ret
  exact ⟨rfl, rfl⟩
set_option maxHeartbeats 1000000 in
theorem vAddVNew (h : LvK L w p s tc vs gs T N) (hN : N ≤ 200) {v : Int} (hv : v ∉ vs) (ov : okN v) {vs' : List Int} (hnd : vs'.Nodup) (hm : ∀ x, x ∈ vs' ↔ x = v ∨ x ∈ vs) (hl : vs'.length ≤ N + 1) : Calls Try.prog 12 #[.pointer (some ⟨p, 0, none⟩), .int .i64 v] w fun e w' => e = .returned (.bool true) ∧ Hid (LvGo L w p s tc vs' gs T (N + 1) w') := by
  obtain ⟨mv, me, V, nv, E, ne, O, I, h1, h2, h3, h4, h5, h6, h7⟩ := h
  have hV : V v = none := by
    cases q : V v with
    | none => rfl
    | some b => exact absurd ((h2.mem v).2 (by rw [q]; exact fun z => by cases z)) hv
  have C1 := hide (vhasT h1.at_ ov)
  rw [hV] at C1
  have C1' : Hid (Calls Try.prog 29 #[.pointer (some ⟨p, 0, none⟩), .int .i64 v] w fun e w' => e = .returned (.bool false) ∧ w' = w) := C1
  obtain ⟨hO, hI⟩ := h2.none_O hv
  obtain ⟨w2, L2, r2, k2, c2⟩ := h1.putV (by omega) ov hV (tr_none h4 h2 h3 hv) hO hI
  obtain ⟨-, p1, -, -, -⟩ := cellsL h1.at_.box
  have HE : Hid (LvGo L w p s tc vs' gs T (N + 1) w2) := ⟨L2, ⟨mv, me, _, nv + 1, E, ne, O, I, k2, h2.addV ov hnd hm hl, (hm s).2 (.inr h3), h4, h5, by omega, by omega⟩, c2⟩
  unfold oSp at r2
  clear h1 h2 h3 h4 h5 h6 h7 hV C1 hO hI k2 c2 hv ov hnd hm hl hN
  go_enter Try.func12, Try.ntmps12
  go_wp2_with fail
  refine (unhide C1').mono ?_
  rintro e w1 ⟨rfl, hw⟩
  rw [hw]
  clear C1' hw w1
  go_wp2_with fail
  go_ret
  exact ⟨rfl, HE⟩
set_option maxHeartbeats 4000000 in
set_option maxRecDepth 100000 in
theorem vDropVNo (h : LvK L w p s tc vs gs T N) {v : Int} (ov : okN v) (hno : v ∉ vs ∨ v = s ∨ ∃ x ∈ gs, x.2.1 = v ∨ x.2.2.1 = v) : Calls Try.prog 20 #[.pointer (some ⟨p, 0, none⟩), .int .i64 v] w fun e w' => e = .returned (.bool false) ∧ w' = w := by
  obtain ⟨mv, me, V, nv, E, ne, O, I, h1, h2, h3, h4, h5, h6, h7⟩ := h
  have hq := h1.at_.lookV2 ov
  obtain ⟨p0, p1, -, -, -⟩ := cellsL h1.at_.box
  cases hV : V v with
  | none =>
    rw [hV] at hq
    have hq' : (Instr.lookup 48 (.map (some mv)) (.int .i64 v) true).run Try.prog w = .ok (.tuple #[.pointer none, .bool false]) w := hq
    clear h1 h2 h3 h4 h5 h6 h7 hV hq hno
    go_enter Try.func20, Try.ntmps20
    go_wp2_with fail
    go_ret
    exact ⟨rfl, rfl⟩
  | some b =>
    rw [hV] at hq
    have hq' : (Instr.lookup 48 (.map (some mv)) (.int .i64 v) true).run Try.prog w = .ok (.tuple #[.pointer (some ⟨b, 0, none⟩), .bool true]) w := hq
    by_cases hvs : v = s
    · have z0 : (v == s) = true := by simpa using hvs
      clear h1 h2 h3 h4 h5 h6 h7 hV hq hno hvs
      go_enter Try.func20, Try.ntmps20
      go_wp2_with fail
      go_ret
      exact ⟨rfl, rfl⟩
    · have z0 : (v == s) = false := by simpa using hvs
      obtain ⟨ov_, iv, g1, -, g3, g4, -⟩ := h1.at_.sp v b hV
      obtain ⟨d0, d1, -⟩ := cellsSp g1
      have hin : v ∈ vs := (h2.mem v).2 (by rw [hV]; exact fun z => by cases z)
      obtain ⟨oa, oc, e1, -⟩ := brow_shape g3
      obtain ⟨ia, ic, e2, -⟩ := brow_shape g4
      obtain ⟨on, hon⟩ : ∃ on, on = (O v).length := ⟨_, rfl⟩
      obtain ⟨inn, hinn⟩ : ∃ inn, inn = (I v).length := ⟨_, rfl⟩
      rw [← hon] at e1
      rw [← hinn] at e2
      subst e1 e2
      have hsome : 0 < on ∨ (on = 0 ∧ 0 < inn) := by
        rcases Nat.eq_zero_or_pos on with q | q
        · refine .inr ⟨q, ?_⟩
          rcases hno with z | z | ⟨⟨e, a, b', c⟩, hx, z⟩
          · exact absurd hin z
          · exact absurd z hvs
          · have hc := (h5.lo _ hx).2
            have hE : E e = some (a, b', c.toNat) := (h5.ed e a b' c.toNat).2 (by rw [show ((c.toNat : Nat) : Int) = c by have := hc.1; simp at this; omega]; exact hx)
            rcases z with z | z
            · have z : a = v := z
              have : e ∈ O v := (h2.out v e).2 ⟨b', c.toNat, by rw [← z]; exact hE⟩
              have := List.length_pos_of_mem this
              omega
            · have z : b' = v := z
              have : e ∈ I v := (h2.inn v e).2 ⟨a, c.toNat, by rw [← z]; exact hE⟩
              have := List.length_pos_of_mem this
              omega
        · exact .inl q
      clear h1 h2 h3 h4 h5 h6 h7 hV hq hno hvs g1 g3 g4 hin hon hinn
      rcases hsome with q | ⟨rfl, q⟩
      · have z1 : (on : Int) > 0 := by omega
        clear q
        go_enter Try.func20, Try.ntmps20
        go_wp2_with fail
        go_ret
        exact ⟨rfl, rfl⟩
      · have z1 : (inn : Int) > 0 := by omega
        clear q
        go_enter Try.func20, Try.ntmps20
        go_wp2_with fail
        go_ret
        exact ⟨rfl, rfl⟩
set_option maxHeartbeats 1000000 in
theorem vDropVYes (h : LvK L w p s tc vs gs T N) {v : Int} (hv : v ∈ vs) (hvs : v ≠ s) (hno : ∀ x ∈ gs, x.2.1 ≠ v ∧ x.2.2.1 ≠ v) {vs' : List Int} (hnd : vs'.Nodup) (hm : ∀ x, x ∈ vs' ↔ x ≠ v ∧ x ∈ vs) (hl : vs'.length ≤ N) : Calls Try.prog 20 #[.pointer (some ⟨p, 0, none⟩), .int .i64 v] w fun e w' => e = .returned (.bool true) ∧ Hid (LvGo L w p s tc vs' gs T N w') := by
  obtain ⟨mv, me, V, nv, E, ne, O, I, h1, h2, h3, h4, h5, h6, h7⟩ := h
  have ov := h2.okV v hv
  have hq := h1.at_.lookV2 ov
  obtain ⟨p0, p1, -, -, -⟩ := cellsL h1.at_.box
  obtain ⟨b, hV⟩ := h2.at_ hv
  rw [hV] at hq
  have hq' : (Instr.lookup 48 (.map (some mv)) (.int .i64 v) true).run Try.prog w = .ok (.tuple #[.pointer (some ⟨b, 0, none⟩), .bool true]) w := hq
  have z0 : (v == s) = false := by simpa using hvs
  have hO : O v = [] := by
    cases q : O v with
    | nil => rfl
    | cons e l =>
      obtain ⟨_, _, z⟩ := (h2.out v e).1 (by rw [q]; exact List.mem_cons_self ..)
      exact absurd rfl (hno _ ((h5.ed _ _ _ _).1 z)).1
  have hI : I v = [] := by
    cases q : I v with
    | nil => rfl
    | cons e l =>
      obtain ⟨_, _, z⟩ := (h2.inn v e).1 (by rw [q]; exact List.mem_cons_self ..)
      exact absurd rfl (hno _ ((h5.ed _ _ _ _).1 z)).2
  obtain ⟨ov_, iv, g1, -, g3, g4, -⟩ := h1.at_.sp v b hV
  obtain ⟨d0, d1, -⟩ := cellsSp g1
  rw [hO] at g3
  rw [hI] at g4
  obtain ⟨oa, oc, e1, -⟩ := brow_shape g3
  obtain ⟨ia, ic, e2, -⟩ := brow_shape g4
  have e1' : ov_ = .slice oa 0 oc := e1
  have e2' : iv = .slice ia 0 ic := e2
  subst e1' e2'
  obtain ⟨nv', rfl⟩ : ∃ nv', nv = nv' + 1 := by
    cases nv with
    | zero =>
      have := h1.at_.vs.zero ov
      rw [hV] at this; cases this
    | succ k => exact ⟨k, rfl⟩
  obtain ⟨w2, r2, k2, c2⟩ := h1.delV ov (by rw [hV]; rfl)
  have HE : Hid (LvGo L w p s tc vs' gs T N w2) := ⟨L, ⟨mv, me, _, nv', E, ne, O, I, k2, h2.delV hnd hm hl hO hI, (hm s).2 ⟨fun z => hvs z.symm, h3⟩, h4, h5, by omega, h7⟩, c2⟩
  clear h1 h2 h3 h4 h5 h6 h7 hV hq hno hvs g1 g3 g4 hv hnd hm hl hO hI k2 c2
  go_enter Try.func20, Try.ntmps20
  go_wp2_with fail
  go_ret
  exact ⟨rfl, HE⟩
end
end

end Go.Proofs.Ytbmcibofecigeaa
