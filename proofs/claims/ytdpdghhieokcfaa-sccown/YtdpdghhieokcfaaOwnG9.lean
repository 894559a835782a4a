/- SccOwn: the lists are joined and written into (made by mkown9.py). -/
import Derived.Test.YtdpdghhieokcfaaOrdsM9
namespace Go.Proofs.Ytdpdghhieokcfaa

section
open Go.RowKit Go.Maps T9
theorem eqAR (x y : Int × Int) (w : World) : (Op.equalIn 10000 47 (.agg #[.int .i64 x.1, .int .i64 x.2]) (.agg #[.int .i64 y.1, .int .i64 y.2])).run Try.prog w = .ok (decide (x = y)) w := by
  have hS : Try.prog.underlying 47 = some (.struct (Try.prog.fieldsOf 47)) := by kernel_rfl
  have hp : Try.prog.stoodInHeld 47 = false := by kernel_rfl
  rw [show (10000 : Nat) = 9999 + 1 from rfl, run_equalIn_agg w 9999 47 _ _ hS hp]
  simp only [Program.fieldsOf, Try.underlying47]
  go_simp
  obtain ⟨a, b⟩ := x
  obtain ⟨a', b'⟩ := y
  by_cases h1 : a = a' <;> by_cases h2 : b = b' <;> simp [h1, h2]
/-- A row of lists' heads. -/
abbrev HRow (B : Nat) (w : World) (v : Value) (vs : List Value) : Prop := w.ownsRow B 22 1 v vs.length vs
theorem hrow_kept {B : Nat} {w w' : World} {v : Value} {vs : List Value} (h : HRow B w v vs) (hk : ∀ b, v.ownBlock = some b → w'.heap[b]? = w.heap[b]?) : HRow B w' v vs := by
  refine ⟨h.1, ?_⟩
  rcases h.2 with hn | ⟨g, cap, cur, e, hb, hgg, rest⟩
  · exact .inl hn
  · exact .inr ⟨g, cap, cur, e, hb, (hk g (by rw [e]; rfl)).trans hgg, rest⟩
theorem hrow_shape {B : Nat} {w : World} {v : Value} {vs : List Value} (h : HRow B w v vs) : ∃ a c, v = .slice a vs.length c ∧ vs.length ≤ c := by
  rcases h.2 with ⟨e, h0⟩ | ⟨g', cap, cur, e, -, -, hc, -⟩
  · exact ⟨none, 0, by rw [e, h0], by omega⟩
  · exact ⟨_, _, e, hc⟩
theorem hrow_some {B : Nat} {w : World} {a : Option Addr} {n c : Nat} {vs : List Value} (h : HRow B w (.slice a n c) vs) (h0 : 0 < vs.length) : ∃ g, a = some ⟨g, 0, none⟩ := by
  rcases h.2 with ⟨e, h1⟩ | ⟨g', cap, cur, e, -⟩
  · omega
  · injection e with e1; exact ⟨g', e1⟩
theorem hrow_at {B : Nat} {w : World} {g n c : Nat} {vs : List Value} (h : HRow B w (.slice (some ⟨g, 0, none⟩) n c) vs) {j : Nat} {e : Value} (hj : vs[j]? = some e) : w.cell? ⟨g, j, none⟩ = some e := by
  have := h.cells (g := g) rfl j e hj
  rwa [add_off, Nat.zero_add] at this
theorem hrow_low {B B' : Nat} {w : World} {v : Value} {vs : List Value} (h : HRow B' w v vs) (hb : B ≤ B') : HRow B w v vs := ⟨h.1, h.2.imp id (fun ⟨g, cap, cur, e, q, r⟩ => ⟨g, cap, cur, e, Nat.le_trans hb q, r⟩)⟩
theorem run_append_nilH (w : World) (base : Option Addr) (l c : Nat) (hlc : l ≤ c) (ty : TypeId) : (Builtin.append_ #[27, 27] ty #[.slice base l c, .slice none 0 0]).run Try.prog w = .ok (.slice base l c) w := by
  obtain ⟨i, hi, hz, hs, hb⟩ := info_parts infoIS
  cases base <;> simp [Builtin.append_, run_underlying Try.underlying27, sizeOf, typeInfo, hi, Builtin.lenOf, Builtin.firstCells, hlc, storeCells]
/-- Heads of lists, appended from wherever they lie. -/
theorem run_appH {B : Nat} {w : World} {v : Value} {l l2 : List Value} {ad : Addr} {c : Nat} (h : HRow B w v l) (hB : B ≤ w.heap.size) (hcell : ∀ j u, l2[j]? = some u → w.cell? (ad.add j) = some u) (h1 : ∀ u ∈ l2, u.oneCell' = true) (hl : l.length + l2.length ≤ 1000000) :
    ∃ a' n' c' w', (∀ ty, (Builtin.append_ #[27, 27] ty #[v, .slice (some ad) l2.length c]).run Try.prog w = .ok (.slice a' n' c') w') ∧ HRow B w' (.slice a' n' c') (l ++ l2) ∧ Turned (fun b => v.ownBlock = some b) w w' ∧ ∀ b, (Value.slice a' n' c').ownBlock = some b → v.ownBlock = some b ∨ w.heap.size ≤ b := by
  obtain ⟨i, hi, hz, hsz, hb⟩ := info_parts infoIS
  obtain ⟨v', w', hr, g1, g2, -, g5⟩ := run_append_own_at (P := Try.prog) w B 27 0 22 i _ 1 24 Try.underlying27 hi hz hsz hb rfl (by omega) v l.length l h ad l2.length c l2 (by omega) hcell h1 (by unfold maxLen; omega) (by omega) hB
  have e2 : l.length + l2.length = (l ++ l2).length := by simp
  rw [e2] at g1
  have g1' : HRow B w' v' (l ++ l2) := g1
  obtain ⟨a', c', e, -⟩ := hrow_shape g1'
  subst e
  refine ⟨a', _, c', w', fun ty => hr, g1', ⟨g2.os, g2.tape, g2.output, g2.size, fun k hk hn => g2.block k hk (fun e => hn e.symm)⟩, fun b eb => ?_⟩
  rcases g5 with q | q
  · exact .inl (by rw [← q]; exact eb)
  · have eb2 := Option.some.inj (q.symm.trans eb); exact .inr (by omega)
/-- Two lists of lists side by side: the first has the heads vs, the second the first k of xs; the lists of xs are xss. -/
structure OwG (B : Nat) (L : Nat → Nat) (w : World) (v : Value) (vs : List Value) (g : Value) (k : Nat) (xs : List Value) (xss : List (List Int)) : Prop where
  outer : HRow B w v vs
  gro : HRow B w g (xs.take k)
  len : xs.length = xss.length
  inner : ∀ (i : Nat) (x : Value) (ks : List Int), xs[i]? = some x → xss[i]? = some ks → BRow B w x ks
  lo : ∀ b, v.ownBlock = some b → L b = 1
  lg : ∀ b, g.ownBlock = some b → L b = 2
  li : ∀ (i : Nat) (x : Value) (b : Nat), xs[i]? = some x → x.ownBlock = some b → L b = 3 + i
section
variable {B k : Nat} {L : Nat → Nat} {w w' : World} {v g : Value} {vs xs : List Value} {xss : List (List Int)}
theorem OwG.inrow (h : OwG B L w v vs g k xs xss) {i : Nat} {x : Value} (hi : xs[i]? = some x) : ∃ ks, xss[i]? = some ks ∧ BRow B w x ks := by
  have hl : i < xss.length := by rw [← h.len]; exact (List.getElem?_eq_some_iff.1 hi).1
  exact ⟨xss[i], List.getElem?_eq_getElem hl, h.inner i x _ hi (List.getElem?_eq_getElem hl)⟩
theorem OwG.below (h : OwG B L w v vs g k xs xss) (hb : Below w.heap.size w w') : OwG B L w' v vs g k xs xss :=
  ⟨hrow_kept h.outer (fun b e => hb.block b (h.outer.lt b e).2), hrow_kept h.gro (fun b e => hb.block b (h.gro.lt b e).2), h.len, fun i x ks h1 h2 => brow_kept (h.inner i x ks h1 h2) (fun b e => hb.block b ((h.inner i x ks h1 h2).lt b e).2), h.lo, h.lg, h.li⟩
/-- The i-th list turned within its own block, or moved into a new one. -/
theorem OwG.turn (h : OwG B L w v vs g k xs xss) {i : Nat} {x x' : Value} {ks : List Int} (hi : xs[i]? = some x) (ht : Turned (fun b => x.ownBlock = some b) w w') (hr : BRow B w' x' ks) (hn : ∀ b, x'.ownBlock = some b → x.ownBlock = some b ∨ w.heap.size ≤ b) (hk : (xs.set i x').take k = xs.take k) :
    OwG B (lab L w.heap.size (3 + i)) w' v vs g k (xs.set i x') (xss.set i ks) := by
  have hil : i < xs.length := (List.getElem?_eq_some_iff.1 hi).1
  have hlen := h.len
  have hx : ∀ b, x.ownBlock = some b → b < w.heap.size := fun b e => by
    obtain ⟨ks0, -, q⟩ := h.inrow hi
    exact (q.lt b e).2
  refine ⟨hrow_kept h.outer (fun b e => ht.block b (h.outer.lt b e).2 (fun q => by have := h.lo b e; have := h.li i x b hi q; omega)), ?_, by simp [hlen], fun j y ls h3 h4 => ?_, fun b e => (if_pos (h.outer.lt b e).2).trans (h.lo b e), fun b e => (if_pos (h.gro.lt b e).2).trans (h.lg b e), fun j y b h3 e => ?_⟩
  · rw [hk]; exact hrow_kept h.gro (fun b e => ht.block b (h.gro.lt b e).2 (fun q => by have := h.lg b e; have := h.li i x b hi q; omega))
  · by_cases e : j = i
    · subst e
      rw [List.getElem?_set_self hil] at h3
      rw [List.getElem?_set_self (by omega)] at h4
      injection h3 with h3
      injection h4 with h4
      subst h3 h4
      exact hr
    · rw [List.getElem?_set_ne (fun q => e q.symm)] at h3 h4
      have h5 := h.inner j y ls h3 h4
      exact brow_kept h5 (fun b eb => ht.block b (h5.lt b eb).2 (fun q => by have := h.li j y b h3 eb; have := h.li i x b hi q; omega))
  · by_cases e2 : j = i
    · subst e2
      rw [List.getElem?_set_self hil] at h3
      injection h3 with h3
      subst h3
      rcases hn b e with q | q
      · exact (if_pos (hx b q)).trans (h.li j x b hi q)
      · exact if_neg (by omega)
    · rw [List.getElem?_set_ne (fun q => e2 q.symm)] at h3
      obtain ⟨ks0, -, q⟩ := h.inrow h3
      exact (if_pos (q.lt b e).2).trans (h.li j y b h3 e)
/-- One number written. -/
theorem OwG.write {gx n c : Nat} (h : OwG B L w v vs g k xs xss) {i m : Nat} {ks : List Int} (hi : xs[i]? = some (.slice (some ⟨gx, 0, none⟩) n c)) (hks : xss[i]? = some ks) (hm : m < n) (y : Int) (hB : B ≤ w.heap.size) :
    (∀ o, w.frozen? ⟨gx, o, none⟩ = false) ∧ Below B w (w.setCell ⟨gx, m, none⟩ (.int .i64 y)) ∧ OwG B (lab L w.heap.size (3 + i)) (w.setCell ⟨gx, m, none⟩ (.int .i64 y)) v vs g k xs (xss.set i (ks.set m y)) := by
  have hr := h.inner i _ ks hi hks
  obtain ⟨f, r⟩ := brow_set hr y hm
  have ht : Turned (fun b => (Value.slice (some ⟨gx, 0, none⟩) n c).ownBlock = some b) w (w.setCell ⟨gx, m, none⟩ (.int .i64 y)) := setCells_turned (S := fun b => (Value.slice (some ⟨gx, 0, none⟩) n c).ownBlock = some b) gx rfl [.int .i64 y] m w
  have hs : xs.set i (.slice (some ⟨gx, 0, none⟩) n c) = xs := by
    apply List.ext_getElem?
    intro j
    by_cases e : i = j
    · subst e; rw [List.getElem?_set_self (List.getElem?_eq_some_iff.1 hi).1, hi]
    · rw [List.getElem?_set_ne e]
  have := h.turn hi ht r (fun b e => .inl e) (by rw [hs])
  rw [hs] at this
  exact ⟨f, ht.below hB (fun b e => (hr.lt b e).1), this⟩
/-- One number more. -/
theorem OwG.app (h : OwG B L w v vs g k xs xss) (hB : B ≤ w.heap.size) {i : Nat} {x : Value} {ks : List Int} (hi : xs[i]? = some x) (hks : xss[i]? = some ks) (hki : k ≤ i) (hl : ks.length ≤ 100000) (y : Int) :
    ∃ a' n' c' w', (∀ ty, (Builtin.append_ #[22, 22] ty #[x, .slice (some ⟨w.heap.size, 0, none⟩) 1 1]).run Try.prog (w.alloc (.cells #[.int .i64 y] 3)) = .ok (.slice a' n' c') w') ∧ Below B w w' ∧ OwG B (lab L w.heap.size (3 + i)) w' v vs g k (xs.set i (.slice a' n' c')) (xss.set i (ks ++ [y])) := by
  have hr := h.inner i x ks hi hks
  obtain ⟨a', n', c', w', r, g1, g2, g3⟩ := run_app8 y hr hB (by omega)
  refine ⟨a', n', c', w', r, g2.below hB (fun b e => (hr.lt b e).1), h.turn hi g2 g1 g3 ?_⟩
  apply List.ext_getElem?
  intro j
  rw [List.getElem?_take, List.getElem?_take]
  by_cases e : j < k
  · rw [if_pos e, if_pos e, List.getElem?_set_ne (by omega)]
  · rw [if_neg e, if_neg e]
/-- The next list's head taken into the second one. -/
theorem OwG.push (h : OwG B L w v vs g k xs xss) (hB : B ≤ w.heap.size) {x : Value} (hi : xs[k]? = some x) (h1 : x.oneCell' = true) (hl : xs.length ≤ 100000) :
    ∃ a' n' c' w', (∀ ty, (Builtin.append_ #[27, 27] ty #[g, .slice (some ⟨w.heap.size, 0, none⟩) 1 1]).run Try.prog (w.alloc (.cells #[x] 22)) = .ok (.slice a' n' c') w') ∧ Below B w w' ∧ OwG B (lab L w.heap.size 2) w' v vs (.slice a' n' c') (k + 1) xs xss := by
  have hb1 := below_new w (.cells #[x] 22)
  have h2 := h.below hb1
  have hk : k < xs.length := (List.getElem?_eq_some_iff.1 hi).1
  obtain ⟨a', n', c', w', r, g1, g2, g3⟩ := run_appH (l2 := [x]) (ad := ⟨w.heap.size, 0, none⟩) (c := 1) h2.gro (Nat.le_trans hB hb1.size) (cell_one_new w _ _) (by intro u hu; rw [List.mem_singleton.1 hu]; exact h1) (by simp; omega)
  have hold : ∀ b, b < w.heap.size → g.ownBlock ≠ some b → w'.heap[b]? = w.heap[b]? := fun b hb' hne => (g2.block b (Nat.lt_of_lt_of_le hb' hb1.size) hne).trans (hb1.block b hb')
  refine ⟨a', n', c', w', r, ((Below.refl B w).trans (hb1.mono hB)).trans (g2.below (Nat.le_trans hB hb1.size) (fun b e => (h.gro.lt b e).1)), hrow_kept h.outer (fun b e => hold b (h.outer.lt b e).2 (fun q => by have := h.lo b e; have := h.lg b q; omega)), by rw [take_snoc hi]; exact g1, h.len, fun i y ks e1 e2 => ?_, fun b e => (if_pos (h.outer.lt b e).2).trans (h.lo b e), fun b e => ?_, fun i y b e1 e => ?_⟩
  · have h5 := h.inner i y ks e1 e2
    exact brow_kept h5 (fun b eb => hold b (h5.lt b eb).2 (fun q => by have := h.li i y b e1 eb; have := h.lg b q; omega))
  · rcases g3 b e with q | q
    · exact (if_pos (h.gro.lt b q).2).trans (h.lg b q)
    · exact if_neg (by have := hb1.size; omega)
  · obtain ⟨ks0, -, q⟩ := h.inrow e1
    exact (if_pos (q.lt b e).2).trans (h.li i y b e1 e)
end
/-- How far the writing has come: the lists of zs with -1000 - j in all of the first i, and in the first k of the i-th. -/
def Wr (zs xss : List (List Int)) (i k : Nat) : Prop := ∀ (j : Nat) (ks : List Int), zs[j]? = some ks → ∃ ys, xss[j]? = some ys ∧ ys.length = ks.length ∧ ∀ m, m < ys.length → (j < i ∨ j = i ∧ m < k) → ys[m]? = some (-1000 - (j : Int))
/-- How far the growing has come: 20 more in the first i, k more in the i-th. -/
def Gw (zs xss : List (List Int)) (i k : Nat) : Prop := ∀ (j : Nat) (ks : List Int), zs[j]? = some ks → ∃ ys, xss[j]? = some ys ∧ ys.length = ks.length + (if j < i then 20 else if j = i then k else 0) ∧ ∀ m, m < ys.length → ys[m]? = some (if m < ks.length then -1000 - (j : Int) else 1000 + (j : Int))
section
variable {zs xss : List (List Int)} {i k : Nat}
theorem wr_start : Wr zs zs 0 0 := fun j ks h => ⟨ks, h, rfl, fun m _ q => by omega⟩
theorem Wr.step (h : Wr zs xss i k) {ys : List Int} (hy : xss[i]? = some ys) (hk : k < ys.length) : Wr zs (xss.set i (ys.set k (-1000 - (i : Int)))) i (k + 1) := fun j ks hj => by
  obtain ⟨ys', h1, h2, h3⟩ := h j ks hj
  by_cases e : j = i
  · subst e
    obtain rfl : ys' = ys := by rw [hy] at h1; injection h1 with h1; exact h1.symm
    refine ⟨_, List.getElem?_set_self (List.getElem?_eq_some_iff.1 hy).1, by simp [h2], fun m hm q => ?_⟩
    rw [List.length_set] at hm
    by_cases e2 : m = k
    · subst e2; rw [List.getElem?_set_self hm]
    · rw [List.getElem?_set_ne (fun q => e2 q.symm)]; exact h3 m hm (by omega)
  · exact ⟨ys', by rw [List.getElem?_set_ne (fun q => e q.symm)]; exact h1, h2, fun m hm q => h3 m hm (by omega)⟩
theorem Wr.next (h : Wr zs xss i k) {ys : List Int} (hy : xss[i]? = some ys) (hk : ys.length ≤ k) : Wr zs xss (i + 1) 0 := fun j ks hj => by
  obtain ⟨ys', h1, h2, h3⟩ := h j ks hj
  refine ⟨ys', h1, h2, fun m hm q => h3 m hm ?_⟩
  by_cases e : j = i
  · subst e
    obtain rfl : ys' = ys := by rw [hy] at h1; injection h1 with h1; exact h1.symm
    exact .inr ⟨rfl, by omega⟩
  · omega
theorem Wr.grow (h : Wr zs xss i 0) (hi : zs.length ≤ i) : Gw zs xss 0 0 := fun j ks hj => by
  obtain ⟨ys, h1, h2, h3⟩ := h j ks hj
  have hl := (List.getElem?_eq_some_iff.1 hj).1
  refine ⟨ys, h1, by simp [h2], fun m hm => ?_⟩
  rw [h3 m hm (by omega), if_pos (by omega)]
theorem Gw.step (h : Gw zs xss i k) {ys ks : List Int} (hz : zs[i]? = some ks) (hy : xss[i]? = some ys) : ys.length = ks.length + k ∧ Gw zs (xss.set i (ys ++ [1000 + (i : Int)])) i (k + 1) := by
  have hl : ys.length = ks.length + k := by
    obtain ⟨ys', h1, h2, -⟩ := h i ks hz
    obtain rfl : ys' = ys := by rw [hy] at h1; injection h1 with h1; exact h1.symm
    simpa using h2
  refine ⟨hl, fun j ks' hj => ?_⟩
  obtain ⟨ys', h1, h2, h3⟩ := h j ks' hj
  by_cases e : j = i
  · subst e
    obtain rfl : ys' = ys := by rw [hy] at h1; injection h1 with h1; exact h1.symm
    obtain rfl : ks' = ks := by rw [hz] at hj; injection hj with hj; exact hj.symm
    refine ⟨_, List.getElem?_set_self (List.getElem?_eq_some_iff.1 hy).1, by simp [hl]; omega, fun m hm => ?_⟩
    rw [List.length_append] at hm
    by_cases e2 : m < ys'.length
    · rw [List.getElem?_append_left e2]; exact h3 m e2
    · have : m = ys'.length := by simp at hm; omega
      subst this
      rw [List.getElem?_append_right (Nat.le_refl _), Nat.sub_self, if_neg (by omega)]; rfl
  · refine ⟨ys', by rw [List.getElem?_set_ne (fun q => e q.symm)]; exact h1, ?_, h3⟩
    rw [h2]; simp [e]
theorem Gw.next (h : Gw zs xss i 20) : Gw zs xss (i + 1) 0 := fun j ks hj => by
  obtain ⟨ys, h1, h2, h3⟩ := h j ks hj
  refine ⟨ys, h1, ?_, h3⟩
  rw [h2]
  by_cases e : j < i
  · rw [if_pos e, if_pos (by omega)]
  · rw [if_neg e]
    by_cases e2 : j = i
    · rw [if_pos e2, if_pos (by omega)]
    · rw [if_neg e2, if_neg (by omega)]; simp
end
theorem encA_snoc (l : List (Int × Int)) (a : Int × Int) : encA (l ++ [a]) = encA l ++ encA [a] := encA_append l [a]
/-- Arcs of a list, appended. -/
theorem run_appAR {B : Nat} {w : World} {v v2 : Value} {l l2 : List (Int × Int)} (h : ABRow B w v l) (hB : B ≤ w.heap.size) (h2 : ARow w v2 l2) (hl : l.length + l2.length ≤ 1000000) :
    ∃ a' n' c' w', (∀ ty, (Builtin.append_ #[23, 23] ty #[v, v2]).run Try.prog w = .ok (.slice a' n' c') w') ∧ ABRow B w' (.slice a' n' c') (l ++ l2) ∧ Turned (fun b => v.ownBlock = some b) w w' ∧ ∀ b, (Value.slice a' n' c').ownBlock = some b → v.ownBlock = some b ∨ w.heap.size ≤ b := by
  rcases h2.2 with ⟨e, h0⟩ | ⟨g, cap, cur, e, -⟩
  · obtain rfl : l2 = [] := List.eq_nil_of_length_eq_zero h0
    subst e
    obtain ⟨x, cc, rfl, hc⟩ := abrow_shape h
    exact ⟨x, _, cc, w, fun ty => run_append_nilA w x _ cc hc ty, by simpa using h, Turned.refl _ _, fun b e => .inl e⟩
  · subst e
    exact run_appA h hB (h2.cells (g := g) rfl) hl
theorem run_appNR {B : Nat} {w : World} {v v2 : Value} {l l2 : List Int} (h : BRow B w v l) (hB : B ≤ w.heap.size) (h2 : NRow w v2 l2) (hl : l.length + l2.length ≤ 1000000) :
    ∃ a' n' c' w', (∀ ty, (Builtin.append_ #[22, 22] ty #[v, v2]).run Try.prog w = .ok (.slice a' n' c') w') ∧ BRow B w' (.slice a' n' c') (l ++ l2) ∧ Below B w w' := by
  obtain ⟨v', w', r, g1, g2⟩ := run_appN hB h h2 (by omega)
  obtain ⟨a', c', e, -⟩ := brow_shape g1
  subst e
  exact ⟨a', _, c', w', r, g1, g2.os, g2.tape, g2.output, g2.size, fun b hb => g2.block b (by omega) (fun e => by have := (h.lt b e.symm).1; omega)⟩
/-- The law's lists, and the two that are longer by one. -/
def FG (w1 : World) (ks : List Int) (l : List (Int × Int)) (v1 v2 fv fa : Value) (W : World) : Prop := Below w1.heap.size w1 W ∧ BRow w1.heap.size W v1 ks ∧ ABRow w1.heap.size W v2 l ∧ BRow w1.heap.size W fv (ks ++ [777]) ∧ ABRow w1.heap.size W fa (l ++ [(7, 8)])
theorem FG.below {w1 W W' : World} {ks : List Int} {l : List (Int × Int)} {v1 v2 fv fa : Value} (h : FG w1 ks l v1 v2 fv fa W) (hb : Below W.heap.size W W') : FG w1 ks l v1 v2 fv fa W' :=
  ⟨h.1.trans (hb.mono h.1.size), brow_kept h.2.1 (fun b e => hb.block b (h.2.1.lt b e).2), abrow_kept h.2.2.1 (fun b e => hb.block b (h.2.2.1.lt b e).2), brow_kept h.2.2.2.1 (fun b e => hb.block b (h.2.2.2.1.lt b e).2), abrow_kept h.2.2.2.2 (fun b e => hb.block b (h.2.2.2.2.lt b e).2)⟩
/-- How they come to be: four appends. -/
theorem full_mem {w1 W : World} {ks : List Int} {l : List (Int × Int)} {v1 v2 : Value} (h : RG w1 ks l v1 v2 W) (hk : ks.length ≤ 1000) (hl : l.length ≤ 1000) :
    ∃ a1 n1 c1 wb a2 c2 wd a3 n3 c3 wf a4 c4 wh,
      (∀ ty, (Builtin.append_ #[22, 22] ty #[.slice (some ⟨W.heap.size, 0, none⟩) 0 0, v1]).run Try.prog (W.alloc (.cells #[] 3)) = .ok (.slice a1 n1 c1) wb) ∧
      (∀ ty, (Builtin.append_ #[22, 22] ty #[.slice a1 n1 c1, .slice (some ⟨wb.heap.size, 0, none⟩) 1 1]).run Try.prog (wb.alloc (.cells #[.int .i64 777] 3)) = .ok (.slice (some ⟨a2, 0, none⟩) (ks.length + 1) c2) wd) ∧
      (∀ ty, (Builtin.append_ #[23, 23] ty #[.slice (some ⟨wd.heap.size, 0, none⟩) 0 0, v2]).run Try.prog (wd.alloc (.cells #[] 47)) = .ok (.slice a3 n3 c3) wf) ∧
      (∀ ty, (Builtin.append_ #[23, 23] ty #[.slice a3 n3 c3, .slice (some ⟨wf.heap.size, 0, none⟩) 1 1]).run Try.prog (wf.alloc (oArc 7 8)) = .ok (.slice (some ⟨a4, 0, none⟩) (l.length + 1) c4) wh) ∧
      ks.length + 1 ≤ c2 ∧ l.length + 1 ≤ c4 ∧ FG w1 ks l v1 v2 (.slice (some ⟨a2, 0, none⟩) (ks.length + 1) c2) (.slice (some ⟨a4, 0, none⟩) (l.length + 1) c4) wh := by
  have hb0 := below_new W (.cells #[] 3)
  have h1 := h.below hb0
  have r0 := row_new W #[] [] rfl (by decide)
  obtain ⟨a1, n1, c1, wb, q1, r1, b1⟩ := run_appNR r0 hb0.size (brow_at0 h1.2.1) (by simp; omega)
  have hb1 : Below W.heap.size W wb := hb0.trans b1
  have r1 : BRow W.heap.size wb (.slice a1 n1 c1) ks := by simpa using r1
  obtain ⟨a2, n2, c2, wd, q2, r2, t2, -⟩ := run_app8 777 r1 hb1.size (by omega)
  have hb2 : Below W.heap.size W wd := hb1.trans (t2.below hb1.size (fun b e => (r1.lt b e).1))
  have h3 := h.below hb2
  have hb3 := below_new wd (.cells #[] 47)
  have h4 := h3.below hb3
  have r3 := arow_new wd #[] [] rfl (by decide)
  obtain ⟨a3, n3, c3, wf, q3, r4, t3, -⟩ := run_appAR r3 hb3.size (arow_zero h4.2.2.1) (by simp; omega)
  have hb4 : Below wd.heap.size wd wf := hb3.trans (t3.below hb3.size (fun b e => (r3.lt b e).1))
  have r4 : ABRow wd.heap.size wf (.slice a3 n3 c3) l := by simpa using r4
  have hb5 := below_new wf (oArc 7 8)
  have r5 : ABRow wd.heap.size (wf.alloc (oArc 7 8)) (.slice a3 n3 c3) l := abrow_kept r4 (fun b e => hb5.block b (r4.lt b e).2)
  obtain ⟨a4, n4, c4, wh, q4, r6, t4, -⟩ := run_appA (l2 := [(7, 8)]) (ad := ⟨wf.heap.size, 0, none⟩) (c := 1) r5 (Nat.le_trans hb4.size hb5.size) (cells_one (heap_alloc_new wf (oArc 7 8))) (by simp; omega)
  have hb6 : Below wd.heap.size wd wh := (hb4.trans (hb5.mono hb4.size)).trans (t4.below (Nat.le_trans hb4.size hb5.size) (fun b e => (r5.lt b e).1))
  obtain ⟨a2', c2', e2, d2⟩ := brow_shape r2
  obtain ⟨a4', c4', e4, d4⟩ := abrow_shape r6
  injection e2 with e2a e2b e2c
  injection e4 with e4a e4b e4c
  subst e2a e2b e2c e4a e4b e4c
  obtain ⟨g2, hg2⟩ := brow_some r2 (by simp)
  obtain ⟨g4, hg4⟩ := abrow_some r6 (by simp)
  subst hg2 hg4
  have r2' : BRow w1.heap.size wh (.slice (some ⟨g2, 0, none⟩) (ks ++ [777]).length c2) (ks ++ [777]) := brow_low (brow_kept r2 (fun b e => hb6.block b (r2.lt b e).2)) h.1.size
  have r6' : ABRow w1.heap.size wh (.slice (some ⟨g4, 0, none⟩) (l ++ [(7, 8)]).length c4) (l ++ [(7, 8)]) := abrow_low r6 (Nat.le_trans h.1.size hb2.size)
  have hR := h3.below hb6
  rw [List.length_append] at q2 q4 r2' r6' d2 d4
  exact ⟨a1, n1, c1, wb, g2, c2, wd, a3, n3, c3, wf, g4, c4, wh, q1, q2, q3, q4, d2, d4, hR.1, hR.2.1, hR.2.2.1, r2', r6'⟩
theorem abrow_take {B : Nat} {w : World} {g n c : Nat} {l : List (Int × Int)} (h : ABRow B w (.slice (some ⟨g, 0, none⟩) n c) l) {m : Nat} (hm : m ≤ n) : ABRow B w (.slice (some ⟨g, 0, none⟩) m c) (l.take m) := by
  obtain ⟨h1, h2⟩ := h
  rcases h2 with ⟨e, -⟩ | ⟨g', cap, cur, e, hb, hh, h3, h4, h5, h6⟩
  · cases e
  · injection e with e1 e2 e3
    injection e1 with e1
    injection e1 with e1
    subst e1 e2 e3
    have hl : (l.take m).length = m := by rw [List.length_take]; omega
    refine ⟨by rw [hl, encA_len, hl], .inr ⟨g, c, cur, by rw [hl], hb, hh, by rw [hl]; omega, h4, h5, ?_⟩⟩
    have e1 : encA (l.take m) = (encA l).take (m * 2) := by
      have h7 : encA l = encA (l.take m) ++ encA (l.drop m) := by rw [← encA_append, List.take_append_drop]
      rw [h7, List.take_left' (by rw [encA_len, hl])]
    rw [hl, e1, ← h6, List.take_take, Nat.min_eq_left (by omega)]
theorem lls_nil (w0 w : World) : LLs w0 (.slice none 0 0) [] w := ⟨fun _ => 0, [], ⟨rfl, .inl ⟨rfl, rfl⟩⟩, fun i x ks h => (by cases h), fun b e => (by cases e), fun i x b h => (by cases h)⟩
section
variable {w1 wh W : World} {ks : List Int} {l : List (Int × Int)} {v1 v2 : Value} {gv ga p1 p2 dv da n1 n2 : Nat}
theorem FG.rows (hF : FG w1 ks l v1 v2 (.slice (some ⟨gv, 0, none⟩) p1 dv) (.slice (some ⟨ga, 0, none⟩) p2 da) wh) (h1 : n1 = ks.length) (h2 : n2 = l.length) : NRow wh (.slice (some ⟨gv, 0, none⟩) n1 dv) ks ∧ ARow wh (.slice (some ⟨ga, 0, none⟩) n2 da) l := by
  obtain ⟨x, c, e, -⟩ := brow_shape hF.2.2.2.1
  obtain ⟨y, d, e', -⟩ := abrow_shape hF.2.2.2.2
  have e1 : p1 = (ks ++ [777]).length := by injection e
  have e2 : p2 = (l ++ [(7, 8)]).length := by injection e'
  have r1 := brow_take hF.2.2.2.1 (m := n1) (by rw [e1]; simp; omega)
  have r2 := abrow_take hF.2.2.2.2 (m := n2) (by rw [e2]; simp; omega)
  rw [List.take_left' h1.symm] at r1
  rw [List.take_left' h2.symm] at r2
  exact ⟨brow_at0 r1, arow_zero r2⟩
theorem FG.cells (hF : FG w1 ks l v1 v2 (.slice (some ⟨gv, 0, none⟩) p1 dv) (.slice (some ⟨ga, 0, none⟩) p2 da) wh) (h1 : n1 = ks.length) (h2 : n2 = l.length) : wh.cell? ⟨gv, n1, none⟩ = some (.int .i64 777) ∧ wh.cell? ⟨ga, n2 * 2, none⟩ = some (.int .i64 7) ∧ wh.cell? ⟨ga, n2 * 2 + 1, none⟩ = some (.int .i64 8) := by
  have r1 := brow_at hF.2.2.2.1 (j := n1) (e := 777) (by rw [h1, List.getElem?_append_right (Nat.le_refl _), Nat.sub_self]; rfl)
  have r2 := arow_at (arow_zero hF.2.2.2.2) (i := n2) (a := (7, 8)) (by rw [h2, List.getElem?_append_right (Nat.le_refl _), Nat.sub_self]; rfl)
  exact ⟨r1, r2.1, r2.2⟩
theorem FG.arcs (hF : FG w1 ks l v1 v2 (.slice (some ⟨gv, 0, none⟩) p1 dv) (.slice (some ⟨ga, 0, none⟩) p2 da) wh) {i : Nat} {a : Int × Int} (hi : l[i]? = some a) : wh.cell? ⟨ga, i * 2, none⟩ = some (.int .i64 a.1) ∧ wh.cell? ⟨ga, i * 2 + 1, none⟩ = some (.int .i64 a.2) :=
  arow_at (arow_zero hF.2.2.2.2) (by rw [List.getElem?_append_left (List.getElem?_eq_some_iff.1 hi).1]; exact hi)
theorem ofU (hF : FG w1 ks l v1 v2 (.slice (some ⟨gv, 0, none⟩) p1 dv) (.slice (some ⟨ga, 0, none⟩) p2 da) wh) (h1 : n1 = ks.length) (h2 : n2 = l.length) (hk : ks.length ≤ 1000) (hl : l.length ≤ 1000) (W : World) (hb : Below wh.heap.size wh W) :
    Calls Try.prog 10 #[.slice (some ⟨gv, 0, none⟩) n1 dv, .slice (some ⟨ga, 0, none⟩) n2 da] W fun e w' => Hid (∃ y c xss, e = .returned (.tuple #[y, .int .i64 c]) ∧ OfA ks l c xss ∧ LLs wh y xss w' ∧ Below wh.heap.size wh w') := by
  obtain ⟨r1, r2⟩ := (hF.below hb).rows h1 h2
  refine (ofS r1 r2 hk hl).mono ?_
  intro e w' hh
  obtain ⟨hb2, hcase⟩ := unhide hh
  have hb3 := hb.trans (hb2.mono hb.size)
  rcases hcase with ⟨q, rfl⟩ | ⟨q1, q2, rfl⟩ | ⟨q1, q2, y, V, rfl, hp, hs, h, hH, -, hL⟩
  · exact ⟨_, _, [], rfl, .inl ⟨q, rfl, rfl⟩, lls_nil _ _, hb3⟩
  · exact ⟨_, _, [], rfl, .inr (.inl ⟨q1, q2, rfl, rfl⟩), lls_nil _ _, hb3⟩
  · exact ⟨_, _, _, rfl, .inr (.inr ⟨q1, q2, rfl, V, h, hp, hs, hH, rfl⟩), lls_low hL hb.size, hb3⟩
theorem orderU [Inhabited EntI] (hF : FG w1 ks l v1 v2 (.slice (some ⟨gv, 0, none⟩) p1 dv) (.slice (some ⟨ga, 0, none⟩) p2 da) wh) (h1 : n1 = ks.length) (h2 : n2 = l.length) (hk : ks.length ≤ 1000) (hl : l.length ≤ 1000) (W : World) (hb : Below wh.heap.size wh W) :
    Calls Try.prog 11 #[.slice (some ⟨gv, 0, none⟩) n1 dv, .slice (some ⟨ga, 0, none⟩) n2 da] W fun e w' => Hid (∃ y c xs, e = .returned (.tuple #[y, .int .i64 c]) ∧ OrA ks l c xs ∧ BRow wh.heap.size w' y xs ∧ Below wh.heap.size wh w') := by
  obtain ⟨r1, r2⟩ := (hF.below hb).rows h1 h2
  refine (orderOfS r1 r2 hk hl).mono ?_
  intro e w' hh
  obtain ⟨hb2, hcase⟩ := unhide hh
  have hb3 := hb.trans (hb2.mono hb.size)
  rcases hcase with ⟨q, rfl⟩ | ⟨q1, q2, rfl⟩ | ⟨q1, q2, y, V, rfl, hp, hs, h, T, hH, -, hT, hall, hL⟩
  · exact ⟨_, _, [], rfl, .inl ⟨q, rfl, rfl⟩, ⟨rfl, .inl ⟨rfl, rfl⟩⟩, hb3⟩
  · exact ⟨_, _, [], rfl, .inr (.inl ⟨q1, q2, rfl, rfl⟩), ⟨rfl, .inl ⟨rfl, rfl⟩⟩, hb3⟩
  · exact ⟨_, _, _, rfl, .inr (.inr ⟨q1, q2, rfl, V, h, T, hp, hs, hH, hT, hall, rfl⟩), brow_low hL hb.size, hb3⟩
theorem acU (hF : FG w1 ks l v1 v2 (.slice (some ⟨gv, 0, none⟩) p1 dv) (.slice (some ⟨ga, 0, none⟩) p2 da) wh) (h1 : n1 = ks.length) (h2 : n2 = l.length) (hk : ks.length ≤ 1000) (hl : l.length ≤ 1000) (W : World) (hb : Below wh.heap.size wh W) :
    Calls Try.prog 12 #[.slice (some ⟨gv, 0, none⟩) n1 dv, .slice (some ⟨ga, 0, none⟩) n2 da] W fun e w' => Hid (∃ b c, e = .returned (.tuple #[.bool b, .int .i64 c]) ∧ Below wh.heap.size wh w') := by
  obtain ⟨r1, r2⟩ := (hF.below hb).rows h1 h2
  refine (acyclicOfS r1 r2 hk hl).mono ?_
  intro e w' hh
  obtain ⟨hb2, hcase⟩ := unhide hh
  have hb3 := hb.trans (hb2.mono hb.size)
  rcases hcase with ⟨q, rfl⟩ | ⟨q1, q2, rfl⟩ | ⟨q1, q2, v, V', rfl, hp', hs', b, h2, rfl, -⟩
  · exact ⟨_, _, rfl, hb3⟩
  · exact ⟨_, _, rfl, hb3⟩
  · exact ⟨_, _, rfl, hb3⟩
end
/-- The lists put together: one list of lists, each list in a block of its own. -/
theorem own_start {w0 w3 W : World} {vl vo : Value} {A : List (List Int)} {X : List Int} (hl : LLs w0 vl A w3) (hb : Below w3.heap.size w3 W) (ho : BRow w3.heap.size W vo X) (h03 : w0.heap.size ≤ w3.heap.size) (hA : A.length ≤ 1000) :
    ∃ a1 n1 c1 wb g2 c2 wd vs L,
      (∀ ty, (Builtin.append_ #[27, 27] ty #[.slice (some ⟨W.heap.size, 0, none⟩) 0 0, vl]).run Try.prog (W.alloc (.cells #[] 22)) = .ok (.slice a1 n1 c1) wb) ∧
      (∀ ty, (Builtin.append_ #[27, 27] ty #[.slice a1 n1 c1, .slice (some ⟨wb.heap.size, 0, none⟩) 1 1]).run Try.prog (wb.alloc (.cells #[vo] 22)) = .ok (.slice (some ⟨g2, 0, none⟩) (A.length + 1) c2) wd) ∧
      Below W.heap.size W wd ∧ OwG w0.heap.size L wd (.slice (some ⟨g2, 0, none⟩) (A.length + 1) c2) vs (.slice none 0 0) 0 vs (A ++ [X]) := by
  obtain ⟨L, lvs, hL3⟩ := hl
  have hL := hL3.below hb
  have hlen := hL.len
  have h0W : w0.heap.size ≤ W.heap.size := Nat.le_trans h03 hb.size
  have hb0 := below_new W (.cells #[] 22)
  have r0 : HRow W.heap.size (W.alloc (.cells #[] 22)) (.slice (some ⟨W.heap.size, 0, none⟩) 0 0) [] := ⟨rfl, .inr ⟨W.heap.size, 0, #[], rfl, Nat.le_refl _, heap_alloc_new _ _, Nat.le_refl _, by unfold maxLen; omega, rfl, rfl⟩⟩
  have hL0 := hL.below hb0
  have hone : ∀ u ∈ lvs, u.oneCell' = true := fun u hu => by
    obtain ⟨i, hi⟩ := List.mem_iff_getElem?.1 hu
    have hil : i < A.length := by rw [← hlen]; exact (List.getElem?_eq_some_iff.1 hi).1
    obtain ⟨a, c, e, -⟩ := brow_shape (hL.inner i u _ hi (List.getElem?_eq_getElem hil))
    rw [e]; rfl
  have hone2 : vo.oneCell' = true := by
    obtain ⟨a, c, e, -⟩ := brow_shape ho
    rw [e]; rfl
  have happ : ∃ a1 n1 c1 wb, (∀ ty, (Builtin.append_ #[27, 27] ty #[.slice (some ⟨W.heap.size, 0, none⟩) 0 0, vl]).run Try.prog (W.alloc (.cells #[] 22)) = .ok (.slice a1 n1 c1) wb) ∧ HRow W.heap.size wb (.slice a1 n1 c1) lvs ∧ Below W.heap.size W wb := by
    rcases hL0.outer.2 with ⟨e, h0⟩ | ⟨g, cap, cur, e, -⟩
    · have e2 : lvs = [] := List.eq_nil_of_length_eq_zero (by omega)
      subst e e2
      exact ⟨_, _, _, _, fun ty => run_append_nilH _ _ 0 0 (Nat.le_refl _) ty, r0, hb0⟩
    · subst e
      obtain ⟨a1, n1, c1, wb, q, r, t, -⟩ := run_appH (l2 := lvs) (ad := ⟨g, 0, none⟩) (c := cap) r0 hb0.size (hL0.outer.cells (g := g) rfl) hone (by simp; omega)
      rw [hlen] at q
      exact ⟨a1, n1, c1, wb, q, by simpa using r, hb0.trans (t.below hb0.size (fun b e => (r0.lt b e).1))⟩
  obtain ⟨a1, n1, c1, wb, q1, r1, b1⟩ := happ
  have hb2 := below_new wb (.cells #[vo] 22)
  have r2 : HRow W.heap.size (wb.alloc (.cells #[vo] 22)) (.slice a1 n1 c1) lvs := hrow_kept r1 (fun b e => hb2.block b (r1.lt b e).2)
  obtain ⟨a2, n2, c2, wd, q2, r3, t3, -⟩ := run_appH (l2 := [vo]) (ad := ⟨wb.heap.size, 0, none⟩) (c := 1) r2 (Nat.le_trans b1.size hb2.size) (cell_one_new wb _ _) (by intro u hu; rw [List.mem_singleton.1 hu]; exact hone2) (by simp; omega)
  have b3 : Below W.heap.size W wd := (b1.trans (hb2.mono b1.size)).trans (t3.below (Nat.le_trans b1.size hb2.size) (fun b e => (r2.lt b e).1))
  obtain ⟨a2', c2', e2, -⟩ := hrow_shape r3
  injection e2 with e2a e2b e2c
  subst e2a e2b e2c
  obtain ⟨g2, hg2⟩ := hrow_some r3 (by simp)
  subst hg2
  have hLd := hL.below b3
  have hod : BRow w3.heap.size wd vo X := brow_kept ho (fun b e => b3.block b (ho.lt b e).2)
  have hvl : (lvs ++ [vo]).length = A.length + 1 := by simp [hlen]
  refine ⟨a1, n1, c1, wb, g2, c2, wd, lvs ++ [vo], fun b => if b < w3.heap.size then L b - 8 else if b < W.heap.size then 3 + A.length else 1, q1, fun ty => by rw [← hvl]; exact q2 ty, b3, ?_⟩
  refine ⟨by rw [← hvl]; exact hrow_low r3 h0W, ⟨rfl, .inl ⟨rfl, rfl⟩⟩, by simp [hlen], fun i x ks h1 h2 => ?_, fun b e => ?_, fun b e => (by cases e), fun i x b h1 e => ?_⟩
  · rcases Nat.lt_or_ge i lvs.length with q | q
    · rw [List.getElem?_append_left q] at h1
      rw [List.getElem?_append_left (by omega)] at h2
      exact hLd.inner i x ks h1 h2
    · have hi : i = lvs.length := by have := (List.getElem?_eq_some_iff.1 h1).1; simp at this; omega
      subst hi
      rw [List.getElem?_append_right (Nat.le_refl _), Nat.sub_self] at h1
      rw [hlen, List.getElem?_append_right (Nat.le_refl _), Nat.sub_self] at h2
      have h1 := Option.some.inj (show some vo = some x from h1)
      have h2 := Option.some.inj (show some X = some ks from h2)
      subst h1 h2
      exact brow_low hod h03
  · have h5 := (r3.lt b e).1
    have := hb.size
    show (if b < w3.heap.size then L b - 8 else if b < W.heap.size then 3 + A.length else 1) = 1
    rw [if_neg (by omega), if_neg (by omega)]
  · show (if b < w3.heap.size then L b - 8 else if b < W.heap.size then 3 + A.length else 1) = 3 + i
    rcases Nat.lt_or_ge i lvs.length with q | q
    · rw [List.getElem?_append_left q] at h1
      have h5 := (hL3.inlt h1 e).2
      have h6 := hL3.li i x b h1 e
      rw [if_pos h5, h6]; omega
    · have hi : i = lvs.length := by have := (List.getElem?_eq_some_iff.1 h1).1; simp at this; omega
      subst hi
      rw [List.getElem?_append_right (Nat.le_refl _), Nat.sub_self] at h1
      have h1 := Option.some.inj (show some vo = some x from h1)
      subst h1
      have h5 := ho.lt b e
      rw [if_neg (by omega), if_pos (by omega), hlen]
/-- The heads of the lists: how long they are. -/
theorem OwG.heads {B k : Nat} {L : Nat → Nat} {w : World} {v g : Value} {vs : List Value} {xss : List (List Int)} (h : OwG B L w v vs g k vs xss) {i : Nat} {x : Value} {ks : List Int} (hi : vs[i]? = some x) (hk : xss[i]? = some ks) : ∃ a c, x = .slice a ks.length c := by
  obtain ⟨a, c, e, -⟩ := brow_shape (h.inner i x ks hi hk)
  exact ⟨a, c, e⟩
theorem few_in {ks : List Int} {l : List (Int × Int)} {c : Int} {xs : List (List Int)} (h : OfA ks l c xs) (hk : ks.length ≤ 1000) : ∀ y ∈ xs, y.length ≤ 1000 := by
  rcases h with ⟨-, -, rfl⟩ | ⟨-, -, -, rfl⟩ | ⟨-, -, -, V, f, hp, -, -, rfl⟩
  · simp
  · simp
  · have hl := hp.length_eq
    intro y hy
    obtain ⟨c, hc, rfl⟩ := List.mem_map.1 hy
    obtain ⟨m, -, rfl⟩ := List.mem_map.1 hc
    have := partTo_le f V.length m
    simp only [cv, List.length_map]; omega
theorem few_or {ks : List Int} {l : List (Int × Int)} {c : Int} {xs : List Int} (h : OrA ks l c xs) (hk : ks.length ≤ 1000) : xs.length ≤ 1000 := by
  rcases h with ⟨-, -, rfl⟩ | ⟨-, -, -, rfl⟩ | ⟨-, -, -, V, f, T, hp, -, -, hT, ha, rfl⟩
  · simp
  · simp
  · have hl := hp.length_eq
    have := headsTo_le f V.length
    simp only [cv, List.length_map]
    rw [hT.length_all (headsTo_nodup _ _) ha]; omega
end

section
open Go.RowKit Go.Maps T9
/-- The first region of a piece of code. -/
def firstId : Code → Option Nat
  | .region id _ _ => some id
  | .seq a _ => firstId a
  | .block _ c => firstId c
  | .loop c => firstId c
  | .scope c => firstId c
  | _ => none
/-- The code from the region n on. -/
def fromRegion (n : Nat) : Code → Option Code
  | .seq a b => if firstId a = some n then some (.seq a b) else match fromRegion n a with
    | some c => some c
    | none => fromRegion n b
  | .cond _ a b => match fromRegion n a with
    | some c => some c
    | none => fromRegion n b
  | .block _ c => fromRegion n c
  | .loop c => fromRegion n c
  | .scope c => fromRegion n c
  | _ => none
theorem wrapD1 {i : Nat} (h : i ≤ 100000) : wrap64 (-1000 - (i : Int)) = -1000 - (i : Int) := by unfold wrap64; omega
theorem wrapD2 {i : Nat} (h : i ≤ 100000) : IntKind.i64.wrap (-1000 - (i : Int)) = -1000 - (i : Int) := by rw [IntKind.wrap_i64]; omega
theorem wrapU1 {i : Nat} (h : i ≤ 100000) : wrap64 (1000 + (i : Int)) = 1000 + (i : Int) := by unfold wrap64; omega
theorem wrapU2 {i : Nat} (h : i ≤ 100000) : IntKind.i64.wrap (1000 + (i : Int)) = 1000 + (i : Int) := by rw [IntKind.wrap_i64]; omega
set_option maxHeartbeats 16000000 in
set_option maxRecDepth 100000 in
theorem ownE3 {w wh wr : World} {zs : List (List Int)} {vs xs : List Value} {ha : Option Addr} {gl cl hn hc : Nat} (a0 a1 a2 a3 a4 a5 a6 a7 a8 a9 a10 a11 a13 a14 a16 a17 a18 a19 a20 a21 a22 a23 a24 a25 a26 a27 a28 a29 a30 a31 a32 a33 a34 a35 a36 a37 a38 a39 a40 a41 a42 a43 a44 a45 a46 a47 a48 a49 a50 a51 a52 a53 a54 a55 a56 a57 a58 a59 a60 a61 a62 a63 a64 a65 a66 a67 a68 a69 a70 a71 a72 a73 a74 a75 a76 a77 a78 a79 a80 a81 a82 a83 a84 a85 a86 a87 a88 a89 a90 a91 a92 a93 a94 a95 a96 a97 a98 a99 a100 a101 a102 a103 a104 a105 a106 a107 a108 a109 a110 a111 a112 a113 a114 a115 a116 a117 a118 a119 a120 a121 a122 a123 a124 a125 a126 a127 a128 a129 a130 a131 a132 a133 a134 a135 a136 a137 a138 a139 a140 a141 a142 a143 a144 a145 a146 a147 a148 a149 a150 a151 a152 a153 a154 a155 a156 a157 a158 a159 a160 a161 a162 a163 a164 a165 a166 a167 a168 a169 a170 a171 a172 a173 a174 a175 a176 a177 a178 a179 a180 a181 a182 a183 a184 a185 a186 a187 a188 a189 a190 a191 a192 a193 a194 a195 a196 a197 a198 a199 a200 a201 a202 a203 a204 a205 a206 a207 a208 a209 a210 a211 a212 a213 a214 a215 a216 a217 a218 a219 a220 a221 a222 a223 a224 a225 a226 a227 a228 : Value) (Q : Exit → Act → World → Prop)
    (HZ : Hid (hn = zs.length ∧ hn ≤ 1001 ∧ (∀ (j : Nat) (ks : List Int), zs[j]? = some ks → ks.length ≤ 1000) ∧ vs.length = hn)) (HV : Hid (∀ (j : Nat) (x : Value) (ks : List Int), vs[j]? = some x → zs[j]? = some ks → ∃ a c, x = .slice a ks.length c)) (HE : Hid (∃ L xss, OwG wh.heap.size L wr (.slice (some ⟨gl, 0, none⟩) hn cl) vs (.slice ha hn hc) hn xs xss ∧ Gw zs xss hn 0 ∧ xs.length = hn ∧ Below w.heap.size w wr))
    (HQ : Hid (∀ (b19 b20 b174 b175 b176 b177 b178 b179 b180 b181 b182 b183 b184 b185 b186 b187 b188 b189 b190 b191 b192 b193 b194 b195 b196 b197 b198 b199 b200 b201 b202 b203 b204 b205 b206 b207 b208 b209 b210 b211 b212 b213 b214 b215 b216 b217 b218 b219 b220 b221 b222 b223 b224 b225 b226 b227 b228 : Value) (wz : World), Below w.heap.size w wz → Q .ret ⟨#[a0, a1, a2, a3, .bool true, a5, a6, a7, a8, a9, a10, a11, .slice (some ⟨gl, 0, none⟩) hn cl, a13, a14, .slice ha hn hc, a16, a17, a18, b19, b20, a21, a22, a23, a24, a25, a26, a27, a28, a29, a30, a31, a32, a33, a34, a35, a36, a37, a38, a39, a40, a41, a42, a43, a44, a45, a46, a47, a48, a49, a50, a51, a52, a53, a54, a55, a56, a57, a58, a59, a60, a61, a62, a63, a64, a65, a66, a67, a68, a69, a70, a71, a72, a73, a74, a75, a76, a77, a78, a79, a80, a81, a82, a83, a84, a85, a86, a87, a88, a89, a90, a91, a92, a93, a94, a95, a96, a97, a98, a99, a100, a101, a102, a103, a104, a105, a106, a107, a108, a109, a110, a111, a112, a113, a114, a115, a116, a117, a118, a119, a120, a121, a122, a123, a124, a125, a126, a127, a128, a129, a130, a131, a132, a133, a134, a135, a136, a137, a138, a139, a140, a141, a142, a143, a144, a145, a146, a147, a148, a149, a150, a151, a152, a153, a154, a155, a156, a157, a158, a159, a160, a161, a162, a163, a164, a165, a166, a167, a168, a169, a170, a171, a172, a173, b174, b175, b176, b177, b178, b179, b180, b181, b182, b183, b184, b185, b186, b187, b188, b189, b190, b191, b192, b193, b194, b195, b196, b197, b198, b199, b200, b201, b202, b203, b204, b205, b206, b207, b208, b209, b210, b211, b212, b213, b214, b215, b216, b217, b218, b219, b220, b221, b222, b223, b224, b225, b226, b227, b228], []⟩ wz)) :
    Code.wp Try.prog ((Try.f7.body.bind (fromRegion 39)).getD .skip) Q ⟨#[a0, a1, a2, a3, a4, a5, a6, a7, a8, a9, a10, a11, .slice (some ⟨gl, 0, none⟩) hn cl, a13, a14, .slice ha hn hc, a16, a17, a18, a19, a20, a21, a22, a23, a24, a25, a26, a27, a28, a29, a30, a31, a32, a33, a34, a35, a36, a37, a38, a39, a40, a41, a42, a43, a44, a45, a46, a47, a48, a49, a50, a51, a52, a53, a54, a55, a56, a57, a58, a59, a60, a61, a62, a63, a64, a65, a66, a67, a68, a69, a70, a71, a72, a73, a74, a75, a76, a77, a78, a79, a80, a81, a82, a83, a84, a85, a86, a87, a88, a89, a90, a91, a92, a93, a94, a95, a96, a97, a98, a99, a100, a101, a102, a103, a104, a105, a106, a107, a108, a109, a110, a111, a112, a113, a114, a115, a116, a117, a118, a119, a120, a121, a122, a123, a124, a125, a126, a127, a128, a129, a130, a131, a132, a133, a134, a135, a136, a137, a138, a139, a140, a141, a142, a143, a144, a145, a146, a147, a148, a149, a150, a151, a152, a153, a154, a155, a156, a157, a158, a159, a160, a161, a162, a163, a164, a165, a166, a167, a168, a169, a170, a171, a172, a173, a174, a175, a176, a177, a178, a179, a180, a181, a182, a183, a184, a185, a186, a187, a188, a189, a190, a191, a192, a193, a194, a195, a196, a197, a198, a199, a200, a201, a202, a203, a204, a205, a206, a207, a208, a209, a210, a211, a212, a213, a214, a215, a216, a217, a218, a219, a220, a221, a222, a223, a224, a225, a226, a227, a228], []⟩ wr := by
  conv => arg 2; whnf
  go_upto_region 40 with fail
  go_loopw [176, 19, 20] (fun s176 s19 s20 W => ∃ i : Nat, s176 = .int .i64 (i : Nat) ∧ W = wr ∧ i ≤ hn) (fun s176 _ _ _ => hn - (intOf s176).toNat)
  case atStart => exact ⟨0, rfl, rfl, Nat.zero_le _⟩
  case round =>
    obtain ⟨i, rfl, rfl, hi⟩ := hrel
    obtain ⟨L, xss, hO, hGw, hxl, hBw⟩ := unhide HE
    obtain ⟨l1, l2, l3, l4⟩ := unhide HZ
    by_cases hlt : i < hn
    · obtain ⟨kz, hzi⟩ : ∃ kz, zs[i]? = some kz := ⟨_, List.getElem?_eq_getElem (by omega)⟩
      obtain ⟨x, hvi⟩ : ∃ x, vs[i]? = some x := ⟨_, List.getElem?_eq_getElem (by omega)⟩
      obtain ⟨xa, xc2, hxe⟩ := unhide HV i x kz hvi hzi
      obtain ⟨nk, hnk⟩ : ∃ nk, nk = kz.length := ⟨_, rfl⟩
      rw [← hnk] at hxe
      subst hxe
      obtain ⟨x', hxi⟩ : ∃ x, xs[i]? = some x := ⟨_, List.getElem?_eq_getElem (by omega)⟩
      obtain ⟨ys, hys, hyr⟩ := hO.inrow hxi
      obtain ⟨ys', hys', hyl, hyc⟩ := hGw i kz hzi
      obtain rfl : ys' = ys := by rw [hys] at hys'; injection hys' with e; exact e.symm
      rw [if_pos hlt] at hyl
      obtain ⟨ya, yc2, hye, -⟩ := brow_shape hyr
      obtain ⟨ny, hny⟩ : ∃ ny, ny = ys'.length := ⟨_, rfl⟩
      rw [← hny] at hye
      subst hye
      obtain ⟨gy, hgy⟩ := brow_some hyr (by omega)
      subst hgy
      obtain ⟨gg, hgg⟩ := hrow_some hO.gro (by rw [List.length_take]; omega)
      subst hgg
      have k1 := hrow_at hO.outer hvi
      have k2 := hrow_at hO.gro (j := i) (by rw [List.getElem?_take, if_pos hlt]; exact hxi)
      have z1 : (i : Int) < (hn : Int) := by omega
      have HII : Hid (BRow wh.heap.size wr (.slice (some ⟨gy, 0, none⟩) ny yc2) ys' ∧ ny = ys'.length ∧ ny ≤ 2000 ∧ ∀ k : Nat, k < ny → ys'[k]? = some (if k < nk then -1000 - (i : Int) else 1000 + (i : Int))) := ⟨hyr, hny, by have := l3 i kz hzi; omega, fun k hk => by rw [hnk]; exact hyc k (by omega)⟩
      have HIJ : Hid (i < hn) := hlt
      clear hO hGw hxl hBw hvi hzi hnk l1 l2 l3 l4 hi hlt hxi hys hyr hys' hyl hyc hny
      go_upto_region 43 with fail
      go_loopw [184, 20] (fun s184 s20 W => ∃ k : Nat, s184 = .int .i64 (k : Nat) ∧ W = wr ∧ k ≤ ny) (fun s184 _ _ => ny - (intOf s184).toNat)
      case atStart => exact ⟨0, rfl, rfl, Nat.zero_le _⟩
      case round =>
        obtain ⟨k, rfl, rfl, hk⟩ := hrel
        obtain ⟨hyr, hny, hny2, hyc⟩ := unhide HII
        by_cases hkl : k < ny
        · have k3 := brow_at hyr (hyc k hkl)
          obtain ⟨k1', hk1⟩ : ∃ k1', k1' = k + 1 := ⟨_, rfl⟩
          have zk : Hid (wrap64 ((k : Int) + 1) = (k1' : Int)) := by show wrap64 ((k : Int) + 1) = (k1' : Int); unfold wrap64; omega
          have HKK : Hid (k1' ≤ ny ∧ ny - k1' < ny - k) := ⟨by omega, by omega⟩
          have HK1 := hide hk1
          have z2 : (k : Int) < (ny : Int) := by omega
          by_cases hkn : k < nk
          · rw [if_pos hkn] at k3
            obtain ⟨y, hy⟩ : ∃ y, y = -1000 - (i : Int) := ⟨_, rfl⟩
            rw [← hy] at k3
            have hiZ : i ≤ 100000 := by have := (unhide HZ).2.1; have := unhide HIJ; omega
            have z3 : (k : Int) < (nk : Int) := by omega
            have z4 : ¬ (nk : Int) ≤ (k : Int) := by omega
            have zy1 : wrap64 (-1000 - (i : Int)) = y := by rw [hy]; exact wrapD1 hiZ
            have zy2 : IntKind.i64.wrap (-1000 - (i : Int)) = y := by rw [hy]; exact wrapD2 hiZ
            clear hyr hny hny2 hyc hk hkl hkn hy hk1 hiZ
            go_wp2_with fail
            clear zy1 zy2
            (try rw [unhide zk])
            exact ⟨⟨k1', by first | rfl | (rw [unhide HK1]; rfl), trivial, (unhide HKK).1⟩, by have := (unhide HKK).2; simp [intOf]; omega⟩
          · rw [if_neg hkn] at k3
            obtain ⟨y, hy⟩ : ∃ y, y = 1000 + (i : Int) := ⟨_, rfl⟩
            rw [← hy] at k3
            have hiZ : i ≤ 100000 := by have := (unhide HZ).2.1; have := unhide HIJ; omega
            have z3 : ¬ (k : Int) < (nk : Int) := by omega
            have z4 : (nk : Int) ≤ (k : Int) := by omega
            have zy1 : wrap64 (1000 + (i : Int)) = y := by rw [hy]; exact wrapU1 hiZ
            have zy2 : IntKind.i64.wrap (1000 + (i : Int)) = y := by rw [hy]; exact wrapU2 hiZ
            clear hyr hny hny2 hyc hk hkl hkn hy hk1 hiZ
            go_wp2_with fail
            clear zy1 zy2
            (try rw [unhide zk])
            exact ⟨⟨k1', by first | rfl | (rw [unhide HK1]; rfl), trivial, (unhide HKK).1⟩, by have := (unhide HKK).2; simp [intOf]; omega⟩
        · have z2 : ¬ (k : Int) < (ny : Int) := by omega
          obtain ⟨i1, hi1⟩ : ∃ i1, i1 = i + 1 := ⟨_, rfl⟩
          have zk : Hid (wrap64 ((i : Int) + 1) = (i1 : Int)) := by have := (unhide HZ).2.1; have := unhide HIJ; show wrap64 ((i : Int) + 1) = (i1 : Int); unfold wrap64; omega
          have HI1 := hide hi1
          have HKK : Hid (i1 ≤ hn ∧ hn - i1 < hn - i) := by have := unhide HIJ; exact ⟨by omega, by omega⟩
          clear hyr hny hny2 hyc hk hkl hi1
          go_wp2_with fail
          (try rw [unhide zk])
          exact ⟨⟨i1, by first | rfl | (rw [unhide HI1]; rfl), trivial, (unhide HKK).1⟩, by have := (unhide HKK).2; simp [intOf]; omega⟩
    · have z1 : ¬ (i : Int) < (hn : Int) := by omega
      have HEND := hide hBw
      clear hO hGw hxl hBw l1 l2 l3 l4 hi hlt
      go_wp2_with fail
      exact unhide HQ _ _ _ _ _ _ _ _ _ _ _ _ _ _ _ _ _ _ _ _ _ _ _ _ _ _ _ _ _ _ _ _ _ _ _ _ _ _ _ _ _ _ _ _ _ _ _ _ _ _ _ _ _ _ _ _ _ _ (unhide HEND)
end

section
open Go.RowKit Go.Maps T9
set_option maxHeartbeats 16000000 in
set_option maxRecDepth 100000 in
theorem ownE2 {w wh wr : World} {zs : List (List Int)} {vs : List Value} {gl cl m : Nat} (a0 a1 a2 a3 a4 a5 a6 a7 a8 a9 a10 a11 a13 a14 a15 a16 a17 a18 a19 a20 a21 a22 a23 a24 a25 a26 a27 a28 a29 a30 a31 a32 a33 a34 a35 a36 a37 a38 a39 a40 a41 a42 a43 a44 a45 a46 a47 a48 a49 a50 a51 a52 a53 a54 a55 a56 a57 a58 a59 a60 a61 a62 a63 a64 a65 a66 a67 a68 a69 a70 a71 a72 a73 a74 a75 a76 a77 a78 a79 a80 a81 a82 a83 a84 a85 a86 a87 a88 a89 a90 a91 a92 a93 a94 a95 a96 a97 a98 a99 a100 a101 a102 a103 a104 a105 a106 a107 a108 a109 a110 a111 a112 a113 a114 a115 a116 a117 a118 a119 a120 a121 a122 a123 a124 a125 a126 a127 a128 a129 a130 a131 a132 a133 a134 a135 a136 a137 a138 a139 a140 a141 a142 a143 a144 a145 a146 a147 a148 a149 a150 a151 a152 a153 a154 a155 a156 a157 a158 a159 a160 a161 a162 a163 a164 a165 a166 a167 a168 a169 a170 a171 a172 a173 a174 a175 a176 a177 a178 a179 a180 a181 a182 a183 a184 a185 a186 a187 a188 a189 a190 a191 a192 a193 a194 a195 a196 a197 a198 a199 a200 a201 a202 a203 a204 a205 a206 a207 a208 a209 a210 a211 a212 a213 a214 a215 a216 a217 a218 a219 a220 a221 a222 a223 a224 a225 a226 a227 a228 : Value) (Q : Exit → Act → World → Prop)
    (HZ : Hid (m = zs.length ∧ m ≤ 1001 ∧ (∀ (j : Nat) (ks : List Int), zs[j]? = some ks → ks.length ≤ 1000) ∧ vs.length = m)) (HV : Hid (∀ (j : Nat) (x : Value) (ks : List Int), vs[j]? = some x → zs[j]? = some ks → ∃ a c, x = .slice a ks.length c)) (HW0 : Hid (w.heap.size ≤ wh.heap.size)) (HG : Hid (∃ L xs xss, OwG wh.heap.size L wr (.slice (some ⟨gl, 0, none⟩) m cl) vs (.slice none 0 0) 0 xs xss ∧ Gw zs xss 0 0 ∧ xs.length = m ∧ (∀ j : Nat, 0 ≤ j → xs[j]? = vs[j]?) ∧ Below w.heap.size w wr ∧ wh.heap.size ≤ wr.heap.size))
    (HQ : Hid (∀ (b15 b16 b17 b18 b19 b20 b151 b152 b153 b154 b155 b156 b157 b158 b159 b160 b161 b162 b163 b164 b165 b166 b167 b168 b169 b170 b171 b172 b173 b174 b175 b176 b177 b178 b179 b180 b181 b182 b183 b184 b185 b186 b187 b188 b189 b190 b191 b192 b193 b194 b195 b196 b197 b198 b199 b200 b201 b202 b203 b204 b205 b206 b207 b208 b209 b210 b211 b212 b213 b214 b215 b216 b217 b218 b219 b220 b221 b222 b223 b224 b225 b226 b227 b228 : Value) (wz : World), Below w.heap.size w wz → Q .ret ⟨#[a0, a1, a2, a3, .bool true, a5, a6, a7, a8, a9, a10, a11, .slice (some ⟨gl, 0, none⟩) m cl, a13, a14, b15, b16, b17, b18, b19, b20, a21, a22, a23, a24, a25, a26, a27, a28, a29, a30, a31, a32, a33, a34, a35, a36, a37, a38, a39, a40, a41, a42, a43, a44, a45, a46, a47, a48, a49, a50, a51, a52, a53, a54, a55, a56, a57, a58, a59, a60, a61, a62, a63, a64, a65, a66, a67, a68, a69, a70, a71, a72, a73, a74, a75, a76, a77, a78, a79, a80, a81, a82, a83, a84, a85, a86, a87, a88, a89, a90, a91, a92, a93, a94, a95, a96, a97, a98, a99, a100, a101, a102, a103, a104, a105, a106, a107, a108, a109, a110, a111, a112, a113, a114, a115, a116, a117, a118, a119, a120, a121, a122, a123, a124, a125, a126, a127, a128, a129, a130, a131, a132, a133, a134, a135, a136, a137, a138, a139, a140, a141, a142, a143, a144, a145, a146, a147, a148, a149, a150, b151, b152, b153, b154, b155, b156, b157, b158, b159, b160, b161, b162, b163, b164, b165, b166, b167, b168, b169, b170, b171, b172, b173, b174, b175, b176, b177, b178, b179, b180, b181, b182, b183, b184, b185, b186, b187, b188, b189, b190, b191, b192, b193, b194, b195, b196, b197, b198, b199, b200, b201, b202, b203, b204, b205, b206, b207, b208, b209, b210, b211, b212, b213, b214, b215, b216, b217, b218, b219, b220, b221, b222, b223, b224, b225, b226, b227, b228], []⟩ wz)) :
    Code.wp Try.prog ((Try.f7.body.bind (fromRegion 28)).getD .skip) Q ⟨#[a0, a1, a2, a3, a4, a5, a6, a7, a8, a9, a10, a11, .slice (some ⟨gl, 0, none⟩) m cl, a13, a14, a15, a16, a17, a18, a19, a20, a21, a22, a23, a24, a25, a26, a27, a28, a29, a30, a31, a32, a33, a34, a35, a36, a37, a38, a39, a40, a41, a42, a43, a44, a45, a46, a47, a48, a49, a50, a51, a52, a53, a54, a55, a56, a57, a58, a59, a60, a61, a62, a63, a64, a65, a66, a67, a68, a69, a70, a71, a72, a73, a74, a75, a76, a77, a78, a79, a80, a81, a82, a83, a84, a85, a86, a87, a88, a89, a90, a91, a92, a93, a94, a95, a96, a97, a98, a99, a100, a101, a102, a103, a104, a105, a106, a107, a108, a109, a110, a111, a112, a113, a114, a115, a116, a117, a118, a119, a120, a121, a122, a123, a124, a125, a126, a127, a128, a129, a130, a131, a132, a133, a134, a135, a136, a137, a138, a139, a140, a141, a142, a143, a144, a145, a146, a147, a148, a149, a150, a151, a152, a153, a154, a155, a156, a157, a158, a159, a160, a161, a162, a163, a164, a165, a166, a167, a168, a169, a170, a171, a172, a173, a174, a175, a176, a177, a178, a179, a180, a181, a182, a183, a184, a185, a186, a187, a188, a189, a190, a191, a192, a193, a194, a195, a196, a197, a198, a199, a200, a201, a202, a203, a204, a205, a206, a207, a208, a209, a210, a211, a212, a213, a214, a215, a216, a217, a218, a219, a220, a221, a222, a223, a224, a225, a226, a227, a228], []⟩ wr := by
  conv => arg 2; whnf
  go_upto_region 30 with fail
  go_loopw [153, 15, 16, 17, 18] (fun s153 s15 s16 s17 s18 W => ∃ (i : Nat) (ha : Option Addr) (hn hc : Nat), s153 = .int .i64 (i : Nat) ∧ s15 = .slice ha hn hc ∧ i ≤ m ∧ Hid (∃ L xs xss, OwG wh.heap.size L W (.slice (some ⟨gl, 0, none⟩) m cl) vs (.slice ha hn hc) i xs xss ∧ Gw zs xss i 0 ∧ xs.length = m ∧ (∀ j : Nat, i ≤ j → xs[j]? = vs[j]?) ∧ Below w.heap.size w W ∧ wh.heap.size ≤ W.heap.size)) (fun s153 _ _ _ _ _ => m - (intOf s153).toNat)
  case atStart => exact ⟨0, none, 0, 0, rfl, rfl, Nat.zero_le _, HG⟩
  case round =>
    obtain ⟨i, ha, hn, hc, rfl, rfl, hi, hS⟩ := hrel
    clear HG
    obtain ⟨L, xs, xss, hO, hGw, hxl, hxv, hBw, hsz⟩ := unhide hS
    obtain ⟨l1, l2, l3, l4⟩ := unhide HZ
    by_cases hlt : i < m
    · obtain ⟨kz, hzi⟩ : ∃ kz, zs[i]? = some kz := ⟨_, List.getElem?_eq_getElem (by omega)⟩
      obtain ⟨x, hvi⟩ : ∃ x, vs[i]? = some x := ⟨_, List.getElem?_eq_getElem (by omega)⟩
      obtain ⟨xa, xc2, hxe⟩ := unhide HV i x kz hvi hzi
      obtain ⟨nk, hnk⟩ : ∃ nk, nk = kz.length := ⟨_, rfl⟩
      rw [← hnk] at hxe
      subst hxe
      have k1 := hrow_at hO.outer hvi
      have z1 : (i : Int) < (m : Int) := by omega
      have HS3 : Hid (∃ L xs xss, OwG wh.heap.size L wr (.slice (some ⟨gl, 0, none⟩) m cl) vs (.slice ha hn hc) i xs xss ∧ Gw zs xss i 0 ∧ xs.length = m ∧ xs[i]? = some (.slice xa nk xc2) ∧ (∀ j : Nat, i < j → xs[j]? = vs[j]?) ∧ Below w.heap.size w wr ∧ wh.heap.size ≤ wr.heap.size) := ⟨L, xs, xss, hO, hGw, hxl, by rw [hxv i (Nat.le_refl _)]; exact hvi, fun j hj => hxv j (by omega), hBw, hsz⟩
      have HII : Hid (zs[i]? = some kz ∧ kz.length ≤ 1000 ∧ i < m) := ⟨hzi, l3 i kz hzi, hlt⟩
      clear hO hGw hxl hxv hBw hsz hS hvi hzi hnk l1 l2 l3 l4 hi hlt
      go_upto_region 34 with fail
      clear k1
      go_loopw [18, 17] (fun s18 s17 W => ∃ (k : Nat) (ya : Option Addr) (yn yc : Nat), s18 = .int .i64 (k : Nat) ∧ s17 = .slice ya yn yc ∧ k ≤ 20 ∧ Hid (∃ L xs xss, OwG wh.heap.size L W (.slice (some ⟨gl, 0, none⟩) m cl) vs (.slice ha hn hc) i xs xss ∧ Gw zs xss i k ∧ xs.length = m ∧ xs[i]? = some (.slice ya yn yc) ∧ (∀ j : Nat, i < j → xs[j]? = vs[j]?) ∧ Below w.heap.size w W ∧ wh.heap.size ≤ W.heap.size)) (fun s18 _ _ => 20 - (intOf s18).toNat)
      case atStart => exact ⟨0, xa, nk, xc2, rfl, rfl, Nat.zero_le _, HS3⟩
      case round =>
        obtain ⟨k, ya, yn, yc, rfl, rfl, hk, hS2⟩ := hrel
        clear HS3
        obtain ⟨L, xs, xss, hO, hGw, hxl, hxi, hxv, hBw, hsz⟩ := unhide hS2
        obtain ⟨hzi, hkz, hlt⟩ := unhide HII
        obtain ⟨ys, hys, hyr⟩ := hO.inrow hxi
        by_cases hkl : k < 20
        · obtain ⟨hyl, hG2⟩ := hGw.step hzi hys
          obtain ⟨y, hy⟩ : ∃ y, y = 1000 + (i : Int) := ⟨_, rfl⟩
          obtain ⟨k1', hk1⟩ : ∃ k1', k1' = k + 1 := ⟨_, rfl⟩
          rw [← hy, ← hk1] at hG2
          obtain ⟨a', n', c', w', r, hb, hO2⟩ := hO.app hsz hxi hys (Nat.le_refl _) (by omega) y
          have HC : Hid (∃ L xs xss, OwG wh.heap.size L w' (.slice (some ⟨gl, 0, none⟩) m cl) vs (.slice ha hn hc) i xs xss ∧ Gw zs xss i k1' ∧ xs.length = m ∧ xs[i]? = some (.slice a' n' c') ∧ (∀ j : Nat, i < j → xs[j]? = vs[j]?) ∧ Below w.heap.size w w' ∧ wh.heap.size ≤ w'.heap.size) := ⟨_, _, _, hO2, hG2, by rw [List.length_set]; exact hxl, List.getElem?_set_self (by omega), fun j hj => by rw [List.getElem?_set_ne (by omega)]; exact hxv j hj, hBw.trans (hb.mono (unhide HW0)), Nat.le_trans hsz hb.size⟩
          have HR := hide r
          have zk : Hid (wrap64 ((k : Int) + 1) = (k1' : Int)) := by show wrap64 ((k : Int) + 1) = (k1' : Int); unfold wrap64; omega
          have hiZ : i ≤ 100000 := by have := (unhide HZ).2.1; omega
          have HKK : Hid (k1' ≤ 20 ∧ 20 - k1' < 20 - k) := ⟨by omega, by omega⟩
          have HK1 := hide hk1
          have z2 : (k : Int) < 20 := by omega
          have zy1 : wrap64 (1000 + (i : Int)) = y := by rw [hy]; exact wrapU1 hiZ
          have zy2 : IntKind.i64.wrap (1000 + (i : Int)) = y := by rw [hy]; exact wrapU2 hiZ
          clear hO hGw hxl hxi hxv hBw hsz hzi hkz hlt hys hyr hyl hG2 hy hO2 hb hk1 hk hkl hS2 r hiZ
          go_wp2_with (at_builtin; refine Lib.wpList_append_run _ rfl _ _ 22 22 rfl _ _ rfl rfl _ _ (unhide HR _) ?_)
          clear zy1 zy2
          (try rw [unhide zk])
          exact ⟨⟨k1', a', n', c', by first | rfl | (rw [unhide HK1]; rfl), rfl, (unhide HKK).1, HC⟩, by have := (unhide HKK).2; simp [intOf]; omega⟩
        · obtain rfl : k = 20 := by omega
          have hG2 := hGw.next
          obtain ⟨i1, hi1⟩ : ∃ i1, i1 = i + 1 := ⟨_, rfl⟩
          rw [← hi1] at hG2
          obtain ⟨a', n', c', w', r, hb, hO2⟩ := hO.push hsz hxi rfl (by have := (unhide HZ).2.1; omega)
          rw [← hi1] at hO2
          have HC : Hid (∃ L xs xss, OwG wh.heap.size L w' (.slice (some ⟨gl, 0, none⟩) m cl) vs (.slice a' n' c') i1 xs xss ∧ Gw zs xss i1 0 ∧ xs.length = m ∧ (∀ j : Nat, i1 ≤ j → xs[j]? = vs[j]?) ∧ Below w.heap.size w w' ∧ wh.heap.size ≤ w'.heap.size) := ⟨_, _, _, hO2, hG2, hxl, fun j hj => hxv j (by omega), hBw.trans (hb.mono (unhide HW0)), Nat.le_trans hsz hb.size⟩
          have HR := hide r
          have zk : Hid (wrap64 ((i : Int) + 1) = (i1 : Int)) := by have := (unhide HZ).2.1; show wrap64 ((i : Int) + 1) = (i1 : Int); unfold wrap64; omega
          have HI1 := hide hi1
          have HKK : Hid (i1 ≤ m ∧ m - i1 < m - i) := ⟨by omega, by omega⟩
          clear hO hGw hxl hxi hxv hBw hsz hzi hkz hlt hys hyr hG2 hO2 hb hi1 hk hkl hS2 r
          go_wp2_with (at_builtin; refine Lib.wpList_append_run _ rfl _ _ 27 27 rfl _ _ rfl rfl _ _ (unhide HR _) ?_)
          (try rw [unhide zk])
          exact ⟨⟨i1, a', n', c', by first | rfl | (rw [unhide HI1]; rfl), rfl, (unhide HKK).1, HC⟩, by have := (unhide HKK).2; simp [intOf]; omega⟩
    · have z1 : ¬ (i : Int) < (m : Int) := by omega
      obtain rfl : i = m := by omega
      have HE : Hid (∃ L xss, OwG wh.heap.size L wr (.slice (some ⟨gl, 0, none⟩) i cl) vs (.slice ha hn hc) i xs xss ∧ Gw zs xss i 0 ∧ xs.length = i ∧ Below w.heap.size w wr) := ⟨L, xss, hO, hGw, hxl, hBw⟩
      have hhn : hn = i := by
        obtain ⟨q, c, e, -⟩ := hrow_shape hO.gro
        have e2 : hn = (xs.take i).length := by injection e
        rw [e2, List.length_take]; omega
      subst hhn
      clear hO hGw hxl hxv hBw hsz hS l1 l2 l3 l4 hi hlt
      repeat ((fail_if_success (with_reducible change Code.wp _ (Code.seq (Code.seq (Code.region 39 _ _) _) _) _ _ _)); go_step)
      refine ownE3 _ _ _ _ _ _ _ _ _ _ _ _ _ _ _ _ _ _ _ _ _ _ _ _ _ _ _ _ _ _ _ _ _ _ _ _ _ _ _ _ _ _ _ _ _ _ _ _ _ _ _ _ _ _ _ _ _ _ _ _ _ _ _ _ _ _ _ _ _ _ _ _ _ _ _ _ _ _ _ _ _ _ _ _ _ _ _ _ _ _ _ _ _ _ _ _ _ _ _ _ _ _ _ _ _ _ _ _ _ _ _ _ _ _ _ _ _ _ _ _ _ _ _ _ _ _ _ _ _ _ _ _ _ _ _ _ _ _ _ _ _ _ _ _ _ _ _ _ _ _ _ _ _ _ _ _ _ _ _ _ _ _ _ _ _ _ _ _ _ _ _ _ _ _ _ _ _ _ _ _ _ _ _ _ _ _ _ _ _ _ _ _ _ _ _ _ _ _ _ _ _ _ _ _ _ _ _ _ _ _ _ _ _ _ _ _ _ _ _ _ _ _ _ _ _ _ _ _ HZ HV HE ?_
      rintro y19 y20 y174 y175 y176 y177 y178 y179 y180 y181 y182 y183 y184 y185 y186 y187 y188 y189 y190 y191 y192 y193 y194 y195 y196 y197 y198 y199 y200 y201 y202 y203 y204 y205 y206 y207 y208 y209 y210 y211 y212 y213 y214 y215 y216 y217 y218 y219 y220 y221 y222 y223 y224 y225 y226 y227 y228 wz hbz
      exact unhide HQ _ _ _ _ _ _ _ _ _ _ _ _ _ _ _ _ _ _ _ _ _ _ _ _ _ _ _ _ _ _ _ _ _ _ _ _ _ _ _ _ _ _ _ _ _ _ _ _ _ _ _ _ _ _ _ _ _ _ _ _ _ _ _ _ _ _ _ _ _ _ _ _ _ _ _ _ _ _ _ _ _ _ _ _ _ hbz
end

section
open Go.RowKit Go.Maps T9
set_option maxHeartbeats 16000000 in
set_option maxRecDepth 100000 in
theorem ownTail {w wh w3 w4 wr : World} {ks X : List Int} {l : List (Int × Int)} {A : List (List Int)} {al xl : Option Addr} {nl ac nx xc n1 n2 : Nat} (a0 a1 a2 a3 a4 a5 a6 a8 a10 a11 a12 a13 a14 a15 a16 a17 a18 a19 a20 a21 a22 a23 a24 a25 a26 a27 a28 a29 a30 a31 a32 a33 a34 a35 a36 a37 a38 a39 a40 a41 a42 a43 a44 a45 a46 a47 a48 a49 a50 a51 a52 a53 a54 a55 a56 a57 a58 a59 a60 a61 a62 a63 a64 a65 a66 a67 a68 a69 a70 a71 a72 a73 a74 a75 a76 a77 a78 a79 a80 a81 a82 a83 a84 a85 a86 a87 a88 a89 a90 a91 a92 a93 a94 a95 a96 a97 a98 a99 a100 a101 a102 a103 a104 a105 a106 a107 a108 a109 a110 a111 a112 a113 a114 a115 a116 a117 a118 a119 a120 a121 a122 a123 a124 a125 a126 a127 a128 a129 a130 a131 a132 a133 a134 a135 a136 a137 a138 a139 a140 a141 a142 a143 a144 a145 a146 a147 a148 a149 a150 a151 a152 a153 a154 a155 a156 a157 a158 a159 a160 a161 a162 a163 a164 a165 a166 a167 a168 a169 a170 a171 a172 a173 a174 a175 a176 a177 a178 a179 a180 a181 a182 a183 a184 a185 a186 a187 a188 a189 a190 a191 a192 a193 a194 a195 a196 a197 a198 a199 a200 a201 a202 a203 a204 a205 a206 a207 a208 a209 a210 a211 a212 a213 a214 a215 a216 a217 a218 a219 a220 a221 a222 a223 a224 a225 a226 a227 a228 : Value) (Q : Exit → Act → World → Prop)
    (HA : Hid (OfA ks l 0 A ∧ LLs wh (.slice al nl ac) A w3 ∧ wh.heap.size ≤ w3.heap.size ∧ Below w.heap.size w w3)) (HX : Hid (OrA ks l 0 X ∧ nx = X.length ∧ BRow w3.heap.size w4 (.slice xl nx xc) X ∧ Below w3.heap.size w3 w4)) (HB7 : Hid (Below w4.heap.size w4 wr ∧ Below w.heap.size w wr)) (HN : Hid (n1 = ks.length ∧ n2 = l.length ∧ ks.length ≤ 60 ∧ l.length ≤ 240)) (HWH : Hid (w.heap.size ≤ wh.heap.size))
    (HQ : Hid (∀ (b12 b13 b14 b15 b16 b17 b18 b19 b20 b122 b123 b124 b125 b126 b127 b128 b129 b130 b131 b132 b133 b134 b135 b136 b137 b138 b139 b140 b141 b142 b143 b144 b145 b146 b147 b148 b149 b150 b151 b152 b153 b154 b155 b156 b157 b158 b159 b160 b161 b162 b163 b164 b165 b166 b167 b168 b169 b170 b171 b172 b173 b174 b175 b176 b177 b178 b179 b180 b181 b182 b183 b184 b185 b186 b187 b188 b189 b190 b191 b192 b193 b194 b195 b196 b197 b198 b199 b200 b201 b202 b203 b204 b205 b206 b207 b208 b209 b210 b211 b212 b213 b214 b215 b216 b217 b218 b219 b220 b221 b222 b223 b224 b225 b226 b227 b228 : Value) (wz : World), Below w.heap.size w wz → Q .ret ⟨#[a0, a1, a2, a3, .bool true, a5, a6, .slice al nl ac, a8, .slice xl nx xc, a10, a11, b12, b13, b14, b15, b16, b17, b18, b19, b20, a21, a22, a23, a24, a25, a26, a27, a28, a29, a30, a31, a32, a33, a34, a35, a36, a37, a38, a39, a40, a41, a42, a43, a44, a45, a46, a47, a48, a49, a50, a51, a52, a53, a54, a55, a56, a57, a58, a59, a60, a61, a62, a63, a64, a65, a66, a67, a68, a69, a70, a71, a72, a73, a74, a75, a76, a77, a78, a79, a80, a81, a82, a83, a84, a85, a86, a87, a88, a89, a90, a91, a92, a93, a94, a95, a96, a97, a98, a99, a100, a101, a102, a103, a104, a105, a106, a107, a108, a109, a110, a111, a112, a113, a114, a115, a116, a117, a118, a119, a120, a121, b122, b123, b124, b125, b126, b127, b128, b129, b130, b131, b132, b133, b134, b135, b136, b137, b138, b139, b140, b141, b142, b143, b144, b145, b146, b147, b148, b149, b150, b151, b152, b153, b154, b155, b156, b157, b158, b159, b160, b161, b162, b163, b164, b165, b166, b167, b168, b169, b170, b171, b172, b173, b174, b175, b176, b177, b178, b179, b180, b181, b182, b183, b184, b185, b186, b187, b188, b189, b190, b191, b192, b193, b194, b195, b196, b197, b198, b199, b200, b201, b202, b203, b204, b205, b206, b207, b208, b209, b210, b211, b212, b213, b214, b215, b216, b217, b218, b219, b220, b221, b222, b223, b224, b225, b226, b227, b228], []⟩ wz)) :
    Code.wp Try.prog ((Try.f7.body.bind (fromRegion 18)).getD .skip) Q ⟨#[a0, a1, a2, a3, a4, a5, a6, .slice al nl ac, a8, .slice xl nx xc, a10, a11, a12, a13, a14, a15, a16, a17, a18, a19, a20, a21, a22, a23, a24, a25, a26, a27, a28, a29, a30, a31, a32, a33, a34, a35, a36, a37, a38, a39, a40, a41, a42, a43, a44, a45, a46, a47, a48, a49, a50, a51, a52, a53, a54, a55, a56, a57, a58, a59, a60, a61, a62, a63, a64, a65, a66, a67, a68, a69, a70, a71, a72, a73, a74, a75, a76, a77, a78, a79, a80, a81, a82, a83, a84, a85, a86, a87, a88, a89, a90, a91, a92, a93, a94, a95, a96, a97, a98, a99, a100, a101, a102, a103, a104, a105, a106, a107, a108, a109, a110, a111, a112, a113, a114, a115, a116, a117, a118, a119, a120, a121, a122, a123, a124, a125, a126, a127, a128, a129, a130, a131, a132, a133, a134, a135, a136, a137, a138, a139, a140, a141, a142, a143, a144, a145, a146, a147, a148, a149, a150, a151, a152, a153, a154, a155, a156, a157, a158, a159, a160, a161, a162, a163, a164, a165, a166, a167, a168, a169, a170, a171, a172, a173, a174, a175, a176, a177, a178, a179, a180, a181, a182, a183, a184, a185, a186, a187, a188, a189, a190, a191, a192, a193, a194, a195, a196, a197, a198, a199, a200, a201, a202, a203, a204, a205, a206, a207, a208, a209, a210, a211, a212, a213, a214, a215, a216, a217, a218, a219, a220, a221, a222, a223, a224, a225, a226, a227, a228], []⟩ wr := by
  conv => arg 2; whnf
  obtain ⟨b1, m1', d1', wq, gl, cl, wr2, vs, L0, q1, q2, b2, hO⟩ := own_start (unhide HA).2.1 ((unhide HX).2.2.2.trans ((unhide HB7).1.mono (unhide HX).2.2.2.size)) (brow_kept (unhide HX).2.2.1 (fun b e => (unhide HB7).1.block b ((unhide HX).2.2.1.lt b e).2)) (unhide HA).2.2.1 (ofA_few (unhide HA).1 (by have := unhide HN; omega))
  obtain ⟨zs, hzs⟩ : ∃ zs, zs = A ++ [X] := ⟨_, rfl⟩
  obtain ⟨m, hm⟩ : ∃ m, m = A.length + 1 := ⟨_, rfl⟩
  rw [← hm] at q2 hO
  rw [← hzs] at hO
  have HZ : Hid (m = zs.length ∧ m ≤ 1001 ∧ (∀ (j : Nat) (ks : List Int), zs[j]? = some ks → ks.length ≤ 1000) ∧ vs.length = m) := by
    have h1 : zs.length = m := by rw [hzs, hm]; simp
    refine ⟨h1.symm, ?_, fun j ks' hj => ?_, by rw [← h1]; exact hO.len⟩
    · have := ofA_few (unhide HA).1 (by have := unhide HN; omega); omega
    · rw [hzs] at hj
      have hin := List.mem_of_getElem? hj
      rcases List.mem_append.1 hin with q | q
      · exact few_in (unhide HA).1 (by have := unhide HN; omega) _ q
      · rw [List.mem_singleton.1 q]; exact few_or (unhide HX).1 (by have := unhide HN; omega)
  have HV : Hid (∀ (j : Nat) (x : Value) (ks : List Int), vs[j]? = some x → zs[j]? = some ks → ∃ a c, x = .slice a ks.length c) := fun j x ks h1 h2 => hO.heads h1 h2
  have HO : Hid (∃ L xss, OwG wh.heap.size L wr2 (.slice (some ⟨gl, 0, none⟩) m cl) vs (.slice none 0 0) 0 vs xss ∧ Wr zs xss 0 0 ∧ Below w.heap.size w wr2 ∧ wh.heap.size ≤ wr2.heap.size) := ⟨_, _, hO, wr_start, (unhide HB7).2.trans (b2.mono (unhide HB7).2.size), by have h1 := (unhide HB7).1.size; have h2 := (unhide HX).2.2.2.size; have h3 := (unhide HA).2.2.1; have h4 := b2.size; omega⟩
  have HW0 : Hid (w.heap.size ≤ wh.heap.size) := unhide HWH
  have HR1 := hide q1
  have HR2 := hide q2
  clear q1 q2 hO b2 hzs hm HA HX HB7 HN HWH
  go_upto_region 20 with (at_builtin; first | (have h := HR1; clear HR1; refine Lib.wpList_append_run _ rfl _ _ 27 27 rfl _ _ rfl rfl _ _ (unhide h _) ?_) | (have h := HR2; clear HR2; refine Lib.wpList_append_run _ rfl _ _ 27 27 rfl _ _ rfl rfl _ _ (unhide h _) ?_))
  go_loopw [130, 13, 14] (fun s130 s13 s14 W => ∃ i : Nat, s130 = .int .i64 (i : Nat) ∧ i ≤ m ∧ Hid (∃ L xss, OwG wh.heap.size L W (.slice (some ⟨gl, 0, none⟩) m cl) vs (.slice none 0 0) 0 vs xss ∧ Wr zs xss i 0 ∧ Below w.heap.size w W ∧ wh.heap.size ≤ W.heap.size)) (fun s130 _ _ _ => m - (intOf s130).toNat)
  case atStart => exact ⟨0, rfl, Nat.zero_le _, HO⟩
  case round =>
    obtain ⟨i, rfl, hi, hS⟩ := hrel
    clear HO
    obtain ⟨L, xss, hO, hWr, hBw, hsz⟩ := unhide hS
    obtain ⟨l1, l2, l3, l4⟩ := unhide HZ
    by_cases hlt : i < m
    · obtain ⟨kz, hzi⟩ : ∃ kz, zs[i]? = some kz := ⟨_, List.getElem?_eq_getElem (by omega)⟩
      obtain ⟨x, hvi⟩ : ∃ x, vs[i]? = some x := ⟨_, List.getElem?_eq_getElem (by omega)⟩
      obtain ⟨xa, xc2, hxe⟩ := unhide HV i x kz hvi hzi
      obtain ⟨nk, hnk⟩ : ∃ nk, nk = kz.length := ⟨_, rfl⟩
      rw [← hnk] at hxe
      subst hxe
      have k1 := hrow_at hO.outer hvi
      have z1 : (i : Int) < (m : Int) := by omega
      have HS3 : Hid (∃ L xss, OwG wh.heap.size L wr (.slice (some ⟨gl, 0, none⟩) m cl) vs (.slice none 0 0) 0 vs xss ∧ Wr zs xss i 0 ∧ Below w.heap.size w wr ∧ wh.heap.size ≤ wr.heap.size) := ⟨L, xss, hO, hWr, hBw, hsz⟩
      have HII : Hid (zs[i]? = some kz ∧ vs[i]? = some (.slice xa nk xc2) ∧ nk = kz.length ∧ nk ≤ 1000 ∧ i < m) := ⟨hzi, hvi, hnk, by have := l3 i kz hzi; omega, hlt⟩
      clear hO hWr hBw hsz hS hvi hzi hnk l1 l2 l3 l4 hi hlt
      go_upto_region 23 with fail
      clear k1
      go_loopw [138, 14] (fun s138 s14 W => ∃ k : Nat, s138 = .int .i64 (k : Nat) ∧ k ≤ nk ∧ Hid (∃ L xss, OwG wh.heap.size L W (.slice (some ⟨gl, 0, none⟩) m cl) vs (.slice none 0 0) 0 vs xss ∧ Wr zs xss i k ∧ Below w.heap.size w W ∧ wh.heap.size ≤ W.heap.size)) (fun s138 _ _ => nk - (intOf s138).toNat)
      case atStart => exact ⟨0, rfl, Nat.zero_le _, HS3⟩
      case round =>
        obtain ⟨k, rfl, hk, hS2⟩ := hrel
        clear HS3
        obtain ⟨L, xss, hO, hWr, hBw, hsz⟩ := unhide hS2
        obtain ⟨hzi, hvi, hnk, hnk2, hlt⟩ := unhide HII
        obtain ⟨ys, hys, hyl, -⟩ := hWr i kz hzi
        by_cases hkl : k < nk
        · obtain ⟨gx, hgx⟩ := brow_some (hO.inner i _ ys hvi hys) (by omega)
          subst hgx
          obtain ⟨y0, hy0⟩ : ∃ y0, ys[k]? = some y0 := ⟨_, List.getElem?_eq_getElem (by omega)⟩
          obtain ⟨y, hy⟩ : ∃ y, y = -1000 - (i : Int) := ⟨_, rfl⟩
          obtain ⟨fz, hb, hO2⟩ := hO.write hvi hys hkl y hsz
          have hW2 := hWr.step hys (k := k) (by omega)
          rw [← hy] at hW2
          have k1 := hrow_at hO.outer hvi
          have k2 := brow_at (hO.inner i _ ys hvi hys) hy0
          obtain ⟨k1', hk1⟩ : ∃ k1', k1' = k + 1 := ⟨_, rfl⟩
          rw [← hk1] at hW2
          have HC : Hid (∃ L xss, OwG wh.heap.size L (wr.setCell ⟨gx, k, none⟩ (.int .i64 y)) (.slice (some ⟨gl, 0, none⟩) m cl) vs (.slice none 0 0) 0 vs xss ∧ Wr zs xss i k1' ∧ Below w.heap.size w (wr.setCell ⟨gx, k, none⟩ (.int .i64 y)) ∧ wh.heap.size ≤ (wr.setCell ⟨gx, k, none⟩ (.int .i64 y)).heap.size) := ⟨_, _, hO2, hW2, hBw.trans (hb.mono (unhide HW0)), Nat.le_trans hsz hb.size⟩
          have zk : Hid (wrap64 ((k : Int) + 1) = (k1' : Int)) := by show wrap64 ((k : Int) + 1) = (k1' : Int); unfold wrap64; omega
          have hiZ : i ≤ 100000 := by have := (unhide HZ).2.1; omega
          have HKK : Hid (k1' ≤ nk ∧ nk - k1' < nk - k) := ⟨by omega, by omega⟩
          have HK1 := hide hk1
          have z2 : (k : Int) < (nk : Int) := by omega
          have zy1 : wrap64 (-1000 - (i : Int)) = y := by rw [hy]; exact wrapD1 hiZ
          have zy2 : IntKind.i64.wrap (-1000 - (i : Int)) = y := by rw [hy]; exact wrapD2 hiZ
          clear hO hWr hBw hsz hzi hvi hnk hnk2 hlt hys hyl hy0 hy hO2 hW2 hb hk1 hk hkl hS2 hiZ
          go_wp2_with fail
          clear zy1 zy2
          (try rw [unhide zk])
          exact ⟨⟨k1', by first | rfl | (rw [unhide HK1]; rfl), (unhide HKK).1, HC⟩, by have := (unhide HKK).2; simp [intOf]; omega⟩
        · have hW2 := hWr.next hys (by omega)
          obtain ⟨i1, hi1⟩ : ∃ i1, i1 = i + 1 := ⟨_, rfl⟩
          rw [← hi1] at hW2
          have HC : Hid (∃ L xss, OwG wh.heap.size L wr (.slice (some ⟨gl, 0, none⟩) m cl) vs (.slice none 0 0) 0 vs xss ∧ Wr zs xss i1 0 ∧ Below w.heap.size w wr ∧ wh.heap.size ≤ wr.heap.size) := ⟨_, _, hO, hW2, hBw, hsz⟩
          have zk : Hid (wrap64 ((i : Int) + 1) = (i1 : Int)) := by have := (unhide HZ).2.1; show wrap64 ((i : Int) + 1) = (i1 : Int); unfold wrap64; omega
          have HI1 := hide hi1
          have HKK : Hid (i1 ≤ m ∧ m - i1 < m - i) := ⟨by omega, by omega⟩
          have z2 : ¬ (k : Int) < (nk : Int) := by omega
          clear hO hWr hBw hsz hzi hvi hnk hnk2 hlt hys hyl hW2 hi1 hk hkl hS2
          go_wp2_with fail
          (try rw [unhide zk])
          exact ⟨⟨i1, by first | rfl | (rw [unhide HI1]; rfl), (unhide HKK).1, HC⟩, by have := (unhide HKK).2; simp [intOf]; omega⟩
    · have z1 : ¬ (i : Int) < (m : Int) := by omega
      have hG := hWr.grow (by omega)
      have HG : Hid (∃ L xs xss, OwG wh.heap.size L wr (.slice (some ⟨gl, 0, none⟩) m cl) vs (.slice none 0 0) 0 xs xss ∧ Gw zs xss 0 0 ∧ xs.length = m ∧ (∀ j : Nat, 0 ≤ j → xs[j]? = vs[j]?) ∧ Below w.heap.size w wr ∧ wh.heap.size ≤ wr.heap.size) := ⟨L, vs, xss, hO, hG, l4, fun _ _ => rfl, hBw, hsz⟩
      clear hO hWr hBw hsz hS l1 l2 l3 l4 hi hlt hG
      repeat ((fail_if_success (with_reducible change Code.wp _ (Code.seq (Code.region 28 _ _) _) _ _ _)); go_step)
      refine ownE2 _ _ _ _ _ _ _ _ _ _ _ _ _ _ _ _ _ _ _ _ _ _ _ _ _ _ _ _ _ _ _ _ _ _ _ _ _ _ _ _ _ _ _ _ _ _ _ _ _ _ _ _ _ _ _ _ _ _ _ _ _ _ _ _ _ _ _ _ _ _ _ _ _ _ _ _ _ _ _ _ _ _ _ _ _ _ _ _ _ _ _ _ _ _ _ _ _ _ _ _ _ _ _ _ _ _ _ _ _ _ _ _ _ _ _ _ _ _ _ _ _ _ _ _ _ _ _ _ _ _ _ _ _ _ _ _ _ _ _ _ _ _ _ _ _ _ _ _ _ _ _ _ _ _ _ _ _ _ _ _ _ _ _ _ _ _ _ _ _ _ _ _ _ _ _ _ _ _ _ _ _ _ _ _ _ _ _ _ _ _ _ _ _ _ _ _ _ _ _ _ _ _ _ _ _ _ _ _ _ _ _ _ _ _ _ _ _ _ _ _ _ _ _ _ _ _ _ _ _ HZ HV HW0 HG ?_
      rintro y15 y16 y17 y18 y19 y20 y151 y152 y153 y154 y155 y156 y157 y158 y159 y160 y161 y162 y163 y164 y165 y166 y167 y168 y169 y170 y171 y172 y173 y174 y175 y176 y177 y178 y179 y180 y181 y182 y183 y184 y185 y186 y187 y188 y189 y190 y191 y192 y193 y194 y195 y196 y197 y198 y199 y200 y201 y202 y203 y204 y205 y206 y207 y208 y209 y210 y211 y212 y213 y214 y215 y216 y217 y218 y219 y220 y221 y222 y223 y224 y225 y226 y227 y228 wz hbz
      exact unhide HQ _ _ _ _ _ _ _ _ _ _ _ _ _ _ _ _ _ _ _ _ _ _ _ _ _ _ _ _ _ _ _ _ _ _ _ _ _ _ _ _ _ _ _ _ _ _ _ _ _ _ _ _ _ _ _ _ _ _ _ _ _ _ _ _ _ _ _ _ _ _ _ _ _ _ _ _ _ _ _ _ _ _ _ _ _ _ _ _ _ _ _ _ _ _ _ _ _ _ _ _ _ _ _ _ _ _ _ _ _ _ _ _ _ _ _ _ _ hbz
end

end Go.Proofs.Ytdpdghhieokcfaa
