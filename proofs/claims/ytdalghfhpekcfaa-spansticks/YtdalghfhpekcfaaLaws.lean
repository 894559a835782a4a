/- What copy, clear and append do to a row of things of two cells each. -/
import Derived.Test.YtdalghfhpekcfaaBase
import Derived.Laws.CopyOwn
import Derived.Lib.AppendZerosOnto
import Derived.Lib.Overlaps
import Derived.Deep.RegionLaw
namespace Go.Proofs.Ytdalghfhpekcfaa
open Go.RowKit

/-- Block g is the row cur; of what w0 had nothing has turned but 'row'. -/
structure Rowed (w0 : World) (row : Option Nat) (g : Nat) (e : TypeId) (cur : List Value) (w : World) : Prop where
  heap : w.heap[g]? = some (.cells cur.toArray e (0, 0))
  grown : w0.grownBy w row

theorem Rowed.cell {w0 w : World} {row : Option Nat} {g : Nat} {e : TypeId} {cur : List Value} (h : Rowed w0 row g e cur w) (k : Nat) : w.cell? ⟨g, k, none⟩ = cur[k]? := by
  rw [cell_of_row w g k cur.toArray e (0, 0) h.heap]; simp

theorem Rowed.set {w0 w : World} {row : Option Nat} {g : Nat} {e : TypeId} {cur : List Value} (h : Rowed w0 row g e cur w) (hrow : row = some g ∨ w0.heap.size ≤ g) (cs : List Value) : Rowed w0 row g e cs (w.setRow g cs.toArray) :=
  ⟨setRow_heap w g _ _ e _ h.heap, ⟨h.grown.os, h.grown.tape, h.grown.output, by simp [World.setRow]; exact h.grown.size, fun k hk hne => by
    rw [setRow_other w g k _ (fun e1 => by subst e1; exact hrow.elim (fun h1 => hne h1.symm) (fun h1 => by omega))]; exact h.grown.block k hk hne⟩⟩

theorem Rowed.drew {w0 w : World} {row : Option Nat} {g : Nat} {e : TypeId} {cur : List Value} (h : Rowed w0 row g e cur w) (q : Nat) : Rowed w0 row g e cur (w.drewN q) :=
  ⟨h.heap, ⟨h.grown.os, h.grown.tape, h.grown.output, h.grown.size, h.grown.block⟩⟩

theorem Rowed.drew1 {w0 w : World} {row : Option Nat} {g : Nat} {e : TypeId} {cur : List Value} (h : Rowed w0 row g e cur w) : Rowed w0 row g e cur w.drew :=
  ⟨h.heap, ⟨h.grown.os, h.grown.tape, h.grown.output, h.grown.size, h.grown.block⟩⟩

theorem add_g (g o j : Nat) : (⟨g, o, none⟩ : Addr).add j = ⟨g, o + j, none⟩ := by unfold Addr.add; split <;> simp_all

theorem run_copy2 {P : Program} {w0 w : World} {row : Option Nat} {g : Nat} {e : TypeId} {cur : List Value} (hR : Rowed w0 row g e cur w) (hrow : row = some g ∨ w0.heap.size ≤ g)
    (dT sT ty elem : TypeId) (hu : P.underlying dT = some (.slice elem)) (hsz : (P.info? elem).map (·.size) = some 2) (dp sp : Option Addr) (dLen dCap sLen sCap off : Nat) (cs : List Value)
    (hn : cs.length = Nat.min sLen dLen * 2) (hpos : 0 < cs.length → dp = some ⟨g, off, none⟩ ∧ ∃ ad, sp = some ad ∧ ∀ j v, cs[j]? = some v → w.cell? (ad.add j) = some v)
    (hfit : off + cs.length ≤ cur.length) (h1 : ∀ v ∈ cs, v.oneCell' = true) :
    ∃ w', (Builtin.copy_ #[dT, sT] ty #[.slice dp dLen dCap, .slice sp sLen sCap]).run P w = .ok (goInt (Nat.min sLen dLen)) w' ∧ Rowed w0 row g e (splice cur off cs) w' := by
  cases hq : P.info? elem with
  | none => simp [hq] at hsz
  | some i =>
    have hi : i.size = 2 := by simpa [hq] using hsz
    by_cases h0 : cs.length = 0
    · have hz : Nat.min sLen dLen = 0 := by omega
      obtain rfl : cs = [] := List.eq_nil_of_length_eq_zero h0
      refine ⟨w, ?_, by simpa [splice] using hR⟩
      have hl : ∀ (x : Addr), (loadCells x 0).run P w = .ok #[] w := fun x => by simpa using run_loadCells_list (P := P) w x [] (by simp)
      cases dp <;> cases sp <;> simp [Builtin.copy_, run_underlying hu, Builtin.lenOf, Builtin.firstCells, sizeOf, typeInfo, hq, hz, storeCells, hl]
    · obtain ⟨rfl, ad, rfl, hsrc⟩ := hpos (by omega)
      have hl := run_loadCells_list (P := P) w ad cs hsrc
      have hst := run_storeCells_at P g off e cs 0 cur.toArray w hR.heap (by simpa using hfit) h1
      refine ⟨_, ?_, hR.set hrow _⟩
      rw [hn] at hl
      simp [Builtin.copy_, run_underlying hu, Builtin.lenOf, Builtin.firstCells, sizeOf, typeInfo, hq, hi, hl, hst, splice]

theorem wpList_copy2 {P : Program} {w0 w : World} {row : Option Nat} {g : Nat} {e : TypeId} {cur : List Value} {ops : Array Oper} {rest : List Oper} {o : Oper} {a : Act} {Q : Exit → Act → World → Prop} (hgd : o.guard = none) (d s : Operand) (dT sT : TypeId)
    (ho : o.op = .call { callee := .builtin .copy, args := #[d, s], argTypes := #[dT, sT] }) (elem : TypeId) (hu : P.underlying dT = some (.slice elem)) (hsz : (P.info? elem).map (·.size) = some 2)
    (dp sp : Option Addr) (dLen dCap sLen sCap : Nat) (hd : a.eval d = .slice dp dLen dCap) (hs : a.eval s = .slice sp sLen sCap) (hR : Rowed w0 row g e cur w) (hrow : row = some g ∨ w0.heap.size ≤ g)
    (off : Nat) (cs : List Value) (hn : cs.length = Nat.min sLen dLen * 2) (hpos : 0 < cs.length → dp = some ⟨g, off, none⟩ ∧ ∃ ad, sp = some ad ∧ ∀ j v, cs[j]? = some v → w.cell? (ad.add j) = some v)
    (hfit : off + cs.length ≤ cur.length) (h1 : ∀ v ∈ cs, v.oneCell' = true)
    (h : ∀ w', Rowed w0 row g e (splice cur off cs) w' → wpList P ops Q rest (a.put o.dst (goInt (Nat.min sLen dLen))) w') : wpList P ops Q (o :: rest) a w := by
  obtain ⟨w', hr, hR'⟩ := run_copy2 (P := P) hR hrow dT sT o.type elem hu hsz dp sp dLen dCap sLen sCap off cs hn hpos hfit h1
  refine wpList_plain hgd fun K hK => ?_
  unfold Oper.wp
  simp only [execOp, ho, resolve, invoke, builtin, Sem.run_bind, Sem.run_pure, Result.andThen_ok, List.map_toArray, List.map_cons, List.map_nil, hd, hs, hr]
  exact hK _ _ (h w' hR')

theorem step_copy2 {P : Program} {w0 w : World} {row : Option Nat} {g : Nat} {e : TypeId} {cur : List Value} {ops : Array Oper} {o : Oper} {a : Act} {K : Act → World → Prop} {Q : Exit → Act → World → Prop} {E : Prop} (hgd : o.guard = none) (d s : Operand) (dT sT : TypeId)
    (ho : o.op = .call { callee := .builtin .copy, args := #[d, s], argTypes := #[dT, sT] }) (elem : TypeId) (hu : P.underlying dT = some (.slice elem)) (hsz : (P.info? elem).map (·.size) = some 2)
    (dp sp : Option Addr) (dLen dCap sLen sCap : Nat) (hd : a.eval d = .slice dp dLen dCap) (hs : a.eval s = .slice sp sLen sCap) (hR : Rowed w0 row g e cur w) (hrow : row = some g ∨ w0.heap.size ≤ g)
    (off : Nat) (cs : List Value) (hn : cs.length = Nat.min sLen dLen * 2) (hpos : 0 < cs.length → dp = some ⟨g, off, none⟩ ∧ ∃ ad, sp = some ad ∧ ∀ j v, cs[j]? = some v → w.cell? (ad.add j) = some v)
    (hfit : off + cs.length ≤ cur.length) (h1 : ∀ v ∈ cs, v.oneCell' = true)
    (h : ∀ w', Rowed w0 row g e (splice cur off cs) w' → K (a.put o.dst (goInt (Nat.min sLen dLen))) w') :
    if Region.wanted o (yielded ops a.tmps) = true then Oper.wp P o a w K Q else E := by
  have hw : Region.wanted o (yielded ops a.tmps) = true := by simp [Region.wanted, hgd]
  rw [if_pos hw]
  obtain ⟨w', hr, hR'⟩ := run_copy2 (P := P) hR hrow dT sT o.type elem hu hsz dp sp dLen dCap sLen sCap off cs hn hpos hfit h1
  unfold Oper.wp
  simp only [execOp, ho, resolve, invoke, builtin, Sem.run_bind, Sem.run_pure, Result.andThen_ok, List.map_toArray, List.map_cons, List.map_nil, hd, hs, hr]
  exact h w' hR'

theorem step_copy3 {P : Program} {w0 w : World} {row : Option Nat} {g : Nat} {e : TypeId} {cur : List Value} {ops : Array Oper} {o : Oper} {a : Act} {K : Act → World → Prop} {Q : Exit → Act → World → Prop} {E : Prop} (hgd : o.guard = none) (d s : Operand) (dT sT : TypeId)
    (ho : o.op = .call { callee := .builtin .copy, args := #[d, s], argTypes := #[dT, sT] }) (elem : TypeId) (hu : P.underlying dT = some (.slice elem)) (hsz : (P.info? elem).map (·.size) = some 2)
    (off dLen dCap : Nat) (ad : Addr) (sLen sCap : Nat) (hd : a.eval d = .slice (some ⟨g, off, none⟩) dLen dCap) (hs : a.eval s = .slice (some ad) sLen sCap) (hR : Rowed w0 row g e cur w) (hrow : row = some g ∨ w0.heap.size ≤ g)
    (cs : List Value) (hn : cs.length = Nat.min sLen dLen * 2) (hsrc : ∀ j v, cs[j]? = some v → w.cell? (ad.add j) = some v)
    (hfit : off + cs.length ≤ cur.length) (h1 : ∀ v ∈ cs, v.oneCell' = true)
    (h : ∀ w', Rowed w0 row g e (splice cur off cs) w' → K (a.put o.dst (goInt (Nat.min sLen dLen))) w') :
    if Region.wanted o (yielded ops a.tmps) = true then Oper.wp P o a w K Q else E :=
  step_copy2 hgd d s dT sT ho elem hu hsz _ _ dLen dCap sLen sCap hd hs hR hrow off cs hn (fun _ => ⟨rfl, ad, rfl, hsrc⟩) hfit h1 h

theorem wpList_copy3 {P : Program} {w0 w : World} {row : Option Nat} {g : Nat} {e : TypeId} {cur : List Value} {ops : Array Oper} {rest : List Oper} {o : Oper} {a : Act} {Q : Exit → Act → World → Prop} (hgd : o.guard = none) (d s : Operand) (dT sT : TypeId)
    (ho : o.op = .call { callee := .builtin .copy, args := #[d, s], argTypes := #[dT, sT] }) (elem : TypeId) (hu : P.underlying dT = some (.slice elem)) (hsz : (P.info? elem).map (·.size) = some 2)
    (off dLen dCap : Nat) (ad : Addr) (sLen sCap : Nat) (hd : a.eval d = .slice (some ⟨g, off, none⟩) dLen dCap) (hs : a.eval s = .slice (some ad) sLen sCap) (hR : Rowed w0 row g e cur w) (hrow : row = some g ∨ w0.heap.size ≤ g)
    (cs : List Value) (hn : cs.length = Nat.min sLen dLen * 2) (hsrc : ∀ j v, cs[j]? = some v → w.cell? (ad.add j) = some v)
    (hfit : off + cs.length ≤ cur.length) (h1 : ∀ v ∈ cs, v.oneCell' = true)
    (h : ∀ w', Rowed w0 row g e (splice cur off cs) w' → wpList P ops Q rest (a.put o.dst (goInt (Nat.min sLen dLen))) w') : wpList P ops Q (o :: rest) a w :=
  wpList_copy2 hgd d s dT sT ho elem hu hsz _ _ dLen dCap sLen sCap hd hs hR hrow off cs hn (fun _ => ⟨rfl, ad, rfl, hsrc⟩) hfit h1 h

/-- What lies ahead of what is cleared stays. -/
theorem run_clear2 {P : Program} {w0 w : World} {row : Option Nat} {g : Nat} {e : TypeId} {cur : List Value} (hR : Rowed w0 row g e cur w) (hrow : row = some g ∨ w0.heap.size ≤ g)
    (t elem ty : TypeId) (z : Value) (hu : P.underlying t = some (.slice elem)) (hv : ∀ w, (zeroValue elem).run P w = .ok z w) (hz : z.cells.size = 2) (hz1 : ∀ v ∈ z.cells.toList, v.oneCell' = true)
    (sp : Option Addr) (n c off : Nat) (hpos : 0 < n → sp = some ⟨g, off, none⟩) (hfit : off + n * 2 ≤ cur.length) :
    ∃ w' cur', (Builtin.clear_ #[t] ty #[.slice sp n c]).run P w = .ok (.tuple #[]) w' ∧ Rowed w0 row g e cur' w' ∧ cur'.length = cur.length ∧ cur'.take off = cur.take off := by
  by_cases h0 : n = 0
  · subst h0
    refine ⟨w, cur, ?_, hR, rfl, rfl⟩
    cases sp <;> simp [Builtin.clear_, run_underlying hu]
  · obtain rfl := hpos (by omega)
    have hlen : (Builtin.zeroCells z.cells n).size = n * 2 := by simp [Builtin.zeroCells, hz]
    have h1 : ∀ v ∈ (Builtin.zeroCells z.cells n).toList, v.oneCell' = true := by
      intro v hv'
      rw [List.mem_iff_getElem] at hv'
      obtain ⟨j, hj, rfl⟩ := hv'
      simp only [Builtin.zeroCells] at hj ⊢
      simp at hj ⊢
      have hlt : j % z.cells.size < z.cells.size := Nat.mod_lt _ (by omega)
      refine hz1 _ ?_
      rw [getElem!_pos z.cells (j % z.cells.size) hlt]
      simp
    have hst := run_storeCells_at P g off e (Builtin.zeroCells z.cells n).toList 0 cur.toArray w hR.heap (by simp [hlen]; omega) h1
    obtain ⟨m, rfl⟩ : ∃ m, n = m + 1 := ⟨n - 1, by omega⟩
    simp only [Nat.add_zero] at hst
    have hl2 : (Builtin.zeroCells z.cells (m + 1)).toList.length = (m + 1) * 2 := by simpa using hlen
    generalize hZ : (Builtin.zeroCells z.cells (m + 1)).toList = Z at hst hl2
    refine ⟨w.setRow g (cur.take off ++ Z ++ cur.drop (off + Z.length)).toArray, cur.take off ++ Z ++ cur.drop (off + Z.length), ?_, hR.set hrow _, ?_, ?_⟩
    · simp only [Builtin.clear_]
      simp [run_underlying hu, hv, hZ, hst]
    · simp; omega
    · rw [List.append_assoc, List.take_append_of_le_length (by rw [List.length_take]; omega), List.take_take, Nat.min_self]

theorem wpList_clear2 {P : Program} {w0 w : World} {row : Option Nat} {g : Nat} {e : TypeId} {cur : List Value} {ops : Array Oper} {rest : List Oper} {o : Oper} {a : Act} {Q : Exit → Act → World → Prop} (hgd : o.guard = none) (s : Operand) (t : TypeId)
    (ho : o.op = .call { callee := .builtin .clear, args := #[s], argTypes := #[t] }) (elem : TypeId) (z : Value) (hu : P.underlying t = some (.slice elem)) (hv : ∀ w, (zeroValue elem).run P w = .ok z w) (hz : z.cells.size = 2) (hz1 : ∀ v ∈ z.cells.toList, v.oneCell' = true)
    (sp : Option Addr) (n c off : Nat) (hs : a.eval s = .slice sp n c) (hR : Rowed w0 row g e cur w) (hrow : row = some g ∨ w0.heap.size ≤ g) (hpos : 0 < n → sp = some ⟨g, off, none⟩) (hfit : off + n * 2 ≤ cur.length)
    (h : ∀ w' cur', Rowed w0 row g e cur' w' → Hid (cur'.length = cur.length ∧ cur'.take off = cur.take off) → wpList P ops Q rest (a.put o.dst (.tuple #[])) w') : wpList P ops Q (o :: rest) a w := by
  obtain ⟨w', cur', hr, hR', h2, h3⟩ := run_clear2 (P := P) hR hrow t elem o.type z hu hv hz hz1 sp n c off hpos hfit
  refine wpList_plain hgd fun K hK => ?_
  unfold Oper.wp
  simp only [execOp, ho, resolve, invoke, builtin, Sem.run_bind, Sem.run_pure, Result.andThen_ok, List.map_toArray, List.map_cons, List.map_nil, hs, hr]
  exact hK _ _ (h w' cur' hR' ⟨h2, h3⟩)

theorem Rowed.owns {w0 w : World} {row : Option Nat} {g : Nat} {e : TypeId} {cur : List Value} (h : Rowed w0 row g e cur w) (n cap : Nat) (xs : List Value) (h1 : cur.length = cap * 2) (h2 : n ≤ cap) (h3 : cap ≤ maxLen) (h4 : cur.take (n * 2) = xs) :
    w.ownsRow 0 e 2 (.slice (some ⟨g, 0, none⟩) n cap) n xs :=
  ⟨by rw [← h4, List.length_take]; omega, .inr ⟨g, cap, cur.toArray, rfl, Nat.zero_le _, h.heap, h2, h3, by simpa using h1, by simpa using h4⟩⟩

/-- An owned row that is not nil, as a block. -/
theorem owns_rowed {w : World} {e : TypeId} {n : Nat} {v : Value} {xs : List Value} (h : w.ownsRow 0 e 2 v n xs) (h0 : 0 < n) :
    ∃ g cap cur, v = .slice (some ⟨g, 0, none⟩) n cap ∧ n ≤ cap ∧ cap ≤ maxLen ∧ cur.length = cap * 2 ∧ cur.take (n * 2) = xs ∧ g < w.heap.size ∧ Rowed w (some g) g e cur w := by
  rcases h.2 with ⟨-, h1⟩ | ⟨g, cap, cur, rfl, -, hg, h1, h2, h3, h4⟩
  · omega
  · exact ⟨g, cap, cur.toList, rfl, h1, h2, by simpa using h3, by simpa using h4, (Array.getElem?_eq_some_iff.1 hg).1, ⟨by simpa using hg, ⟨rfl, rfl, rfl, Nat.le_refl _, fun _ _ _ => rfl⟩⟩⟩

theorem Rowed.other {w0 w : World} {row : Option Nat} {g : Nat} {e : TypeId} {cur : List Value} (h : Rowed w0 row g e cur w) {a : Addr} {v : Value} (hv : w0.cell? a = some v) (hne : some a.block ≠ row) : w.cell? a = some v := h.grown.cell hv hne

theorem get_splice {α : Type} (L : List α) (off : Nat) (cs : List α) (h : off + cs.length ≤ L.length) (k : Nat) : (splice L off cs)[k]? = if k < off then L[k]? else if k < off + cs.length then cs[k - off]? else L[k]? := by
  unfold splice
  have hl : (L.take off).length = off := by simp; omega
  rw [List.getElem?_append, hl]
  split
  · rename_i h1; rw [List.getElem?_take, if_pos h1]
  · rename_i h1
    rw [List.getElem?_append]
    split
    · rw [if_pos (by omega)]
    · rw [if_neg (by omega), List.getElem?_drop]; congr 1; omega

theorem get_three {α : Type} (A V B : List α) (k : Nat) : (A ++ V ++ B)[k]? = if k < A.length then A[k]? else if k < A.length + V.length then V[k - A.length]? else B[k - A.length - V.length]? := by
  rw [List.append_assoc, List.getElem?_append]
  split
  · rfl
  · rw [List.getElem?_append]
    split
    · rw [if_pos (by omega)]
    · rw [if_neg (by omega)]

/-- append(s[:i], make(.., k)...) where there is no room: a row of one's own. -/
theorem run_zeros2 {P : Program} {w : World} {g : Nat} {e : TypeId} {cur : List Value} (hR : Rowed w (some g) g e cur w) (t : TypeId) (i0 : TypeInfo) (z : Value) (hu : P.underlying t = some (.slice e)) (hu3 : P.underlying 3 = some (.int .i64)) (hi : P.info? e = some i0) (hz : i0.zero = some z) (hs : i0.size = 2)
    (hzs : z.cells.size = 2) (i c k : Nat) (h0 : 0 < k) (hfit : i * 2 ≤ cur.length) (hg : c < i + k) (h63 : i + k ≤ 1099511627780) (hb : i0.bytes ≤ 16) :
    ∃ w1 cap cur1, (∀ ty, (Builtin.append_ #[t, 3] ty #[.slice (some ⟨g, 0, none⟩) i c, .int .i64 k]).run P w = .ok (.slice (some ⟨w.heap.size, 0, none⟩) (i + k) cap) w1) ∧ Rowed w none w.heap.size e cur1 w1 ∧
      cur1.length = cap * 2 ∧ cur1.take (i * 2) = cur.take (i * 2) ∧ i + k ≤ cap ∧ cap ≤ maxLen := by
  have hold : (Builtin.firstCells i0.size i (.slice (some ⟨g, 0, none⟩) i c)).run P w.drew = .ok (cur.take (i * 2)).toArray w.drew := by
    refine run_firstCells_some w.drew i0.size i ⟨g, 0, none⟩ i c (cur.take (i * 2)) (by rw [hs, List.length_take]; omega) (fun j v hj => ?_)
    rw [add_g, Nat.zero_add, hR.drew1.cell]
    rw [List.getElem?_take] at hj
    split at hj
    · exact hj
    · cases hj
  have hbk : ∀ x, x ≤ 1099511627780 → x * i0.bytes ≤ 140737488355328 := fun x hx => Nat.le_trans (Nat.mul_le_mul hx hb) (by omega)
  have hrun := fun ty => Lib.run_append_grow_zeros w t 3 ty e i0 z .i64 .i64 hu hu3 hi hz (some ⟨g, 0, none⟩) i c (cur.take (i * 2)) hold k h0 (by omega) hg (by omega) (Nat.le_trans (hbk k (by omega)) (by omega))
    (growslice_fits hg (hbk _ h63))
  have hzc : ∀ n, (Builtin.zeroCells z.cells n).size = n * 2 := fun n => by simp [Builtin.zeroCells, hzs]
  have hge := grownCap_ge w (i + k) c e
  refine ⟨_, _, cur.take (i * 2) ++ (Builtin.zeroCells z.cells k).toList ++ (Builtin.zeroCells z.cells (grownCap w (i + k) c e - (i + k))).toList, hrun, ⟨?_, ?_⟩, ?_, ?_, hge, grownCap_le_maxLen w _ _ _ (by unfold maxLen; omega)⟩
  · have := heap_alloc_new w.drew (.cells ((cur.take (i * 2)).toArray ++ Builtin.zeroCells z.cells k ++ Builtin.zeroCells z.cells (grownCap w (i + k) c e - (i + k))) e)
    refine this.trans ?_
    congr 2
    apply Array.ext'
    simp
  · exact ⟨rfl, rfl, rfl, by simp, fun b hb _ => Below.heap_alloc w.drew _ b hb⟩
  · simp only [List.length_append, List.length_take, Array.length_toList, hzc]
    omega
  · rw [List.append_assoc, List.take_append_of_le_length (by rw [List.length_take]; omega), List.take_take, Nat.min_self]

/-- Two copies make the row: what comes behind first, then what is put in. -/
theorem splice_tail {α : Type} (cur news X xs : List α) (n m i j : Nat) (hx : cur.take (n * 2) = xs) (hX : X = (cur.drop (j * 2)).take ((n - j) * 2)) (hm : news.length = m * 2) (hij : i ≤ j) (hj : j ≤ n) (hl : (i + m + (n - j)) * 2 ≤ cur.length) (hn : n * 2 ≤ cur.length) :
    (splice (splice cur ((i + m) * 2) X) (i * 2) news).take ((i + m + (n - j)) * 2) = xs.take (i * 2) ++ news ++ xs.drop (j * 2) := by
  have lX : X.length = (n - j) * 2 := by rw [hX, List.length_take, List.length_drop]; omega
  have lx : xs.length = n * 2 := by rw [← hx, List.length_take]; omega
  have l1 : (splice cur ((i + m) * 2) X).length = cur.length := length_splice _ _ _ (by omega)
  apply List.ext_getElem?
  intro k
  rw [List.getElem?_take, get_three, List.length_take, show min (i * 2) xs.length = i * 2 by omega, hm]
  by_cases hk : k < (i + m + (n - j)) * 2
  · rw [if_pos hk, get_splice _ _ _ (by omega), get_splice _ _ _ (by omega), hm, lX]
    by_cases h1 : k < i * 2
    · rw [if_pos h1, if_pos h1, if_pos (by omega), List.getElem?_take, if_pos h1, ← hx, List.getElem?_take, if_pos (by omega)]
    · rw [if_neg h1, if_neg h1]
      by_cases h2 : k < i * 2 + m * 2
      · rw [if_pos h2, if_pos h2]
      · rw [if_neg h2, if_neg h2, if_neg (by omega), if_pos (by omega), hX, List.getElem?_take, if_pos (by omega), List.getElem?_drop, List.getElem?_drop, ← hx, List.getElem?_take, if_pos (by omega)]
        congr 1
        omega
  · rw [if_neg hk, if_neg (by omega), if_neg (by omega), List.getElem?_drop, List.getElem?_eq_none (by omega)]

theorem splice_head {α : Type} (cur cur1 news X xs : List α) (n m i j : Nat) (hx : cur.take (n * 2) = xs) (hX : X = (cur.drop (j * 2)).take ((n - j) * 2)) (h1 : cur1.take (i * 2) = cur.take (i * 2)) (hm : news.length = m * 2) (hij : i ≤ j) (hj : j ≤ n) (hl : (i + m + (n - j)) * 2 ≤ cur1.length) (hn : n * 2 ≤ cur.length) :
    (splice (splice cur1 (i * 2) news) ((i + m) * 2) X).take ((i + m + (n - j)) * 2) = xs.take (i * 2) ++ news ++ xs.drop (j * 2) := by
  have lX : X.length = (n - j) * 2 := by rw [hX, List.length_take, List.length_drop]; omega
  have lx : xs.length = n * 2 := by rw [← hx, List.length_take]; omega
  have l1 : (splice cur1 (i * 2) news).length = cur1.length := length_splice _ _ _ (by omega)
  apply List.ext_getElem?
  intro k
  rw [List.getElem?_take, get_three, List.length_take, show min (i * 2) xs.length = i * 2 by omega, hm]
  by_cases hk : k < (i + m + (n - j)) * 2
  · rw [if_pos hk, get_splice _ _ _ (by omega), get_splice _ _ _ (by omega), hm, lX]
    by_cases h2 : k < i * 2
    · have := congrArg (fun l => l[k]?) h1
      simp only [List.getElem?_take, if_pos h2] at this
      rw [if_pos (by omega), if_pos h2, if_pos h2, this, List.getElem?_take, if_pos h2, ← hx, List.getElem?_take, if_pos (by omega)]
    · by_cases h3 : k < i * 2 + m * 2
      · rw [if_pos (by omega), if_neg h2, if_pos h3, if_neg h2, if_pos h3]
      · rw [if_neg (by omega), if_pos (by omega), if_neg h2, if_neg h3, hX, List.getElem?_take, if_pos (by omega), List.getElem?_drop, List.getElem?_drop, ← hx, List.getElem?_take, if_pos (by omega)]
        congr 1
        omega
  · rw [if_neg hk, if_neg (by omega), if_neg (by omega), List.getElem?_drop, List.getElem?_eq_none (by omega)]

theorem owns_weaken {w : World} {B : Nat} {e : TypeId} {v : Value} {n : Nat} {xs : List Value} (h : w.ownsRow B e 2 v n xs) : w.ownsRow 0 e 2 v n xs := by
  refine ⟨h.1, ?_⟩
  rcases h.2 with h1 | ⟨g, cap, cur, rfl, -, r⟩
  · exact .inl h1
  · exact .inr ⟨g, cap, cur, rfl, Nat.zero_le _, r⟩

/-- append(s, v...): the same block, or a new one. -/
theorem run_append2 {P : Program} {w : World} (t ty e : TypeId) (i : TypeInfo) (z : Value) (ht : P.underlying t = some (.slice e)) (hi : P.info? e = some i) (hz : i.zero = some z) (hsize : i.size = 2) (hzs : z.cells.size = 2) (hb : i.bytes ≤ 16)
    (v : Value) (n : Nat) (xs : List Value) (hown : w.ownsRow 0 e 2 v n xs) (a : Addr) (m c : Nat) (news : List Value) (hl : news.length = m * 2) (hnews : ∀ j u, news[j]? = some u → w.cell? (a.add j) = some u) (h1 : ∀ u ∈ news, u.oneCell' = true) (h0 : 0 < m) (h63 : n + m ≤ 1099511627780) :
    ∃ g' cap' w', (Builtin.append_ #[t, t] ty #[v, .slice (some a) m c]).run P w = .ok (.slice (some ⟨g', 0, none⟩) (n + m) cap') w' ∧ w'.ownsRow 0 e 2 (.slice (some ⟨g', 0, none⟩) (n + m) cap') (n + m) (xs ++ news) ∧ w.grownBy w' v.ownBlock ∧ Hid (v.ownBlock = some g' ∨ w.heap.size ≤ g') := by
  have hby : (n + m) * i.bytes ≤ 140737488355328 := Nat.le_trans (Nat.mul_le_mul h63 hb) (by omega)
  have hfin : ∀ (v' : Value) (w' : World), w'.ownsRow 0 e 2 v' (n + m) (xs ++ news) → ∃ g' cap', v' = .slice (some ⟨g', 0, none⟩) (n + m) cap' := fun v' w' h => by
    rcases h.2 with ⟨-, h2⟩ | ⟨g', cap', cur, rfl, -⟩
    · omega
    · exact ⟨g', cap', rfl⟩
  rcases hown.2 with ⟨rfl, rfl⟩ | ⟨g, cap, cur, rfl, hbg, hg, hnc, hcm, hcs, htake⟩
  · have hown' : w.ownsRow w.heap.size e 2 (.slice none 0 0) 0 xs := ⟨hown.1, .inl ⟨rfl, rfl⟩⟩
    obtain ⟨v', w', hr, h2, h3, -⟩ := run_append_own (P := P) w w.heap.size t ty e i z 2 i.bytes ht hi hz hsize rfl hzs (by omega) _ 0 xs hown' a m c news hl hnews h1 (by unfold maxLen; omega) hby (Nat.le_refl _)
    obtain ⟨g', cap', rfl⟩ := hfin v' w' (owns_weaken h2)
    exact ⟨g', cap', w', hr, owns_weaken h2, h3, .inr (h2.lt g' rfl).1⟩
  · obtain ⟨v', w', hr, h2, h3, -⟩ := run_append_own (P := P) w 0 t ty e i z 2 i.bytes ht hi hz hsize rfl hzs (by omega) _ n xs hown a m c news hl hnews h1 (by unfold maxLen; omega) hby (Nat.zero_le _)
    obtain ⟨g', cap', rfl⟩ := hfin v' w' h2
    refine ⟨g', cap', w', hr, h2, h3, ?_⟩
    by_cases hroom : n + m ≤ cap
    · have hfit : n * i.size + news.length ≤ cur.size := by rw [hl, hcs, hsize, ← Nat.add_mul]; exact Nat.mul_le_mul_right _ hroom
      have hr2 := run_append_room (P := P) w t ty e i ht hi g n cap cur hg a m c news (by rw [hl, hsize]) hnews h1 hroom hfit
      have := hr.symm.trans hr2
      simp only [Result.ok.injEq, Value.slice.injEq, Option.some.injEq, Addr.mk.injEq] at this
      exact .inl (by simp [Value.ownBlock, this.1.1.1])
    · have holds : ∀ j u, xs[j]? = some u → w.cell? ((⟨g, 0, none⟩ : Addr).add j) = some u := hown.cells (g := g) rfl
      have hr2 := run_append_grow (P := P) w t ty e i z ht hi hz ⟨g, 0, none⟩ n cap xs (by rw [hsize]; exact hown.1) holds a m c news (by rw [hl, hsize]) hnews (by omega) (by omega) (growslice_fits (by omega) hby)
      have := hr.symm.trans hr2
      simp only [Result.ok.injEq, Value.slice.injEq, Option.some.injEq, Addr.mk.injEq] at this
      exact .inr (by omega)

/-- append(s[:i], v...) with room: in place. -/
theorem run_room2 {P : Program} {w : World} {g : Nat} {e : TypeId} {cur : List Value} (hR : Rowed w (some g) g e cur w) (t ty : TypeId) (i0 : TypeInfo) (ht : P.underlying t = some (.slice e)) (hi : P.info? e = some i0) (hs : i0.size = 2) (i c : Nat) (a : Addr) (m cv : Nat) (news : List Value) (hl : news.length = m * 2)
    (hnews : ∀ j u, news[j]? = some u → w.cell? (a.add j) = some u) (h1 : ∀ u ∈ news, u.oneCell' = true) (hroom : i + m ≤ c) (hcl : cur.length = c * 2) :
    ∃ w', (Builtin.append_ #[t, t] ty #[.slice (some ⟨g, 0, none⟩) i c, .slice (some a) m cv]).run P w = .ok (.slice (some ⟨g, 0, none⟩) (i + m) c) w' ∧ Rowed w (some g) g e (splice cur (i * 2) news) w' := by
  have hr := run_append_room (P := P) w t ty e i0 ht hi g i c cur.toArray hR.heap a m cv news (by rw [hl, hs]) hnews h1 hroom (by rw [hs, hl]; simp; omega)
  refine ⟨_, hr, ?_⟩
  rw [hs]
  have := hR.set (.inl rfl) (splice cur (i * 2) news)
  simpa [splice] using this

end Go.Proofs.Ytdalghfhpekcfaa
