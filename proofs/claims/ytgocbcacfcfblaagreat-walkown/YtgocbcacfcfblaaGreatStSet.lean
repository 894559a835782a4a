/- The table's Set, and the store's Reweigh. -/
import Derived.Test.YtgocbcacfcfblaaGreatStBoth
import Derived.Lib.AppendZeros
import Derived.Test.YtgocbcacfcfblaaGreatTail
import Derived.Test.YtgocbcacfcfblaaGreatStPut
namespace Go.Proofs.YtgocbcacfcfblaaGreat

section
open Go.RowKit Go.Maps
/-- The places of these numbers are free. -/
def clr (ps : List (EdgeV × Bool)) (es : List Int) : List (EdgeV × Bool) := es.foldl (fun p e => p.set (e - 1).toNat (((0, 0, 0, 0) : EdgeV), false)) ps
theorem clr_snoc (ps : List (EdgeV × Bool)) (es : List Int) (i : Nat) : clr ps (es ++ [(i : Int) + 1]) = (clr ps es).set i (((0, 0, 0, 0) : EdgeV), false) := by
  unfold clr
  rw [List.foldl_append]
  simp
theorem at_clr : ∀ (es : List Int) (ps : List (EdgeV × Bool)) (j : Nat) (y : EdgeV), (∀ e ∈ es, 1 ≤ e) → ((clr ps es)[j]? = some (y, true) ↔ ((j : Int) + 1 ∉ es) ∧ ps[j]? = some (y, true))
  | [], ps, j, y, _ => by simp [clr]
  | e :: es, ps, j, y, h => by
    have ih := at_clr es (ps.set (e - 1).toNat (((0, 0, 0, 0) : EdgeV), false)) j y (fun x hx => h x (List.mem_cons_of_mem _ hx))
    have he := h e (List.mem_cons_self ..)
    show (clr (ps.set (e - 1).toNat (((0, 0, 0, 0) : EdgeV), false)) es)[j]? = _ ↔ _
    rw [ih, at_cut, List.mem_cons]
    constructor
    · rintro ⟨h1, h2, h3⟩
      refine ⟨fun e2 => ?_, h3⟩
      rcases e2 with e2 | e2
      · exact h2 (by omega)
      · exact h1 e2
    · rintro ⟨h1, h2⟩
      exact ⟨fun e2 => h1 (.inr e2), fun e2 => h1 (.inl (by omega)), h2⟩
theorem clr_length (ps : List (EdgeV × Bool)) : ∀ (es : List Int), (clr ps es).length = ps.length := by
  intro es
  induction es generalizing ps with
  | nil => rfl
  | cons e es ih => exact (ih _).trans (by simp)

/-- The record of a number. -/
def recOf (ps : List (EdgeV × Bool)) (e : Int) : EdgeV := ((ps[(e - 1).toNat]?).map (·.1)).getD ((0, 0, 0, 0) : EdgeV)
theorem recOf_at {ps : List (EdgeV × Bool)} {i : Nat} {a : EdgeV} {b : Bool} (h : ps[i]? = some (a, b)) : recOf ps ((i : Int) + 1) = a := by
  unfold recOf
  rw [show ((i : Int) + 1 - 1).toNat = i by omega, h]; rfl
def encG (gs : List EdgeV) : List Value := gs.flatMap fun a => [.int .i64 a.1, .int .i64 a.2.1, .int .i64 a.2.2.1, .int .u32 a.2.2.2]
theorem encG_snoc (gs : List EdgeV) (a : EdgeV) : encG (gs ++ [a]) = encG gs ++ [.int .i64 a.1, .int .i64 a.2.1, .int .i64 a.2.2.1, .int .u32 a.2.2.2] := by simp [encG]
theorem encG_length (gs : List EdgeV) : (encG gs).length = gs.length * 4 := by
  induction gs with
  | nil => rfl
  | cons r rs ih => simp [encG] at ih ⊢; omega

theorem mapFn_pos {w : World} {m N : Nat} {f : Int → Option Nat} {k : Int} {q : Nat} (h : MapFn 3 klN okN w m f N) (hk : okN k) (hq : f k = some q) : ∃ N', N = N' + 1 := by
  obtain ⟨D, h1, h2, h3, h4⟩ := h
  have := size_del (k := klN k) h2
  rw [(h4 k hk).2, hq, h3] at this
  simp at this
  exact ⟨_, this.symm⟩

theorem info50 : (Tryz.prog.info? 50).map (fun i => (i.zero, i.size, i.bytes)) = some (some (.agg #[.int .i64 0, .int .i64 0, .int .i64 0, .int .u32 0]), 4, 32) := by kernel_rfl

theorem gcells_new (w : World) (a : EdgeV) : ∀ j u, [Value.int .i64 a.1, .int .i64 a.2.1, .int .i64 a.2.2.1, .int .u32 a.2.2.2][j]? = some u → (w.alloc (oE a)).cell? ((⟨w.heap.size, 0, none⟩ : Addr).add j) = some u := by
  intro j u hj
  have add : (⟨w.heap.size, 0, none⟩ : Addr).add j = ⟨w.heap.size, j, none⟩ := by unfold Addr.add; split <;> simp_all
  rw [add]
  have h1 : j < 4 := by
    have := (List.getElem?_eq_some_iff.1 hj).1
    simpa using this
  rw [cell_of_row _ _ _ _ _ _ (heap_alloc_new w (oE a))]
  match j, h1 with
  | 0, _ => simpa using hj
  | 1, _ => simpa using hj
  | 2, _ => simpa using hj
  | 3, _ => simpa using hj

/-- A list of records, from B on. -/
abbrev GRow (B : Nat) (w : World) (v : Value) (gs : List EdgeV) : Prop := w.ownsRow B 50 4 v gs.length (encG gs)
theorem grow_kept {B : Nat} {w w' : World} {v : Value} {gs : List EdgeV} (h : GRow B w v gs) (hk : ∀ b, v.ownBlock = some b → w'.heap[b]? = w.heap[b]?) : GRow B w' v gs := by
  refine ⟨h.1, ?_⟩
  rcases h.2 with hn | ⟨g, cap, cur, e, hb, hgg, rest⟩
  · exact .inl hn
  · exact .inr ⟨g, cap, cur, e, hb, (hk g (by rw [e]; rfl)).trans hgg, rest⟩
theorem grow_shape {B : Nat} {w : World} {v : Value} {gs : List EdgeV} (h : GRow B w v gs) : ∃ a n c, v = .slice a n c := by
  rcases h.2 with ⟨e, h0⟩ | ⟨g', cap, cur, e, -⟩
  · exact ⟨_, _, _, e⟩
  · exact ⟨_, _, _, e⟩

/-- One record more. -/
theorem run_appG {B : Nat} {w : World} {v : Value} {gs : List EdgeV} (a : EdgeV) (h : GRow B w v gs) (hB : B ≤ w.heap.size) (hl : gs.length ≤ 100000) :
    ∃ a' n' c' w', (∀ ty, (Builtin.append_ #[25, 25] ty #[v, .slice (some ⟨w.heap.size, 0, none⟩) 1 1]).run Tryz.prog (w.alloc (oE a)) = .ok (.slice a' n' c') w') ∧ GRow B w' (.slice a' n' c') (gs ++ [a]) ∧ (w.alloc (oE a)).grownBy w' v.ownBlock ∧ ∀ b, (Value.slice a' n' c').ownBlock = some b → v.ownBlock = some b ∨ w.heap.size < b := by
  obtain ⟨i, hi, hz, hs, hb⟩ := info_parts info50
  have hsz : (w.alloc (oE a)).heap.size = w.heap.size + 1 := by simp
  have h1 : GRow B (w.alloc (oE a)) v gs := grow_kept h (fun b hb => heap_alloc_old w _ (h.lt b hb).2)
  obtain ⟨v', w', hr, g1, g2, -, g3⟩ := run_append_own_at (P := Tryz.prog) (w.alloc (oE a)) B 25 0 50 i _ 4 32 Tryz.underlying25 hi hz hs hb rfl (by omega) v gs.length (encG gs) h1 ⟨w.heap.size, 0, none⟩ 1 1 [.int .i64 a.1, .int .i64 a.2.1, .int .i64 a.2.2.1, .int .u32 a.2.2.2] rfl
    (gcells_new w a) (by intro u hu; simp at hu; rcases hu with rfl | rfl | rfl | rfl <;> rfl) (by unfold maxLen; omega) (by omega) (by omega)
  rw [← encG_snoc, show gs.length + 1 = (gs ++ [a]).length by simp] at g1
  obtain ⟨a', n', c', rfl⟩ := grow_shape g1
  refine ⟨a', n', c', w', fun ty => hr, g1, g2, fun b hb => ?_⟩
  rcases g3 with e | e
  · exact .inl (e ▸ hb)
  · rw [hb, hsz] at e; exact .inr (by have := Option.some.inj e; omega)

theorem boths_ge {ps : List (EdgeV × Bool)} {k : Int} : ∀ e ∈ boths ps k, 1 ≤ e := fun e he => by
  obtain ⟨j, x, -, -, h⟩ := mem_numsOf.1 he
  omega

theorem brow_at {B : Nat} {w : World} {g n c : Nat} {ks : List Int} (h : BRow B w (.slice (some ⟨g, 0, none⟩) n c) ks) {j : Nat} {e : Int} (hj : ks[j]? = some e) : w.cell? ⟨g, j, none⟩ = some (.int .i64 e) := by
  have := h.cells (g := g) rfl j (.int .i64 e) (by rw [List.getElem?_map, hj]; rfl)
  rwa [show (⟨g, 0, none⟩ : Addr).add j = ⟨g, j, none⟩ by unfold Addr.add; split <;> simp_all] at this
theorem brow_some {B : Nat} {w : World} {a : Option Addr} {n c : Nat} {ks : List Int} (h : BRow B w (.slice a n c) ks) (h0 : 0 < ks.length) : ∃ g, a = some ⟨g, 0, none⟩ := by
  rcases h.2 with ⟨e, h1⟩ | ⟨g', cap, cur, e, -⟩
  · omega
  · injection e with e1; exact ⟨g', e1⟩

section
variable [Inhabited EntI] {w w' : World} {X : Sto}

/-- Behind j edges of k: what is there. -/
structure Dv (w : World) (X : Sto) (es : List Int) (v1 gv : Value) (j : Nat) (W : World) (Y : Sto) : Prop where
  at_ : StAt W Y
  s : Y.s = X.s
  foot : Foots w X.L W Y.L
  ps : Y.ps = clr X.ps (es.take j)
  f : Y.f = X.f
  N : Y.N = X.N
  rd : Y.rd = X.rd
  wr : Y.wr = X.wr + j
  n : Y.n ≤ X.n + 65536 * j
  nums : BRow w.heap.size W v1 es
  l1 : ∀ b, v1.ownBlock = some b → Y.L b = none
  gone : GRow w.heap.size W gv ((es.take j).map (recOf X.ps))
  l2 : ∀ b, gv.ownBlock = some b → Y.L b = none ∧ v1.ownBlock ≠ some b

theorem Dv.step {es : List Int} {v1 gv : Value} {j i : Nat} {W w2 : World} {Y Y2 : Sto} {a : EdgeV} (h : Dv w X es v1 gv j W Y) (hj : es[j]? = some ((i : Int) + 1)) (hi : X.ps[i]? = some (a, true)) (hl : es.length ≤ 100000) (hR : Remd W Y i w2 Y2) :
    ∃ a' n' c' w', (∀ ty, (Builtin.append_ #[25, 25] ty #[gv, .slice (some ⟨w2.heap.size + 1, 0, none⟩) 1 1]).run Tryz.prog ((w2.alloc (oE a)).alloc (oE a)) = .ok (.slice a' n' c') w') ∧ Dv w X es v1 (.slice a' n' c') (j + 1) w' Y2 := by
  obtain ⟨⟨r1, r2, r3⟩, r4, r5, r6, r7, r8, r9⟩ := hR
  have hw := h.foot.1.size
  have hw2 := r3.1.size
  have hsz : (w2.alloc (oE a)).heap.size = w2.heap.size + 1 := by simp
  have hb1 : Below w2.heap.size w2 (w2.alloc (oE a)) := (Below.refl _ _).alloc (Nat.le_refl _) _
  have e1 : es.take (j + 1) = es.take j ++ [(i : Int) + 1] := by rw [List.take_add_one, hj]; rfl
  have hjl : (es.take j).length ≤ 100000 := by rw [List.length_take]; omega
  have old1 : ∀ b, v1.ownBlock = some b → w2.heap[b]? = W.heap[b]? ∧ Y2.L b = none := fun b hb => r3.old (h.nums.lt b hb).2 (h.l1 b hb)
  have old2 : ∀ b, gv.ownBlock = some b → w2.heap[b]? = W.heap[b]? ∧ Y2.L b = none := fun b hb => r3.old (h.gone.lt b hb).2 (h.l2 b hb).1
  have g0 : GRow w.heap.size (w2.alloc (oE a)) gv ((es.take j).map (recOf X.ps)) := grow_kept h.gone (fun b hb => (heap_alloc_old w2 _ (by have := (h.gone.lt b hb).2; omega)).trans (old2 b hb).1)
  obtain ⟨a', n', c', w', hr, g1, g2, g3⟩ := run_appG a g0 (by omega) (by rw [List.length_map]; exact hjl)
  rw [hsz] at hr g3
  have hs3 : ((w2.alloc (oE a)).alloc (oE a)).heap.size = w2.heap.size + 2 := by simp
  have hb2 : Below w2.heap.size w2 ((w2.alloc (oE a)).alloc (oE a)) := hb1.trans ((Below.refl _ _).alloc (by omega) _)
  have keep : ∀ b, b < w2.heap.size → gv.ownBlock ≠ some b → w'.heap[b]? = w2.heap[b]? := fun b hb hn => (g2.block b (by omega) (fun e => hn e.symm)).trans (hb2.block b hb)
  have hnew : ∀ b, w2.heap.size ≤ b → Y2.L b = none := fun b hb => r1.mem.new hb
  have hs4 : w2.heap.size ≤ w'.heap.size := by have := g2.size; omega
  have labs : ∀ b, Y2.L b ≠ none → w'.heap[b]? = w2.heap[b]? := fun b hb => keep b (r1.mem.lt b hb) (fun e => hb (old2 b e).2)
  refine ⟨a', n', c', w', hr, ⟨r1.kept labs hs4, r2.trans h.s, ?_, ?_, r5.trans h.f, r6.trans h.N, r7.trans h.rd, ?_, Nat.le_trans r9 (by rw [Nat.mul_succ, ← Nat.add_assoc]; exact Nat.add_le_add_right h.n _), ?_, fun b hb => (old1 b hb).2, ?_, fun b hb => ?_⟩⟩
  · obtain ⟨F1, F2⟩ := h.foot.trans r3
    exact ⟨⟨g2.os.trans (hb2.os.trans F1.os), g2.tape.trans (hb2.tape.trans F1.tape), g2.output.trans (hb2.output.trans F1.output), Nat.le_trans F1.size hs4, fun b hb hn => (keep b (Nat.lt_of_lt_of_le hb F1.size) (fun e => by have := (h.gone.lt b e).1; omega)).trans (F1.block b hb hn)⟩, F2⟩
  · rw [r4, h.ps, e1, clr_snoc]
  · rw [r8, h.wr]; push_cast; omega
  · exact brow_kept h.nums (fun b hb => (keep b (by have := (h.nums.lt b hb).2; omega) (fun e => (h.l2 b e).2 hb)).trans (old1 b hb).1)
  · rw [e1, List.map_append, List.map_singleton, recOf_at hi]; exact g1
  · rcases g3 b hb with e | e
    · exact ⟨(old2 b e).2, (h.l2 b e).2⟩
    · exact ⟨hnew b (by omega), fun e2 => by have := (h.nums.lt b e2).2; omega⟩

/-- What DropVertex leaves. -/
def Vanished (w : World) (X : Sto) (k : Int) (w' : World) (X' : Sto) : Prop :=
  Step w X w' X' ∧ X'.ps = clr X.ps (boths X.ps k) ∧ X'.f = putK X.f k none ∧ X'.N + 1 = X.N ∧ X'.rd = X.rd ∧ X'.wr = X.wr + (boths X.ps k).length ∧ X'.n ≤ X.n + 65536 * (boths X.ps k).length

theorem Dv.end_ {k : Int} {q : Nat} {v1 gv : Value} {W : World} {Y : Sto} (hX : StAt w X) (hk : X.f k = some q) (h : Dv w X (boths X.ps k) v1 gv (boths X.ps k).length W Y) :
    ∃ w', (∀ ty, (Builtin.delete_ #[65, 3] ty #[.map (some Y.m), .int .i64 k]).run Tryz.prog W = .ok (.tuple #[]) w') ∧ ∃ X', Vanished w X k w' X' ∧ GRow w.heap.size w' gv ((boths X.ps k).map (recOf X.ps)) ∧ ∀ b, gv.ownBlock = some b → X'.L b = none := by
  have hok := hX.ok hk
  have hq : Y.f k = some q := by rw [h.f]; exact hk
  have hm := h.at_.mem
  obtain ⟨N', hN'⟩ := mapFn_pos hm.map hok hq
  have hmap := hm.map
  rw [hN'] at hmap
  obtain ⟨w', hr, g1, g2⟩ := hmap.del_ kitN (t := 65) (e := 112) Tryz.underlying65 k hok (by rw [hq]; rfl) 0
  have t2 := turned_map (S := fun b => b = Y.m) g2 rfl
  have labs : ∀ b l, Y.L b = some l → l ≠ .map → w'.heap[b]? = W.heap[b]? := fun b l e hl => t2.block b (hm.lt b (by rw [e]; simp)) (fun e2 => by
    subst e2
    rw [hm.lmap] at e
    exact hl (Option.some.inj e).symm)
  have hf : ∀ j p, putK Y.f k none j = some p → j ≠ k ∧ Y.f j = some p := fun j p e => by
    unfold putK at e
    by_cases hj : j = k
    · rw [if_pos hj] at e; cases e
    · rw [if_neg hj] at e; exact ⟨hj, e⟩
  have hps : Y.ps = clr X.ps (boths X.ps k) := by rw [h.ps, List.take_length]
  refine ⟨w', fun ty => hr, { Y with f := putK Y.f k none, N := N' }, ⟨⟨⟨⟨(labs _ _ hm.lbox (by simp)).trans hm.box, hm.tab.kept (fun b hb => labs _ _ (hm.ltab b hb) (by simp)), g1, fun j hj => ?_, fun j p e => (labs _ _ (hm.lpair j p (hf j p e).2) (by simp)).trans (hm.pair j p (hf j p e).2),
    fun j p e => nrow_kept (hm.out j p (hf j p e).2) (fun b hb => labs _ _ (hm.lout j p b (hf j p e).2 hb) (by simp)), fun j p e => nrow_kept (hm.inn j p (hf j p e).2) (fun b hb => labs _ _ (hm.linn j p b (hf j p e).2 hb) (by simp)), hm.lbox, hm.ltab, hm.lmap, fun j p e => hm.lpair j p (hf j p e).2, fun j p b e hb => hm.lout j p b (hf j p e).2 hb, fun j p b e hb => hm.linn j p b (hf j p e).2 hb, fun b hb => Nat.lt_of_lt_of_le (hm.lt b hb) t2.size⟩, fun i x hx => ?_, ?_⟩, h.s, ?_⟩, hps, by show putK Y.f k none = _; rw [h.f], ?_, h.rd, h.wr, h.n⟩, ?_⟩
  · replace hj : putK Y.f k none j ≠ none := hj
    refine hm.keys j (fun e => hj ?_)
    unfold putK
    by_cases hjk : j = k
    · rw [if_pos hjk]
    · rw [if_neg hjk]; exact e
  · replace hx : Y.ps[i]? = some (x, true) := hx
    obtain ⟨a1, a2, a3⟩ := h.at_.edge i x hx
    rw [hps] at hx
    obtain ⟨b1, b2⟩ := (at_clr _ _ i x boths_ge).1 hx
    have n1 : x.2.1 ≠ k := fun e => b1 (mem_numsOf.2 ⟨i, x, b2, by simp [e], rfl⟩)
    have n2 : x.2.2.1 ≠ k := fun e => b1 (mem_numsOf.2 ⟨i, x, b2, by simp [e], rfl⟩)
    refine ⟨a1, ?_, ?_⟩
    · show putK Y.f k none _ ≠ none
      unfold putK; rw [if_neg n1]; exact a2
    · show putK Y.f k none _ ≠ none
      unfold putK; rw [if_neg n2]; exact a3
  · show N' ≤ 256
    have := h.at_.size; omega
  · exact h.foot.trans ⟨t2.mono (fun b _ e => by rw [e, hm.lmap]; simp), fun b hb => .inl hb⟩
  · show N' + 1 = X.N
    rw [← hN', h.N]
  · have := h.gone
    rw [List.take_length] at this
    refine ⟨grow_kept this (fun b hb => t2.block b (this.lt b hb).2 (fun e => ?_)), fun b hb => (h.l2 b hb).1⟩
    have := (h.l2 b hb).1
    rw [e, hm.lmap] at this; cases this

set_option maxHeartbeats 1000000 in
set_option maxRecDepth 100000 in
theorem dropVNo (k : Int) (h : StAt w X) (hk : okN k) (hf : X.f k = none) : Calls Tryz.prog 53 #[.pointer (some ⟨X.s, 0, none⟩), .int .i64 k] w fun r w' => r = .returned (.tuple #[.slice none 0 0, .int .i64 5]) ∧ w' = w := by
  obtain ⟨-, c1, -, -, -⟩ := h.cells
  have hl := h.look2 k hk
  rw [hf] at hl
  simp only [ptr, Option.isSome_none] at hl
  generalize X.s = s at *
  generalize X.m = m at *
  clear h hk hf
  go_enter Tryz.func53, Tryz.ntmps53
  go_wp2_with fail
  go_ret2
  exact ⟨rfl, rfl⟩

set_option maxHeartbeats 4000000 in
set_option maxRecDepth 100000 in
theorem dropVS {q : Nat} (k : Int) (h : StAt w X) (hk : X.f k = some q) (hn : X.n ≤ 800000000) (hw0 : 0 ≤ X.wr) (hw1 : X.wr ≤ 900000000) : Calls Tryz.prog 53 #[.pointer (some ⟨X.s, 0, none⟩), .int .i64 k] w fun r w' => ∃ v', r = .returned (.tuple #[v', .int .i64 0]) ∧ Hid (∃ X', Vanished w X k w' X' ∧ GRow w.heap.size w' v' ((boths X.ps k).map (recOf X.ps)) ∧ ∀ b, v'.ownBlock = some b → X'.L b = none) := by
  obtain ⟨-, c1, -, -, -⟩ := h.cells
  have hl := h.look2 k (h.ok hk)
  rw [hk] at hl
  simp only [ptr, Option.isSome_some] at hl
  have CA := hide (allS h hk)
  have hlen : (boths X.ps k).length ≤ 1024 := Nat.le_trans (length_numsOf _ _) (by have := h.tab.len; omega)
  have HS : Hid (∀ w1 v1, BRow w.heap.size w1 v1 (boths X.ps k) ∧ Below w.heap.size w w1 → Dv w X (boths X.ps k) v1 (.slice none 0 0) 0 w1 X) := fun w1 v1 hh => by
    refine ⟨h.below hh.2, rfl, Foots.below _ hh.2, rfl, rfl, rfl, rfl, by simp, by simp, hh.1, fun b hb => h.mem.new (hh.1.lt b hb).1, ⟨rfl, .inl ⟨rfl, rfl⟩⟩, fun b hb => by simp [Value.ownBlock] at hb⟩
  have HX := hide (And.intro h (And.intro hk (And.intro hn (And.intro hw0 (And.intro hw1 hlen)))))
  obtain ⟨s0, hs0⟩ : ∃ s0, s0 = X.s := ⟨_, rfl⟩
  rw [← hs0] at c1 ⊢
  have HS0 := hide hs0
  obtain ⟨m0, hm0⟩ : ∃ m0, m0 = X.m := ⟨_, rfl⟩
  rw [← hm0] at c1 hl
  clear h hk hn hw0 hw1 hlen hs0 hm0
  go_enter Tryz.func53, Tryz.ntmps53
  go_wp2_with fail
  refine (unhide CA).mono ?_
  rintro r w1 ⟨v1, rfl, h1⟩
  obtain ⟨a1, c1', e1, -⟩ := brow_shape (unhide h1).1
  subst e1
  have HD := hide (unhide HS w1 _ (unhide h1))
  obtain ⟨es, hes⟩ : ∃ es, es = boths X.ps k := ⟨_, rfl⟩
  rw [← hes] at HD ⊢
  have HE := hide hes
  obtain ⟨L1, hL1⟩ : ∃ L1, L1 = es.length := ⟨_, rfl⟩
  rw [← hL1]
  have HL1 := hide hL1
  rw [← hL1] at HD
  clear CA HS h1 hes hL1 c1 hl
  go_wp2_with fail
  go_loopw [8, 27] (fun s8 s27 wr => ∃ (j : Nat) (ga : Option Addr) (gn gc : Nat) (Y : Sto), s27 = .int .i64 j ∧ s8 = .slice ga gn gc ∧ j ≤ L1 ∧ Hid (Dv w X es (.slice a1 L1 c1') (.slice ga gn gc) j wr Y)) (fun _ s27 _ => L1 - (intOf s27).toNat)
  case atStart => exact ⟨0, none, 0, 0, X, rfl, rfl, Nat.zero_le _, HD⟩
  case round =>
    obtain ⟨j, ga, gn, gc, Y, rfl, rfl, hjL, hD⟩ := hrel
    by_cases hj : j < L1
    · have hjz : (j : Int) < (L1 : Int) := by omega
      have hje : j < es.length := by have := unhide HL1; omega
      obtain ⟨e, he⟩ : ∃ e, es[j]? = some e := ⟨_, List.getElem?_eq_getElem hje⟩
      have hmem : e ∈ boths X.ps k := by rw [← unhide HE]; exact List.mem_of_getElem? he
      obtain ⟨i, a, hi, -, rfl⟩ := mem_numsOf.1 hmem
      obtain ⟨g1, rfl⟩ := brow_some (unhide hD).nums (by omega)
      have hc := brow_at (unhide hD).nums he
      have hYi : Y.ps[i]? = some (a, true) := by
        rw [(unhide hD).ps]
        refine (at_clr _ _ i a (fun x hx => boths_ge x (by rw [← unhide HE]; exact List.mem_of_mem_take hx))).2 ⟨fun hin => ?_, hi⟩
        have hr : Rising ltN es := by rw [unhide HE]; exact rising_numsOf _ _
        obtain ⟨p, hp, ep⟩ := List.mem_iff_getElem.1 hin
        have hpj : p < j := by simp at hp; omega
        have hlt := List.pairwise_iff_getElem.1 hr p j (by omega) hje hpj
        rw [List.getElem_take] at ep
        have e2 : es[j] = (i : Int) + 1 := by rw [List.getElem?_eq_getElem hje] at he; exact Option.some.inj he
        rw [ep, e2] at hlt
        simp [ltN] at hlt
      have CR : Hid (Calls Tryz.prog 39 #[.pointer (some ⟨s0, 0, none⟩), .int .i64 ((i : Int) + 1)] wr fun r w2 => r = .returned (.tuple #[.agg #[.int .i64 a.1, .int .i64 a.2.1, .int .i64 a.2.2.1, .int .u32 a.2.2.2], .bool true]) ∧ Hid (∃ Y2 a' n' c' w', (∀ ty, (Builtin.append_ #[25, 25] ty #[.slice ga gn gc, .slice (some ⟨w2.heap.size + 1, 0, none⟩) 1 1]).run Tryz.prog ((w2.alloc (oE a)).alloc (oE a)) = .ok (.slice a' n' c') w') ∧ Dv w X es (.slice (some ⟨g1, 0, none⟩) L1 c1') (.slice a' n' c') (j + 1) w' Y2)) := by
        have hD' := unhide hD
        obtain ⟨-, -, q1, q2, q3, q4⟩ := unhide HX
        have q5 := unhide HL1
        rw [unhide HE] at q5
        have q6 : 65536 * j ≤ 65536 * 1024 := Nat.mul_le_mul_left _ (by omega)
        have q7 := hD'.n
        have q8 := hD'.wr
        have := removeS i hD'.at_ hYi (by omega) (by omega) (by omega)
        rw [hD'.s, ← unhide HS0] at this
        refine this.mono ?_
        rintro r w2 ⟨rfl, h2⟩
        obtain ⟨Y2, hR⟩ := unhide h2
        obtain ⟨a', n', c', w', hr, hd⟩ := hD'.step he hi (by have := unhide HL1; omega) hR
        exact ⟨rfl, Y2, a', n', c', w', hr, hd⟩
      clear hD hYi hmem hi he hje HD
      go_wp2_with fail
      refine (unhide CR).mono ?_
      rintro r w2 ⟨rfl, h2⟩
      clear CR hc
      go_upto_region 9 with fail
      change Code.wp _ _ _ _ (w2.alloc (oE a))
      obtain ⟨Y2, a', n', c', w', hr, hd⟩ := unhide h2
      have HDD := hide hd
      obtain ⟨x0, x1, x2, x3, -⟩ := box_cells (heap_alloc_new w2 (oE a))
      have hsz : (w2.alloc (oE a)).heap.size = w2.heap.size + 1 := by simp
      rw [← hsz] at hr
      clear h2 hd hsz
      generalize w2.alloc (oE a) = w3 at *
      generalize w2.heap.size = b2 at *
      have HR := hide hr
      clear hr
      unfold oE at HR
      go_wp2_with (at_builtin; refine Lib.wpList_append_run _ rfl _ _ 25 25 rfl _ _ rfl rfl _ _ (unhide HR _) ?_)
      have hwj : wrap64 ((j : Int) + 1) = ((j + 1 : Nat) : Int) := by
        have h1 := (unhide HX).2.2.2.2.2
        have h2 := unhide HL1
        rw [unhide HE] at h2
        unfold wrap64; omega
      rw [hwj]
      exact ⟨⟨j + 1, a', n', c', Y2, rfl, rfl, by omega, HDD⟩, by simp [intOf]; omega⟩
    · have hjz : ¬ (j : Int) < (L1 : Int) := by omega
      have HF : Hid (∃ ym w', wr.cell? ⟨s0, 1, none⟩ = some (.map (some ym)) ∧ (∀ ty, (Builtin.delete_ #[65, 3] ty #[.map (some ym), .int .i64 k]).run Tryz.prog wr = .ok (.tuple #[]) w') ∧ ∃ X', Vanished w X k w' X' ∧ GRow w.heap.size w' (.slice ga gn gc) ((boths X.ps k).map (recOf X.ps)) ∧ ∀ b, (Value.slice ga gn gc).ownBlock = some b → X'.L b = none) := by
        obtain ⟨h, hk, -, -, -, -⟩ := unhide HX
        have hD' := unhide hD
        have e1 : j = (boths X.ps k).length := by have := unhide HL1; rw [unhide HE] at this; omega
        rw [unhide HE, e1] at hD'
        obtain ⟨w', hr, hV⟩ := hD'.end_ h hk
        have c := hD'.at_.cells.2.1
        rw [hD'.s, ← unhide HS0] at c
        exact ⟨_, w', c, hr, hV⟩
      clear hD HD
      obtain ⟨ym, w', k1, hr, hV⟩ := unhide HF
      have HV := hide hV
      have hr0 := hr 0
      clear HF hV
      go_wp2_with fail
      go_ret2
      obtain ⟨X', v1, v2, v3⟩ := unhide HV
      first | exact ⟨_, rfl, X', v1, v2, v3⟩ | exact ⟨_, rfl, v2, X', v1, v3⟩ | exact ⟨_, rfl, X', v1, v3, v2⟩
end
end

section
open Go.RowKit Go.Maps
/-- What a store says: its vertices, how many, its places, the gauge; nb: a bound on what its heap has seen. -/
structure Gr where
  V : Int → Bool
  N : Nat
  ps : List (EdgeV × Bool)
  rd : Int
  wr : Int
  nb : Nat

structure Shows (X : Sto) (g : Gr) : Prop where
  V : ∀ k, (X.f k).isSome = g.V k
  N : X.N = g.N
  ps : X.ps = g.ps
  rd : X.rd = g.rd
  wr : X.wr = g.wr
  n : X.n ≤ g.nb

structure LiveS [Inhabited EntI] (B : Nat) (w0 : World) (s : Nat) (g : Gr) (w : World) : Prop where
  below : Below B w0 w
  room : B ≤ w.heap.size
  on : ∃ X, StAt w X ∧ X.s = s ∧ Shows X g ∧ ∀ b, X.L b ≠ none → B ≤ b

theorem Shows.some_ {X : Sto} {g : Gr} (h : Shows X g) {k : Int} (hk : g.V k = true) : X.f k ≠ none := fun e => by
  have := h.V k; rw [e, hk] at this; cases this
theorem Shows.none_ {X : Sto} {g : Gr} (h : Shows X g) {k : Int} (hk : g.V k = false) : X.f k = none := by
  have := h.V k
  rw [hk] at this
  cases e : X.f k with
  | none => rfl
  | some q => rw [e] at this; cases this

section
variable [Inhabited EntI] {B : Nat} {w0 w w' : World} {s : Nat} {g : Gr}

theorem LiveS.step (h : LiveS B w0 s g w) (hb : Below w.heap.size w w') : LiveS B w0 s g w' := by
  obtain ⟨X, h1, h2, h3, h4⟩ := h.on
  exact ⟨h.below.trans (hb.mono h.room), Nat.le_trans h.room hb.size, X, h1.below hb, h2, h3, h4⟩
theorem LiveS.draw (h : LiveS B w0 s g w) (q : Nat) : LiveS B w0 s g (w.drewN q) := h.step (below_drewN (Below.refl _ _) q)
theorem LiveS.later {X X' : Sto} {g' : Gr} (h : LiveS B w0 s g w) (hs : X.s = s) (hl : ∀ b, X.L b ≠ none → B ≤ b) (hS : Step w X w' X') (hg : Shows X' g') : LiveS B w0 s g' w' := by
  obtain ⟨r1, r2, r3, r4⟩ := hS
  exact ⟨h.below.trans (r3.below h.room (fun b hb => hl b hb)), Nat.le_trans h.room r3.size, X', r1, r2.trans hs, hg, fun b hb => (r4 b hb).elim (hl b) (fun e => Nat.le_trans h.room e)⟩
theorem LiveS.len (h : LiveS B w0 s g w) : (g.ps.length : Int) ≤ 1024 := by
  obtain ⟨X, h1, -, h3, -⟩ := h.on
  rw [← h3.ps]; exact h1.tab.len
theorem LiveS.keys (h : LiveS B w0 s g w) {k : Int} (hk : g.V k = true) : 0 ≤ k ∧ k ≤ 2147483647 := by
  obtain ⟨X, h1, -, h3, -⟩ := h.on
  exact h1.mem.keys k (h3.some_ hk)

theorem newL (w : World) : Calls Tryz.prog 22 #[] w fun e w' => ∃ s, e = .returned (.pointer (some ⟨s, 0, none⟩)) ∧ Hid (LiveS w.heap.size w s ⟨fun _ => false, 0, [], 0, 0, 0⟩ w') :=
  (newS w).mono fun _ _ ⟨s, he, hh⟩ => by
    obtain ⟨X, h1, h2, h3, h4, h5, h6, h7, h8, h9, h10⟩ := hh.out
    exact ⟨s, he, h2, h2.size, X, h3, h1, ⟨fun k => by rw [h6]; rfl, h7, h5, h8, h9, by rw [h10]; exact Nat.zero_le _⟩, h4⟩

theorem hasL (k : Int) (h : LiveS B w0 s g w) (hk : okN k) : Calls Tryz.prog 45 #[.pointer (some ⟨s, 0, none⟩), .int .i64 k] w fun e w' => e = .returned (.bool (g.V k)) ∧ w' = w := by
  obtain ⟨X, h1, rfl, h3, -⟩ := h.on
  rw [← h3.V]
  exact hasS k h1 hk
theorem readsL (h : LiveS B w0 s g w) : Calls Tryz.prog 11 #[.pointer (some ⟨s, 0, none⟩)] w fun e w' => e = .returned (.int .i64 g.rd) ∧ w' = w := by
  obtain ⟨X, h1, rfl, h3, -⟩ := h.on
  rw [← h3.rd]
  exact readsS h1
theorem writesL (h : LiveS B w0 s g w) : Calls Tryz.prog 50 #[.pointer (some ⟨s, 0, none⟩)] w fun e w' => e = .returned (.int .i64 g.wr) ∧ w' = w := by
  obtain ⟨X, h1, rfl, h3, -⟩ := h.on
  rw [← h3.wr]
  exact writesS h1
theorem freeL0 (h : LiveS B w0 s g w) (hf : ∀ j, j < 1024 → ∃ a, g.ps[j]? = some (a, true)) : Calls Tryz.prog 43 #[.pointer (some ⟨s, 0, none⟩)] w fun e w' => e = .returned (.int .i64 0) ∧ Hid (LiveS B w0 s g w') := by
  obtain ⟨X, h1, rfl, h3, -⟩ := h.on
  refine (freeS h1).mono ?_
  rintro e w' ⟨r, rfl, hh⟩
  obtain ⟨hr, q, rfl⟩ := unhide hh
  rw [h3.ps] at hr
  rw [free_none hf h.len hr]
  exact ⟨rfl, h.draw q⟩
theorem freeL1 {i : Nat} (h : LiveS B w0 s g w) (hL : Least g.ps i) (hi : i < 1024) : Calls Tryz.prog 43 #[.pointer (some ⟨s, 0, none⟩)] w fun e w' => e = .returned (.int .i64 ((i : Int) + 1)) ∧ Hid (LiveS B w0 s g w') := by
  obtain ⟨X, h1, rfl, h3, -⟩ := h.on
  refine (freeS h1).mono ?_
  rintro e w' ⟨r, rfl, hh⟩
  obtain ⟨hr, q, rfl⟩ := unhide hh
  rw [h3.ps] at hr
  rw [free_of hL hi h.len hr]
  exact ⟨rfl, h.draw q⟩

theorem addVBadL (k : Int) (h : LiveS B w0 s g w) (hk : k < 0 ∨ 2147483647 < k) : Calls Tryz.prog 24 #[.pointer (some ⟨s, 0, none⟩), .int .i64 k] w fun e w' => e = .returned (.int .i64 4) ∧ w' = w := by
  obtain ⟨X, h1, rfl, h3, -⟩ := h.on
  exact addVBad k h1 hk
theorem addVTwiceL (k : Int) (h : LiveS B w0 s g w) (hk : g.V k = true) : Calls Tryz.prog 24 #[.pointer (some ⟨s, 0, none⟩), .int .i64 k] w fun e w' => e = .returned (.int .i64 2) ∧ w' = w := by
  obtain ⟨X, h1, rfl, h3, -⟩ := h.on
  exact addVTwice k h1 (h3.some_ hk)
theorem addVManyL (k : Int) (h : LiveS B w0 s g w) (h0 : 0 ≤ k) (h1 : k ≤ 2147483647) (hk : g.V k = false) (hN : g.N = 256) : Calls Tryz.prog 24 #[.pointer (some ⟨s, 0, none⟩), .int .i64 k] w fun e w' => e = .returned (.int .i64 8) ∧ w' = w := by
  obtain ⟨X, g1, rfl, h3, -⟩ := h.on
  exact addVMany k g1 h0 h1 (h3.none_ hk) (h3.N.trans hN)
theorem addVL (k : Int) (h : LiveS B w0 s g w) (h0 : 0 ≤ k) (h1 : k ≤ 2147483647) (hk : g.V k = false) (hN : g.N < 256) : Calls Tryz.prog 24 #[.pointer (some ⟨s, 0, none⟩), .int .i64 k] w fun e w' => e = .returned (.int .i64 0) ∧ Hid (LiveS B w0 s { g with V := fun j => decide (j = k) || g.V j, N := g.N + 1 } w') := by
  obtain ⟨X, g1, rfl, h3, h4⟩ := h.on
  refine (addVS k g1 h0 h1 (h3.none_ hk) (by rw [h3.N]; exact hN)).mono ?_
  rintro e w' ⟨rfl, hh⟩
  refine ⟨rfl, h.later rfl h4 (unhide hh) ⟨fun j => ?_, by show X.N + 1 = _; rw [h3.N], h3.ps, h3.rd, h3.wr, h3.n⟩⟩
  show (putK X.f k (some w.heap.size) j).isSome = _
  unfold putK
  by_cases e : j = k
  · rw [if_pos e]; simp [e]
  · rw [if_neg e, h3.V]; simp [e]

theorem addENoL (u v n : Int) (h : LiveS B w0 s g w) (hu : okN u) (hv : okN v) (hno : g.V u = false ∨ g.V v = false) : Calls Tryz.prog 56 #[.pointer (some ⟨s, 0, none⟩), .int .i64 u, .int .i64 v, .int .u32 n] w fun e w' => e = .returned (.tuple #[.int .i64 0, .int .i64 5]) ∧ w' = w := by
  obtain ⟨X, g1, rfl, h3, h4⟩ := h.on
  exact addENo u v n g1 hu hv (hno.imp h3.none_ h3.none_)
theorem addEBadL (u v n : Int) (h : LiveS B w0 s g w) (hu : g.V u = true) (hv : g.V v = true) (h0 : 0 ≤ n) (hk : kept n = none) : Calls Tryz.prog 56 #[.pointer (some ⟨s, 0, none⟩), .int .i64 u, .int .i64 v, .int .u32 n] w fun e w' => e = .returned (.tuple #[.int .i64 0, .int .i64 7]) ∧ w' = w := by
  obtain ⟨X, g1, rfl, h3, h4⟩ := h.on
  exact addEBad u v n g1 (h3.some_ hu) (h3.some_ hv) h0 hk
theorem addEManyL {kb : Int} (u v n : Int) (h : LiveS B w0 s g w) (hu : g.V u = true) (hv : g.V v = true) (h0 : 0 ≤ n) (hk : kept n = some kb) (hf : ∀ j, j < 1024 → ∃ a, g.ps[j]? = some (a, true)) : Calls Tryz.prog 56 #[.pointer (some ⟨s, 0, none⟩), .int .i64 u, .int .i64 v, .int .u32 n] w fun e w' => e = .returned (.tuple #[.int .i64 0, .int .i64 8]) ∧ Hid (LiveS B w0 s g w') := by
  obtain ⟨X, g1, rfl, h3, h4⟩ := h.on
  refine (addEMany u v n g1 (h3.some_ hu) (h3.some_ hv) h0 hk (by rw [h3.ps]; exact hf)).mono ?_
  rintro e w' ⟨rfl, hh⟩
  exact ⟨rfl, h.step hh⟩
/-- The store with one edge more. -/
def Gr.ins (g : Gr) (i : Nat) (u v kb : Int) : Gr := { g with ps := (groE g.ps (i + 1)).set i (((i : Int) + 1, u, v, kb), true), wr := g.wr + 1, nb := g.nb + 65536 }
theorem shows_ins {w w' : World} {X X' : Sto} {i : Nat} {u v kb : Int} (h3 : Shows X g) (hI : Insd w X i ((i : Int) + 1, u, v, kb) w' X') : Shows X' (g.ins i u v kb) := by
  obtain ⟨-, r1, r2, r3, r4, r5, r6⟩ := hI
  refine ⟨fun j => by rw [r2]; exact h3.V j, r3.trans h3.N, by rw [r1, h3.ps]; rfl, r4.trans h3.rd, by rw [r5, h3.wr]; rfl, Nat.le_trans r6 (Nat.add_le_add_right h3.n _)⟩
theorem addEL {kb : Int} (i : Nat) (u v n : Int) (h : LiveS B w0 s g w) (hu : g.V u = true) (hv : g.V v = true) (h0 : 0 ≤ n) (hk : kept n = some kb) (hL : Least g.ps i) (hi : i < 1024) (hn : g.nb ≤ 900000000) (hw0 : 0 ≤ g.wr) (hw1 : g.wr ≤ 1000000000) : Calls Tryz.prog 56 #[.pointer (some ⟨s, 0, none⟩), .int .i64 u, .int .i64 v, .int .u32 n] w fun e w' => e = .returned (.tuple #[.int .i64 ((i : Int) + 1), .int .i64 0]) ∧ Hid (LiveS B w0 s (g.ins i u v kb) w') := by
  obtain ⟨X, g1, rfl, h3, h4⟩ := h.on
  refine (addES i u v n g1 (h3.some_ hu) (h3.some_ hv) h0 hk (by rw [h3.ps]; exact hL) hi (Nat.le_trans h3.n hn) (by rw [h3.wr]; exact hw0) (by rw [h3.wr]; exact hw1)).mono ?_
  rintro e w' ⟨rfl, hh⟩
  obtain ⟨X', hI⟩ := unhide hh
  exact ⟨rfl, h.later rfl h4 hI.1 (shows_ins h3 hI)⟩
theorem putERangeL (e u v n : Int) (h : LiveS B w0 s g w) (he : e < 1 ∨ 1024 < e) : Calls Tryz.prog 25 #[.pointer (some ⟨s, 0, none⟩), .agg #[.int .i64 e, .int .i64 u, .int .i64 v, .int .u32 n]] w fun r w' => r = .returned (.int .i64 1) ∧ Hid (LiveS B w0 s g w') := by
  obtain ⟨X, g1, rfl, h3, h4⟩ := h.on
  exact (putERange e u v n g1 he).mono fun _ _ ⟨r, hh⟩ => ⟨r, h.step hh⟩
theorem putENoL (e u v n : Int) (h : LiveS B w0 s g w) (h1 : 1 ≤ e) (h2 : e ≤ 1024) (hu : okN u) (hv : okN v) (hno : g.V u = false ∨ g.V v = false) : Calls Tryz.prog 25 #[.pointer (some ⟨s, 0, none⟩), .agg #[.int .i64 e, .int .i64 u, .int .i64 v, .int .u32 n]] w fun r w' => r = .returned (.int .i64 5) ∧ Hid (LiveS B w0 s g w') := by
  obtain ⟨X, g1, rfl, h3, h4⟩ := h.on
  exact (putENo e u v n g1 h1 h2 hu hv (hno.imp h3.none_ h3.none_)).mono fun _ _ ⟨r, hh⟩ => ⟨r, h.step hh⟩
theorem putEBadL (e u v n : Int) (h : LiveS B w0 s g w) (h1 : 1 ≤ e) (h2 : e ≤ 1024) (hu : g.V u = true) (hv : g.V v = true) (h0 : 0 ≤ n) (hk : kept n = none) : Calls Tryz.prog 25 #[.pointer (some ⟨s, 0, none⟩), .agg #[.int .i64 e, .int .i64 u, .int .i64 v, .int .u32 n]] w fun r w' => r = .returned (.int .i64 7) ∧ Hid (LiveS B w0 s g w') := by
  obtain ⟨X, g1, rfl, h3, h4⟩ := h.on
  exact (putEBad e u v n g1 h1 h2 (h3.some_ hu) (h3.some_ hv) h0 hk).mono fun _ _ ⟨r, hh⟩ => ⟨r, h.step hh⟩
theorem putETwiceL {kb : Int} {a : EdgeV} (i : Nat) (u v n : Int) (h : LiveS B w0 s g w) (hi : g.ps[i]? = some (a, true)) (hu : g.V u = true) (hv : g.V v = true) (h0 : 0 ≤ n) (hk : kept n = some kb) : Calls Tryz.prog 25 #[.pointer (some ⟨s, 0, none⟩), .agg #[.int .i64 ((i : Int) + 1), .int .i64 u, .int .i64 v, .int .u32 n]] w fun r w' => r = .returned (.int .i64 2) ∧ Hid (LiveS B w0 s g w') := by
  obtain ⟨X, g1, rfl, h3, h4⟩ := h.on
  exact (putETwice i u v n g1 (by rw [h3.ps]; exact hi) (h3.some_ hu) (h3.some_ hv) h0 hk).mono fun _ _ ⟨r, hh⟩ => ⟨r, h.step hh⟩
theorem putEL {kb : Int} (i : Nat) (u v n : Int) (h : LiveS B w0 s g w) (hi : i < 1024) (hfree : ∀ a, g.ps[i]? ≠ some (a, true)) (hu : g.V u = true) (hv : g.V v = true) (h0 : 0 ≤ n) (hk : kept n = some kb) (hn : g.nb ≤ 900000000) (hw0 : 0 ≤ g.wr) (hw1 : g.wr ≤ 1000000000) : Calls Tryz.prog 25 #[.pointer (some ⟨s, 0, none⟩), .agg #[.int .i64 ((i : Int) + 1), .int .i64 u, .int .i64 v, .int .u32 n]] w fun r w' => r = .returned (.int .i64 0) ∧ Hid (LiveS B w0 s (g.ins i u v kb) w') := by
  obtain ⟨X, g1, rfl, h3, h4⟩ := h.on
  refine (putES i u v n g1 hi (by rw [h3.ps]; exact hfree) (h3.some_ hu) (h3.some_ hv) h0 hk (Nat.le_trans h3.n hn) (by rw [h3.wr]; exact hw0) (by rw [h3.wr]; exact hw1)).mono ?_
  rintro e w' ⟨rfl, hh⟩
  obtain ⟨X', hI⟩ := unhide hh
  exact ⟨rfl, h.later rfl h4 hI.1 (shows_ins h3 hI)⟩
/-- The store with one edge less. -/
def Gr.cut (g : Gr) (i : Nat) : Gr := { g with ps := g.ps.set i (((0, 0, 0, 0) : EdgeV), false), wr := g.wr + 1, nb := g.nb + 65536 }
theorem dropENoL (e : Int) (h : LiveS B w0 s g w) (hno : ∀ (i : Nat) a, e = (i : Int) + 1 → g.ps[i]? ≠ some (a, true)) : Calls Tryz.prog 19 #[.pointer (some ⟨s, 0, none⟩), .int .i64 e] w fun r w' => r = .returned (.tuple #[.agg #[.int .i64 0, .int .i64 0, .int .i64 0, .int .u32 0], .int .i64 6]) ∧ Hid (LiveS B w0 s g w') := by
  obtain ⟨X, g1, rfl, h3, h4⟩ := h.on
  exact (dropENo e g1 (by rw [h3.ps]; exact hno)).mono fun _ _ ⟨r, hh⟩ => ⟨r, h.step hh⟩
theorem dropEL {a : EdgeV} (i : Nat) (h : LiveS B w0 s g w) (hi : g.ps[i]? = some (a, true)) (hn : g.nb ≤ 900000000) (hw0 : 0 ≤ g.wr) (hw1 : g.wr ≤ 1000000000) : Calls Tryz.prog 19 #[.pointer (some ⟨s, 0, none⟩), .int .i64 ((i : Int) + 1)] w fun r w' => r = .returned (.tuple #[.agg #[.int .i64 a.1, .int .i64 a.2.1, .int .i64 a.2.2.1, .int .u32 a.2.2.2], .int .i64 0]) ∧ Hid (LiveS B w0 s (g.cut i) w') := by
  obtain ⟨X, g1, rfl, h3, h4⟩ := h.on
  refine (dropES i g1 (by rw [h3.ps]; exact hi) (Nat.le_trans h3.n hn) (by rw [h3.wr]; exact hw0) (by rw [h3.wr]; exact hw1)).mono ?_
  rintro e w' ⟨rfl, hh⟩
  obtain ⟨X', hS, r1, r2, r3, r4, r5, r6⟩ := unhide hh
  exact ⟨rfl, h.later rfl h4 hS ⟨fun j => by rw [r2]; exact h3.V j, r3.trans h3.N, by rw [r1, h3.ps]; rfl, r4.trans h3.rd, by rw [r5, h3.wr]; rfl, Nat.le_trans r6 (Nat.add_le_add_right h3.n _)⟩⟩
theorem edgeNoL (e : Int) (h : LiveS B w0 s g w) (hno : ∀ (i : Nat) a, e = (i : Int) + 1 → g.ps[i]? ≠ some (a, true)) : Calls Tryz.prog 62 #[.pointer (some ⟨s, 0, none⟩), .int .i64 e] w fun r w' => r = .returned (.tuple #[.agg #[.int .i64 0, .int .i64 0, .int .i64 0, .int .u32 0], .int .i64 6]) ∧ Hid (LiveS B w0 s g w') := by
  obtain ⟨X, g1, rfl, h3, h4⟩ := h.on
  exact (edgeNo e g1 (by rw [h3.ps]; exact hno)).mono fun _ _ ⟨r, hh⟩ => ⟨r, h.step hh⟩
theorem edgeL {a : EdgeV} (i : Nat) (h : LiveS B w0 s g w) (hi : g.ps[i]? = some (a, true)) (hr0 : 0 ≤ g.rd) (hr1 : g.rd ≤ 1000000000) : Calls Tryz.prog 62 #[.pointer (some ⟨s, 0, none⟩), .int .i64 ((i : Int) + 1)] w fun r w' => r = .returned (.tuple #[.agg #[.int .i64 a.1, .int .i64 a.2.1, .int .i64 a.2.2.1, .int .u32 a.2.2.2], .int .i64 0]) ∧ Hid (LiveS B w0 s { g with rd := g.rd + 1 } w') := by
  obtain ⟨X, g1, rfl, h3, h4⟩ := h.on
  refine (edgeS i g1 (by rw [h3.ps]; exact hi) (by rw [h3.rd]; exact hr0) (by rw [h3.rd]; exact hr1)).mono ?_
  rintro e w' ⟨rfl, hh⟩
  exact ⟨rfl, h.later rfl h4 (unhide hh) ⟨h3.V, h3.N, h3.ps, by show X.rd + 1 = _; rw [h3.rd], h3.wr, h3.n⟩⟩
/-- The store without a vertex. -/
def Gr.lose (g : Gr) (k : Int) : Gr := { g with V := fun j => !decide (j = k) && g.V j, N := g.N - 1, ps := clr g.ps (boths g.ps k), wr := g.wr + (boths g.ps k).length, nb := g.nb + 65536 * (boths g.ps k).length }
theorem dropVNoL (k : Int) (h : LiveS B w0 s g w) (hk : okN k) (hf : g.V k = false) : Calls Tryz.prog 53 #[.pointer (some ⟨s, 0, none⟩), .int .i64 k] w fun r w' => r = .returned (.tuple #[.slice none 0 0, .int .i64 5]) ∧ w' = w := by
  obtain ⟨X, g1, rfl, h3, h4⟩ := h.on
  exact dropVNo k g1 hk (h3.none_ hf)
theorem dropVL (k : Int) (h : LiveS B w0 s g w) (hk : g.V k = true) (hn : g.nb ≤ 800000000) (hw0 : 0 ≤ g.wr) (hw1 : g.wr ≤ 900000000) : Calls Tryz.prog 53 #[.pointer (some ⟨s, 0, none⟩), .int .i64 k] w fun r w' => ∃ v', r = .returned (.tuple #[v', .int .i64 0]) ∧ Hid (LiveS B w0 s (g.lose k) w' ∧ GRow w.heap.size w' v' ((boths g.ps k).map (recOf g.ps)) ∧ 0 < g.N) := by
  obtain ⟨X, g1, rfl, h3, h4⟩ := h.on
  obtain ⟨q, hq⟩ : ∃ q, X.f k = some q := by cases e : X.f k with | none => exact absurd e (h3.some_ hk) | some q => exact ⟨q, rfl⟩
  refine (dropVS k g1 hq (Nat.le_trans h3.n hn) (by rw [h3.wr]; exact hw0) (by rw [h3.wr]; exact hw1)).mono ?_
  rintro e w' ⟨v', rfl, hh⟩
  obtain ⟨X', ⟨hS, r1, r2, r3, r4, r5, r6⟩, hG, -⟩ := unhide hh
  rw [h3.ps] at hG r1 r5 r6
  have hN := h3.N
  refine ⟨v', rfl, h.later rfl h4 hS ⟨fun j => ?_, ?_, r1, r4.trans h3.rd, by rw [r5, h3.wr]; rfl, Nat.le_trans r6 (Nat.add_le_add_right h3.n _)⟩, hG, by omega⟩
  · rw [r2]
    show (putK X.f k none j).isSome = _
    unfold putK
    by_cases e : j = k
    · rw [if_pos e]; simp [e, Gr.lose]
    · rw [if_neg e, h3.V]; simp [e, Gr.lose]
  · show X'.N = g.N - 1
    omega
end
end

section
open Go.RowKit Go.Maps
/-- The four cells of the thing at the place i, written. -/
def setT (w : World) (g i : Nat) (x : EdgeV) : World := (((w.setCell ⟨g, i * 5, none⟩ (.int .i64 x.1)).setCell ⟨g, i * 5 + 1, none⟩ (.int .i64 x.2.1)).setCell ⟨g, i * 5 + 2, none⟩ (.int .i64 x.2.2.1)).setCell ⟨g, i * 5 + 3, none⟩ (.int .u32 x.2.2.2)
theorem set_same {α : Type} {l : List α} {j : Nat} {v : α} (h : l[j]? = some v) : l.set j v = l := by
  refine List.ext_getElem? (fun k => ?_)
  rw [List.getElem?_set]
  by_cases e : j = k
  · subst e
    rw [if_pos rfl, if_pos (List.getElem?_eq_some_iff.1 h).1, h]
  · simp [e]
theorem encE_set4 {ps : List (EdgeV × Bool)} {i : Nat} {a : EdgeV} (x : EdgeV) (hi : ps[i]? = some (a, true)) : encE (ps.set i (x, true)) = ((((encE ps).set (i * 5) (.int .i64 x.1)).set (i * 5 + 1) (.int .i64 x.2.1)).set (i * 5 + 2) (.int .i64 x.2.2.1)).set (i * 5 + 3) (.int .u32 x.2.2.2) := by
  rw [encE_set]
  unfold putE
  refine set_same ?_
  rw [List.getElem?_set_ne (by omega), List.getElem?_set_ne (by omega), List.getElem?_set_ne (by omega), List.getElem?_set_ne (by omega)]
  exact (encE_at ps i a true hi).2.2.2.2

section
variable [Inhabited EntI] {w w' : World} {t hp : Nat} {v : Value} {most : Int} {ps : List (EdgeV × Bool)} {ms ms' : List EntI} {n n' : Nat} {G G' : Nat → Prop}

theorem TRawE.storeT {g L c : Nat} {a : EdgeV} (h : TRawE w t hp (.slice (some ⟨g, 0, none⟩) L c) most ps ms n G) (i : Nat) (x : EdgeV) (hi : ps[i]? = some (a, true)) :
    TRawE (setT w g i x) t hp (.slice (some ⟨g, 0, none⟩) L c) most (ps.set i (x, true)) ms n G ∧ Turned (Feet t (.slice (some ⟨g, 0, none⟩) L c) G) w (setT w g i x) := by
  have hgt : t ≠ g := fun e => h.nv (by simp [Value.ownBlock, e])
  have hgG := h.ng g rfl
  have hL : L = ps.length := by
    rcases h.row.2 with ⟨e, -⟩ | ⟨g', cap, cur, e, -⟩
    · cases e
    · cases e; rfl
  subst hL
  have oth : ∀ k, k ≠ g → (setT w g i x).heap[k]? = w.heap[k]? := fun k hk => by
    unfold setT
    rw [heap_setCell_other _ _ _ _ hk, heap_setCell_other _ _ _ _ hk, heap_setCell_other _ _ _ _ hk, heap_setCell_other _ _ _ _ hk]
  refine ⟨⟨(oth t hgt).trans h.box, ?_, h.on.kept (fun k hk => oth k (fun e => hgG (by rw [← e]; exact hk))), h.nt, h.nv, h.ng, by simpa using h.len, h.top⟩, ?_⟩
  · rw [encE_set4 x hi, List.length_set]
    exact ((((h.row.stored _ _).1.stored _ _).1.stored _ _).1.stored _ _).1
  · exact (((turned_setCell _ _ _ (.inr (.inl rfl))).trans (turned_setCell _ _ _ (.inr (.inl rfl)))).trans (turned_setCell _ _ _ (.inr (.inl rfl)))).trans (turned_setCell _ _ _ (.inr (.inl rfl)))

set_option maxHeartbeats 1000000 in
set_option maxRecDepth 100000 in
theorem setYesE {a : EdgeV} (i : Nat) (x : EdgeV) (h : TAtE w t hp v most ps ms n G) (hi : ps[i]? = some (a, true)) :
    Calls Tryz.prog 85 #[.pointer (some ⟨t, 0, none⟩), .int .i64 ((i : Int) + 1), .agg #[.int .i64 x.1, .int .i64 x.2.1, .int .i64 x.2.2.1, .int .u32 x.2.2.2]] w fun e w' => e = .returned (.bool true) ∧ Hid (ThenE w w' t hp v most (ps.set i (x, true)) n G) := by
  have hb0 : Below w.heap.size w (w.alloc (oE x)) := (Below.refl _ _).alloc (Nat.le_refl _) _
  have H0 : TAtE (w.alloc (oE x)) t hp v most ps ms n G := h.kept (fun j hj => hb0.block j (h.lt hj))
  have CT := hide (takenAtE i (w.alloc (oE x)) H0 hi)
  obtain ⟨-, c1, -, -⟩ := H0.cells
  have hil := lt_of_at hi
  obtain ⟨g, c, rfl, -, df, hc⟩ := H0.some_ (by omega)
  obtain ⟨⟨d0, d1, d2, d3⟩, -⟩ := hc i a true hi
  have hl := h.len
  have ht := h.top
  obtain ⟨x0, x1, x2, x3, -⟩ := box_cells (heap_alloc_new w (oE x))
  have hgw : g < w.heap.size := (h.row.lt g rfl).2
  have hn1 : ¬ g = w.heap.size := by omega
  have hn2 : ¬ w.heap.size = g := by omega
  have HF : Hid (∀ q, ThenE w (setT ((w.alloc (oE x)).drewN q) g i x) t hp (.slice (some ⟨g, 0, none⟩) ps.length c) most (ps.set i (x, true)) n G) := fun q => by
    have H1 : TAtE ((w.alloc (oE x)).drewN q) t hp (.slice (some ⟨g, 0, none⟩) ps.length c) most ps ms n G := h.kept (fun j hj => (below_drewN hb0 q).block j (h.lt hj))
    obtain ⟨r1, T1⟩ := H1.raw.storeT i x hi
    refine ThenE.boxed h (oE x) ?_
    have bq := below_drewN (Below.refl (w.alloc (oE x)).heap.size (w.alloc (oE x))) q
    exact ⟨_, _, _, _, by omega, r1.full (frees_set h.fr hi x), Turned.then_ (S := Feet t (.slice (some ⟨g, 0, none⟩) ps.length c) G) ⟨bq.os, bq.tape, bq.output, bq.size, fun _ _ _ => rfl⟩ T1 (fun _ _ h => h), fun j hj => .inl hj⟩
  generalize ps.length = L at *
  have h3 : (i : Int) < (L : Int) := by omega
  have hw1 : IntKind.i64.wrap ((i : Int) + 1 - 1) = (i : Int) := by rw [IntKind.wrap_i64]; omega
  have h4 : (L : Int) ≤ 65536 := by omega
  clear h hc hi hl ht hil H0 hb0 hgw
  go_enter Tryz.func85, Tryz.ntmps85
  go_upto_region 1 with fail
  change Code.wp _ _ _ _ (w.alloc (oE x))
  generalize w.alloc (oE x) = wb at *
  generalize w.heap.size = bb at *
  go_wp2_with fail
  refine (unhide CT).mono ?_
  rintro e w2 ⟨rfl, rfl⟩
  clear CT
  go_upto_region 3 with fail
  have h0 : (0 : Int) ≤ (i : Int) := by omega
  clear hw1
  go_region
  all_goals
    go_wp2_with fail
    go_ret
    exact ⟨rfl, unhide HF 1⟩
end

theorem nums_set {p : EdgeV → Bool} : ∀ {ps : List (EdgeV × Bool)} {i : Nat} {a x : EdgeV}, ps[i]? = some (a, true) → p x = p a → numsOf p (ps.set i (x, true)) = numsOf p ps := by
  intro ps i a x hi hp
  refine rising_ext linN (rising_numsOf _ _) (rising_numsOf _ _) (fun k => ?_)
  rw [mem_numsOf, mem_numsOf]
  have hl := (List.getElem?_eq_some_iff.1 hi).1
  constructor
  · rintro ⟨j, y, hj, hy, e⟩
    rw [List.getElem?_set] at hj
    by_cases hij : i = j
    · subst hij
      simp [hl] at hj
      exact ⟨i, a, hi, by rw [← hp, hj]; exact hy, e⟩
    · simp [hij] at hj; exact ⟨j, y, hj, hy, e⟩
  · rintro ⟨j, y, hj, hy, e⟩
    by_cases hij : i = j
    · subst hij
      rw [hi] at hj; cases hj
      exact ⟨i, x, by rw [List.getElem?_set]; simp [hl], by rw [hp]; exact hy, e⟩
    · exact ⟨j, y, by rw [List.getElem?_set]; simp [hij]; exact hj, hy, e⟩

section
variable [Inhabited EntI] {w w' : World} {X X' : Sto}

/-- Another weight. -/
def Rewd (w : World) (X : Sto) (i : Nat) (x : EdgeV) (w' : World) (X' : Sto) : Prop :=
  Step w X w' X' ∧ X'.ps = X.ps.set i (x, true) ∧ X'.f = X.f ∧ X'.N = X.N ∧ X'.rd = X.rd ∧ X'.wr = X.wr + 1 ∧ X'.n ≤ X.n + 65536
theorem rew_end {w2 : World} {a : EdgeV} {i : Nat} {b : Int} (h : StAt w X) (hi : X.ps[i]? = some (a, true)) (hb : Below w.heap.size w w2) {w3 : World} (ht : ThenE w2 w3 X.t X.hp X.v 1024 (X.ps.set i ((a.1, a.2.1, a.2.2.1, b), true)) X.n X.G) :
    (w3.cell? ⟨X.s, 3, none⟩ = some (.int .i64 X.wr) ∧ ∀ o, w3.frozen? ⟨X.s, o, none⟩ = false) ∧ ∃ X', Rewd w X i (a.1, a.2.1, a.2.2.1, b) (w3.setCell ⟨X.s, 3, none⟩ (.int .i64 (X.wr + 1))) X' := by
  obtain ⟨v', ms', n', G', L', hn, hM, hF⟩ := (h.mem.below hb).tabTurn ht
  obtain ⟨-, -, -, c3, cf⟩ := hM.cells
  refine ⟨⟨c3, cf⟩, ?_⟩
  obtain ⟨z1, z2⟩ := hM.wrTurn (X.wr + 1)
  refine ⟨{ X with v := v', ms := ms', n := n', G := G', ps := X.ps.set i ((a.1, a.2.1, a.2.2.1, b), true), L := L', wr := X.wr + 1 }, ⟨⟨?_, fun j x hj => ?_, h.size⟩, rfl, (Foots.below X.L hb).trans (hF.trans z2)⟩, rfl, rfl, rfl, rfl, rfl, hn⟩
  · have e1 : outs (X.ps.set i ((a.1, a.2.1, a.2.2.1, b), true)) = outs X.ps := funext fun k => nums_set hi rfl
    have e2 : inns (X.ps.set i ((a.1, a.2.1, a.2.2.1, b), true)) = inns X.ps := funext fun k => nums_set hi rfl
    show StMid _ _ (outs (X.ps.set i ((a.1, a.2.1, a.2.2.1, b), true))) (inns (X.ps.set i ((a.1, a.2.1, a.2.2.1, b), true)))
    rw [e1, e2]; exact z1
  · have hl := (List.getElem?_eq_some_iff.1 hi).1
    have hj' : (X.ps.set i ((a.1, a.2.1, a.2.2.1, b), true))[j]? = some (x, true) := hj
    rw [List.getElem?_set] at hj'
    by_cases hij : i = j
    · subst hij
      simp [hl] at hj'
      subst hj'
      exact h.edge i a hi
    · simp [hij] at hj'; exact h.edge j x hj'

set_option maxHeartbeats 1000000 in
set_option maxRecDepth 100000 in
theorem rewNo (e n : Int) (h : StAt w X) (hno : ∀ (i : Nat) a, e = (i : Int) + 1 → X.ps[i]? ≠ some (a, true)) :
    Calls Tryz.prog 60 #[.pointer (some ⟨X.s, 0, none⟩), .int .i64 e, .int .u32 n] w fun r w' => r = .returned (.tuple #[.int .u32 0, .int .i64 6]) ∧ Hid (Below w.heap.size w w') := by
  obtain ⟨c0, -, -, -, -⟩ := h.cells
  have CT := hide (atNoE e w h.tab hno)
  generalize X.s = s at *
  generalize X.t = t at *
  clear h hno
  go_enter Tryz.func60, Tryz.ntmps60
  go_wp2_with fail
  refine (unhide CT).mono ?_
  rintro r w2 ⟨rfl, hb2⟩
  have HB : Hid (Below w.heap.size w (w2.alloc o34)) := hb2.trans ((Below.refl _ _).alloc hb2.size _)
  clear CT hb2
  go_upto_region 2 with fail
  change Code.wp _ _ _ _ (w2.alloc o34)
  generalize w2.alloc o34 = w3 at *
  go_wp2_with fail
  go_ret2
  exact ⟨rfl, unhide HB⟩

set_option maxHeartbeats 1000000 in
set_option maxRecDepth 100000 in
theorem rewBad {a : EdgeV} (i : Nat) (n : Int) (h : StAt w X) (hi : X.ps[i]? = some (a, true)) (h0 : 0 ≤ n) (hk : kept n = none) :
    Calls Tryz.prog 60 #[.pointer (some ⟨X.s, 0, none⟩), .int .i64 ((i : Int) + 1), .int .u32 n] w fun r w' => r = .returned (.tuple #[.int .u32 0, .int .i64 7]) ∧ Hid (Below w.heap.size w w') := by
  obtain ⟨c0, -, -, -, -⟩ := h.cells
  have CT := hide (atYesE i w h.tab hi)
  have CA : Hid (∀ W, Calls Tryz.prog 84 #[.int .u32 n] W fun e w' => e = .returned (ansK (kept n)) ∧ w' = W) := fun W => keptS n h0 W
  rw [hk] at CA
  simp only [ansK] at CA
  generalize X.s = s at *
  generalize X.t = t at *
  clear h hi h0 hk
  go_enter Tryz.func60, Tryz.ntmps60
  go_wp2_with fail
  refine (unhide CT).mono ?_
  rintro r w2 ⟨rfl, hb2⟩
  have HB : Hid (Below w.heap.size w (w2.alloc (oE a))) := hb2.trans ((Below.refl _ _).alloc hb2.size _)
  clear CT hb2 c0
  go_upto_region 2 with fail
  change Code.wp _ _ _ _ (w2.alloc (oE a))
  generalize w2.alloc (oE a) = w3 at *
  go_wp2_with fail
  refine (unhide CA _).mono ?_
  rintro r w4 ⟨rfl, rfl⟩
  go_wp2_with fail
  go_ret2
  exact ⟨rfl, unhide HB⟩

set_option maxHeartbeats 2000000 in
set_option maxRecDepth 100000 in
theorem rewS {a : EdgeV} (i : Nat) (n : Int) {b : Int} (h : StAt w X) (hi : X.ps[i]? = some (a, true)) (h0 : 0 ≤ n) (hk : kept n = some b) (hw0 : 0 ≤ X.wr) (hw1 : X.wr ≤ 1000000000) :
    Calls Tryz.prog 60 #[.pointer (some ⟨X.s, 0, none⟩), .int .i64 ((i : Int) + 1), .int .u32 n] w fun r w' => r = .returned (.tuple #[.int .u32 a.2.2.2, .int .i64 0]) ∧ Hid (∃ X', Rewd w X i (a.1, a.2.1, a.2.2.1, b) w' X') := by
  obtain ⟨c0, -, -, -, -⟩ := h.cells
  have CT := hide (atYesE i w h.tab hi)
  have CA : Hid (∀ W, Calls Tryz.prog 84 #[.int .u32 n] W fun e w' => e = .returned (ansK (kept n)) ∧ w' = W) := fun W => keptS n h0 W
  rw [hk] at CA
  simp only [ansK] at CA
  have hsl := h.mem.lt X.s (by rw [h.mem.lbox]; simp)
  have HS : Hid (∀ w2, Below w.heap.size w w2 → ((w2.alloc (oE a)).setCell ⟨w2.heap.size, 3, none⟩ (.int .u32 b)).cell? ⟨X.s, 0, none⟩ = some (.pointer (some ⟨X.t, 0, none⟩)) ∧ ((w2.alloc (oE a)).setCell ⟨w2.heap.size, 3, none⟩ (.int .u32 b)).heap[w2.heap.size]? = some (oE (a.1, a.2.1, a.2.2.1, b)) ∧ ∀ q, Calls Tryz.prog 85 #[.pointer (some ⟨X.t, 0, none⟩), .int .i64 ((i : Int) + 1), .agg #[.int .i64 a.1, .int .i64 a.2.1, .int .i64 a.2.2.1, .int .u32 b]] (((w2.alloc (oE a)).setCell ⟨w2.heap.size, 3, none⟩ (.int .u32 b)).drewN q) fun e w3 => e = .returned (.bool true) ∧ Hid ((w3.cell? ⟨X.s, 3, none⟩ = some (.int .i64 X.wr) ∧ ∀ o, w3.frozen? ⟨X.s, o, none⟩ = false) ∧ ∃ X', Rewd w X i (a.1, a.2.1, a.2.2.1, b) (w3.setCell ⟨X.s, 3, none⟩ (.int .i64 (X.wr + 1))) X')) := fun w2 hb2 => by
    have hs2 := hb2.size
    have hB : Below w.heap.size w ((w2.alloc (oE a)).setCell ⟨w2.heap.size, 3, none⟩ (.int .u32 b)) := (hb2.trans ((Below.refl _ _).alloc (by omega) _)).setCell (p := ⟨w2.heap.size, 3, none⟩) hs2 _
    refine ⟨(h.below hB).cells.1, ?_, fun q => ?_⟩
    · rw [heap_setCell_same _ _ _ _ _ _ (heap_alloc_new w2 (oE a))]; rfl
    · have hB' := below_drewN hB q
      refine (setYesE i ((a.1, a.2.1, a.2.2.1, b) : EdgeV) (h.mem.below hB').tab hi).mono ?_
      rintro e w3 ⟨rfl, hh⟩
      exact ⟨rfl, rew_end h hi hB' (unhide hh)⟩
  have hwr : IntKind.i64.wrap (X.wr + 1) = X.wr + 1 := by rw [IntKind.wrap_i64]; omega
  generalize X.s = s at *
  generalize X.t = t at *
  generalize X.wr = wr_0 at *
  clear h hi h0 hk hw0 hw1 hsl
  go_enter Tryz.func60, Tryz.ntmps60
  go_wp2_with fail
  refine (unhide CT).mono ?_
  rintro r w2 ⟨rfl, hb2⟩
  obtain ⟨j1, j2, j3⟩ := unhide HS w2 hb2
  have HJ := hide (And.intro j1 (And.intro j2 j3))
  obtain ⟨x0, x1, x2, x3, xf⟩ := box_cells (heap_alloc_new w2 (oE a))
  clear CT hb2 c0 HS j1 j2 j3
  go_upto_region 2 with fail
  change Code.wp _ _ _ _ (w2.alloc (oE a))
  generalize w2.alloc (oE a) = w3 at *
  generalize w2.heap.size = b2 at *
  go_wp2_with fail
  refine (unhide CA _).mono ?_
  rintro r w4 ⟨rfl, rfl⟩
  clear CA
  go_upto_region 9 with fail
  obtain ⟨j1, j2, j3⟩ := unhide HJ
  have HJ3 := hide j3
  clear HJ x0 x1 x2 x3 xf j3
  generalize w4.setCell ⟨b2, 3, none⟩ (.int .u32 b) = w5 at *
  obtain ⟨x0, x1, x2, x3, -⟩ := box_cells j2
  clear j2
  simp only at x0 x1 x2 x3
  go_region_with (refine (unhide HJ3 _).mono ?_; rintro r w6 ⟨rfl, h6⟩)
  all_goals
    obtain ⟨⟨k1, k2⟩, hX⟩ := unhide h6
    have HX := hide hX
    clear h6 hX x0 x1 x2 x3 j1 HJ3
    go_wp2_with fail
    go_ret2
    exact ⟨rfl, unhide HX⟩
end
end

end Go.Proofs.YtgocbcacfcfblaaGreat
