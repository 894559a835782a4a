/- DropVertex. -/
import Derived.Test.YtagibmgbjhemkaaGreatStBoth
import Derived.Lib.AppendZeros
namespace Go.Proofs.YtagibmgbjhemkaaGreat
open Go.RowKit Go.Maps

/-- The places of these numbers are free. -/
def clr (ps : List (EdgeV × Bool)) (es : List Int) : List (EdgeV × Bool) := es.foldl (fun p e => p.set (e - 1).toNat (((0, 0, 0, 0) : EdgeV), false)) ps
theorem clr_snoc (ps : List (EdgeV × Bool)) (es : List Int) (i : Nat) : clr ps (es ++ [(i : Int) + 1]) = (clr ps es).set i (((0, 0, 0, 0) : EdgeV), false) := by
  unfold clr
  rw [List.foldl_append]
  simp
theorem at_clr : ∀ (es : List Int) (ps : List (EdgeV × Bool)) (j : Nat) (y : EdgeV), (∀ e ∈ es, 1 ≤ e) → ((clr ps es)[j]? = some (y, true) ↔ ((j : Int) + 1 ∉ es) ∧ ps[j]? = some (y, true))
  | [], ps, j, y, _ => by simp [clr]
  | e :: es, ps, j, y, h => by
    have ih := at_clr es (ps.set (e - 1).toNat (((0, 0, 0, 0) : EdgeV), false)) j y (fun x hx => h x (List.mem_cons_of_mem _ hx))
    have he := h e (List.mem_cons_self ..)
    show (clr (ps.set (e - 1).toNat (((0, 0, 0, 0) : EdgeV), false)) es)[j]? = _ ↔ _
    rw [ih, at_cut, List.mem_cons]
    constructor
    · rintro ⟨h1, h2, h3⟩
      refine ⟨fun e2 => ?_, h3⟩
      rcases e2 with e2 | e2
      · exact h2 (by omega)
      · exact h1 e2
    · rintro ⟨h1, h2⟩
      exact ⟨fun e2 => h1 (.inr e2), fun e2 => h1 (.inl (by omega)), h2⟩
/-- The record of a number. -/
def recOf (ps : List (EdgeV × Bool)) (e : Int) : EdgeV := ((ps[(e - 1).toNat]?).map (·.1)).getD ((0, 0, 0, 0) : EdgeV)
theorem recOf_at {ps : List (EdgeV × Bool)} {i : Nat} {a : EdgeV} {b : Bool} (h : ps[i]? = some (a, b)) : recOf ps ((i : Int) + 1) = a := by
  unfold recOf
  rw [show ((i : Int) + 1 - 1).toNat = i by omega, h]; rfl
def encG (gs : List EdgeV) : List Value := gs.flatMap fun a => [.int .i64 a.1, .int .i64 a.2.1, .int .i64 a.2.2.1, .int .u32 a.2.2.2]
theorem encG_snoc (gs : List EdgeV) (a : EdgeV) : encG (gs ++ [a]) = encG gs ++ [.int .i64 a.1, .int .i64 a.2.1, .int .i64 a.2.2.1, .int .u32 a.2.2.2] := by simp [encG]
theorem mapFn_pos {w : World} {m N : Nat} {f : Int → Option Nat} {k : Int} {q : Nat} (h : MapFn 3 klN okN w m f N) (hk : okN k) (hq : f k = some q) : ∃ N', N = N' + 1 := by
  obtain ⟨D, h1, h2, h3, h4⟩ := h
  have := size_del (k := klN k) h2
  rw [(h4 k hk).2, hq, h3] at this
  simp at this
  exact ⟨_, this.symm⟩

theorem info64 : (Tryz.prog.info? 64).map (fun i => (i.zero, i.size, i.bytes)) = some (some (.agg #[.int .i64 0, .int .i64 0, .int .i64 0, .int .u32 0]), 4, 32) := by kernel_rfl

theorem gcells_new (w : World) (a : EdgeV) : ∀ j u, [Value.int .i64 a.1, .int .i64 a.2.1, .int .i64 a.2.2.1, .int .u32 a.2.2.2][j]? = some u → (w.alloc (oE a)).cell? ((⟨w.heap.size, 0, none⟩ : Addr).add j) = some u := by
  intro j u hj
  have add : (⟨w.heap.size, 0, none⟩ : Addr).add j = ⟨w.heap.size, j, none⟩ := by unfold Addr.add; split <;> simp_all
  rw [add]
  have h1 : j < 4 := by
    have := (List.getElem?_eq_some_iff.1 hj).1
    simpa using this
  rw [cell_of_row _ _ _ _ _ _ (heap_alloc_new w (oE a))]
  match j, h1 with
  | 0, _ => simpa using hj
  | 1, _ => simpa using hj
  | 2, _ => simpa using hj
  | 3, _ => simpa using hj

/-- A list of records, from B on. -/
abbrev GRow (B : Nat) (w : World) (v : Value) (gs : List EdgeV) : Prop := w.ownsRow B 64 4 v gs.length (encG gs)
theorem grow_kept {B : Nat} {w w' : World} {v : Value} {gs : List EdgeV} (h : GRow B w v gs) (hk : ∀ b, v.ownBlock = some b → w'.heap[b]? = w.heap[b]?) : GRow B w' v gs := by
  refine ⟨h.1, ?_⟩
  rcases h.2 with hn | ⟨g, cap, cur, e, hb, hgg, rest⟩
  · exact .inl hn
  · exact .inr ⟨g, cap, cur, e, hb, (hk g (by rw [e]; rfl)).trans hgg, rest⟩
theorem grow_shape {B : Nat} {w : World} {v : Value} {gs : List EdgeV} (h : GRow B w v gs) : ∃ a n c, v = .slice a n c := by
  rcases h.2 with ⟨e, h0⟩ | ⟨g', cap, cur, e, -⟩
  · exact ⟨_, _, _, e⟩
  · exact ⟨_, _, _, e⟩

/-- One record more. -/
theorem run_appG {B : Nat} {w : World} {v : Value} {gs : List EdgeV} (a : EdgeV) (h : GRow B w v gs) (hB : B ≤ w.heap.size) (hl : gs.length ≤ 100000) :
    ∃ a' n' c' w', (∀ ty, (Builtin.append_ #[26, 26] ty #[v, .slice (some ⟨w.heap.size, 0, none⟩) 1 1]).run Tryz.prog (w.alloc (oE a)) = .ok (.slice a' n' c') w') ∧ GRow B w' (.slice a' n' c') (gs ++ [a]) ∧ (w.alloc (oE a)).grownBy w' v.ownBlock ∧ ∀ b, (Value.slice a' n' c').ownBlock = some b → v.ownBlock = some b ∨ w.heap.size < b := by
  obtain ⟨i, hi, hz, hs, hb⟩ := info_parts info64
  have hsz : (w.alloc (oE a)).heap.size = w.heap.size + 1 := by simp
  have h1 : GRow B (w.alloc (oE a)) v gs := grow_kept h (fun b hb => heap_alloc_old w _ (h.lt b hb).2)
  obtain ⟨v', w', hr, g1, g2, -, g3⟩ := run_append_own_at (P := Tryz.prog) (w.alloc (oE a)) B 26 0 64 i _ 4 32 Tryz.underlying26 hi hz hs hb rfl (by omega) v gs.length (encG gs) h1 ⟨w.heap.size, 0, none⟩ 1 1 [.int .i64 a.1, .int .i64 a.2.1, .int .i64 a.2.2.1, .int .u32 a.2.2.2] rfl
    (gcells_new w a) (by intro u hu; simp at hu; rcases hu with rfl | rfl | rfl | rfl <;> rfl) (by unfold maxLen; omega) (by omega) (by omega)
  rw [← encG_snoc, show gs.length + 1 = (gs ++ [a]).length by simp] at g1
  obtain ⟨a', n', c', rfl⟩ := grow_shape g1
  refine ⟨a', n', c', w', fun ty => hr, g1, g2, fun b hb => ?_⟩
  rcases g3 with e | e
  · exact .inl (e ▸ hb)
  · rw [hb, hsz] at e; exact .inr (by have := Option.some.inj e; omega)

theorem boths_ge {ps : List (EdgeV × Bool)} {k : Int} : ∀ e ∈ boths ps k, 1 ≤ e := fun e he => by
  obtain ⟨j, x, -, -, h⟩ := mem_numsOf.1 he
  omega

theorem brow_at {B : Nat} {w : World} {g n c : Nat} {ks : List Int} (h : BRow B w (.slice (some ⟨g, 0, none⟩) n c) ks) {j : Nat} {e : Int} (hj : ks[j]? = some e) : w.cell? ⟨g, j, none⟩ = some (.int .i64 e) := by
  have := h.cells (g := g) rfl j (.int .i64 e) (by rw [List.getElem?_map, hj]; rfl)
  rwa [show (⟨g, 0, none⟩ : Addr).add j = ⟨g, j, none⟩ by unfold Addr.add; split <;> simp_all] at this
theorem brow_some {B : Nat} {w : World} {a : Option Addr} {n c : Nat} {ks : List Int} (h : BRow B w (.slice a n c) ks) (h0 : 0 < ks.length) : ∃ g, a = some ⟨g, 0, none⟩ := by
  rcases h.2 with ⟨e, h1⟩ | ⟨g', cap, cur, e, -⟩
  · omega
  · injection e with e1; exact ⟨g', e1⟩

section
variable [Inhabited EntI] {w w' : World} {X : Sto}

/-- Behind j edges of k: what is there. -/
structure Dv (w : World) (X : Sto) (es : List Int) (v1 gv : Value) (j : Nat) (W : World) (Y : Sto) : Prop where
  at_ : StAt W Y
  s : Y.s = X.s
  foot : Foots w X.L W Y.L
  ps : Y.ps = clr X.ps (es.take j)
  f : Y.f = X.f
  N : Y.N = X.N
  rd : Y.rd = X.rd
  wr : Y.wr = X.wr + j
  n : Y.n ≤ X.n + 65536 * j
  nums : BRow w.heap.size W v1 es
  l1 : ∀ b, v1.ownBlock = some b → Y.L b = none
  gone : GRow w.heap.size W gv ((es.take j).map (recOf X.ps))
  l2 : ∀ b, gv.ownBlock = some b → Y.L b = none ∧ v1.ownBlock ≠ some b

theorem Dv.step {es : List Int} {v1 gv : Value} {j i : Nat} {W w2 : World} {Y Y2 : Sto} {a : EdgeV} (h : Dv w X es v1 gv j W Y) (hj : es[j]? = some ((i : Int) + 1)) (hi : X.ps[i]? = some (a, true)) (hl : es.length ≤ 100000) (hR : Remd W Y i w2 Y2) :
    ∃ a' n' c' w', (∀ ty, (Builtin.append_ #[26, 26] ty #[gv, .slice (some ⟨w2.heap.size + 1, 0, none⟩) 1 1]).run Tryz.prog ((w2.alloc (oE a)).alloc (oE a)) = .ok (.slice a' n' c') w') ∧ Dv w X es v1 (.slice a' n' c') (j + 1) w' Y2 := by
  obtain ⟨⟨r1, r2, r3⟩, r4, r5, r6, r7, r8, r9⟩ := hR
  have hw := h.foot.1.size
  have hw2 := r3.1.size
  have hsz : (w2.alloc (oE a)).heap.size = w2.heap.size + 1 := by simp
  have hb1 : Below w2.heap.size w2 (w2.alloc (oE a)) := (Below.refl _ _).alloc (Nat.le_refl _) _
  have e1 : es.take (j + 1) = es.take j ++ [(i : Int) + 1] := by rw [List.take_add_one, hj]; rfl
  have hjl : (es.take j).length ≤ 100000 := by rw [List.length_take]; omega
  have old1 : ∀ b, v1.ownBlock = some b → w2.heap[b]? = W.heap[b]? ∧ Y2.L b = none := fun b hb => r3.old (h.nums.lt b hb).2 (h.l1 b hb)
  have old2 : ∀ b, gv.ownBlock = some b → w2.heap[b]? = W.heap[b]? ∧ Y2.L b = none := fun b hb => r3.old (h.gone.lt b hb).2 (h.l2 b hb).1
  have g0 : GRow w.heap.size (w2.alloc (oE a)) gv ((es.take j).map (recOf X.ps)) := grow_kept h.gone (fun b hb => (heap_alloc_old w2 _ (by have := (h.gone.lt b hb).2; omega)).trans (old2 b hb).1)
  obtain ⟨a', n', c', w', hr, g1, g2, g3⟩ := run_appG a g0 (by omega) (by rw [List.length_map]; exact hjl)
  rw [hsz] at hr g3
  have hs3 : ((w2.alloc (oE a)).alloc (oE a)).heap.size = w2.heap.size + 2 := by simp
  have hb2 : Below w2.heap.size w2 ((w2.alloc (oE a)).alloc (oE a)) := hb1.trans ((Below.refl _ _).alloc (by omega) _)
  have keep : ∀ b, b < w2.heap.size → gv.ownBlock ≠ some b → w'.heap[b]? = w2.heap[b]? := fun b hb hn => (g2.block b (by omega) (fun e => hn e.symm)).trans (hb2.block b hb)
  have hnew : ∀ b, w2.heap.size ≤ b → Y2.L b = none := fun b hb => r1.mem.new hb
  have hs4 : w2.heap.size ≤ w'.heap.size := by have := g2.size; omega
  have labs : ∀ b, Y2.L b ≠ none → w'.heap[b]? = w2.heap[b]? := fun b hb => keep b (r1.mem.lt b hb) (fun e => hb (old2 b e).2)
  refine ⟨a', n', c', w', hr, ⟨r1.kept labs hs4, r2.trans h.s, ?_, ?_, r5.trans h.f, r6.trans h.N, r7.trans h.rd, ?_, Nat.le_trans r9 (by rw [Nat.mul_succ, ← Nat.add_assoc]; exact Nat.add_le_add_right h.n _), ?_, fun b hb => (old1 b hb).2, ?_, fun b hb => ?_⟩⟩
  · obtain ⟨F1, F2⟩ := h.foot.trans r3
    exact ⟨⟨g2.os.trans (hb2.os.trans F1.os), g2.tape.trans (hb2.tape.trans F1.tape), g2.output.trans (hb2.output.trans F1.output), Nat.le_trans F1.size hs4, fun b hb hn => (keep b (Nat.lt_of_lt_of_le hb F1.size) (fun e => by have := (h.gone.lt b e).1; omega)).trans (F1.block b hb hn)⟩, F2⟩
  · rw [r4, h.ps, e1, clr_snoc]
  · rw [r8, h.wr]; push_cast; omega
  · exact brow_kept h.nums (fun b hb => (keep b (by have := (h.nums.lt b hb).2; omega) (fun e => (h.l2 b e).2 hb)).trans (old1 b hb).1)
  · rw [e1, List.map_append, List.map_singleton, recOf_at hi]; exact g1
  · rcases g3 b hb with e | e
    · exact ⟨(old2 b e).2, (h.l2 b e).2⟩
    · exact ⟨hnew b (by omega), fun e2 => by have := (h.nums.lt b e2).2; omega⟩

/-- What DropVertex leaves. -/
def Vanished (w : World) (X : Sto) (k : Int) (w' : World) (X' : Sto) : Prop :=
  Step w X w' X' ∧ X'.ps = clr X.ps (boths X.ps k) ∧ X'.f = putK X.f k none ∧ X'.N + 1 = X.N ∧ X'.rd = X.rd ∧ X'.wr = X.wr + (boths X.ps k).length ∧ X'.n ≤ X.n + 65536 * (boths X.ps k).length

theorem Dv.end_ {k : Int} {q : Nat} {v1 gv : Value} {W : World} {Y : Sto} (hX : StAt w X) (hk : X.f k = some q) (h : Dv w X (boths X.ps k) v1 gv (boths X.ps k).length W Y) :
    ∃ w', (∀ ty, (Builtin.delete_ #[79, 3] ty #[.map (some Y.m), .int .i64 k]).run Tryz.prog W = .ok (.tuple #[]) w') ∧ ∃ X', Vanished w X k w' X' ∧ GRow w.heap.size w' gv ((boths X.ps k).map (recOf X.ps)) ∧ ∀ b, gv.ownBlock = some b → X'.L b = none := by
  have hok := hX.ok hk
  have hq : Y.f k = some q := by rw [h.f]; exact hk
  have hm := h.at_.mem
  obtain ⟨N', hN'⟩ := mapFn_pos hm.map hok hq
  have hmap := hm.map
  rw [hN'] at hmap
  obtain ⟨w', hr, g1, g2⟩ := hmap.del_ kitN (t := 79) (e := 88) Tryz.underlying79 k hok (by rw [hq]; rfl) 0
  have t2 := turned_map (S := fun b => b = Y.m) g2 rfl
  have labs : ∀ b l, Y.L b = some l → l ≠ .map → w'.heap[b]? = W.heap[b]? := fun b l e hl => t2.block b (hm.lt b (by rw [e]; simp)) (fun e2 => by
    subst e2
    rw [hm.lmap] at e
    exact hl (Option.some.inj e).symm)
  have hf : ∀ j p, putK Y.f k none j = some p → j ≠ k ∧ Y.f j = some p := fun j p e => by
    unfold putK at e
    by_cases hj : j = k
    · rw [if_pos hj] at e; cases e
    · rw [if_neg hj] at e; exact ⟨hj, e⟩
  have hps : Y.ps = clr X.ps (boths X.ps k) := by rw [h.ps, List.take_length]
  refine ⟨w', fun ty => hr, { Y with f := putK Y.f k none, N := N' }, ⟨⟨⟨⟨(labs _ _ hm.lbox (by simp)).trans hm.box, hm.tab.kept (fun b hb => labs _ _ (hm.ltab b hb) (by simp)), g1, fun j hj => ?_, fun j p e => (labs _ _ (hm.lpair j p (hf j p e).2) (by simp)).trans (hm.pair j p (hf j p e).2),
    fun j p e => nrow_kept (hm.out j p (hf j p e).2) (fun b hb => labs _ _ (hm.lout j p b (hf j p e).2 hb) (by simp)), fun j p e => nrow_kept (hm.inn j p (hf j p e).2) (fun b hb => labs _ _ (hm.linn j p b (hf j p e).2 hb) (by simp)), hm.lbox, hm.ltab, hm.lmap, fun j p e => hm.lpair j p (hf j p e).2, fun j p b e hb => hm.lout j p b (hf j p e).2 hb, fun j p b e hb => hm.linn j p b (hf j p e).2 hb, fun b hb => Nat.lt_of_lt_of_le (hm.lt b hb) t2.size⟩, fun i x hx => ?_, ?_⟩, h.s, ?_⟩, hps, by show putK Y.f k none = _; rw [h.f], ?_, h.rd, h.wr, h.n⟩, ?_⟩
  · replace hj : putK Y.f k none j ≠ none := hj
    refine hm.keys j (fun e => hj ?_)
    unfold putK
    by_cases hjk : j = k
    · rw [if_pos hjk]
    · rw [if_neg hjk]; exact e
  · replace hx : Y.ps[i]? = some (x, true) := hx
    obtain ⟨a1, a2, a3⟩ := h.at_.edge i x hx
    rw [hps] at hx
    obtain ⟨b1, b2⟩ := (at_clr _ _ i x boths_ge).1 hx
    have n1 : x.2.1 ≠ k := fun e => b1 (mem_numsOf.2 ⟨i, x, b2, by simp [e], rfl⟩)
    have n2 : x.2.2.1 ≠ k := fun e => b1 (mem_numsOf.2 ⟨i, x, b2, by simp [e], rfl⟩)
    refine ⟨a1, ?_, ?_⟩
    · show putK Y.f k none _ ≠ none
      unfold putK; rw [if_neg n1]; exact a2
    · show putK Y.f k none _ ≠ none
      unfold putK; rw [if_neg n2]; exact a3
  · show N' ≤ 256
    have := h.at_.size; omega
  · exact h.foot.trans ⟨t2.mono (fun b _ e => by rw [e, hm.lmap]; simp), fun b hb => .inl hb⟩
  · show N' + 1 = X.N
    rw [← hN', h.N]
  · have := h.gone
    rw [List.take_length] at this
    refine ⟨grow_kept this (fun b hb => t2.block b (this.lt b hb).2 (fun e => ?_)), fun b hb => (h.l2 b hb).1⟩
    have := (h.l2 b hb).1
    rw [e, hm.lmap] at this; cases this

set_option maxHeartbeats 1000000 in
set_option maxRecDepth 100000 in
theorem dropVNo (k : Int) (h : StAt w X) (hk : okN k) (hf : X.f k = none) : Calls Tryz.prog 64 #[.pointer (some ⟨X.s, 0, none⟩), .int .i64 k] w fun r w' => r = .returned (.tuple #[.slice none 0 0, .int .i64 5]) ∧ w' = w := by
  obtain ⟨-, c1, -, -, -⟩ := h.cells
  have hl := h.look2 k hk
  rw [hf] at hl
  simp only [ptr, Option.isSome_none] at hl
  generalize X.s = s at *
  generalize X.m = m at *
  clear h hk hf
  go_enter Tryz.func64, Tryz.ntmps64
  go_wp2_with fail
  go_ret2
  exact ⟨rfl, rfl⟩

set_option maxHeartbeats 4000000 in
set_option maxRecDepth 100000 in
theorem dropVS {q : Nat} (k : Int) (h : StAt w X) (hk : X.f k = some q) (hn : X.n ≤ 800000000) (hw0 : 0 ≤ X.wr) (hw1 : X.wr ≤ 900000000) : Calls Tryz.prog 64 #[.pointer (some ⟨X.s, 0, none⟩), .int .i64 k] w fun r w' => ∃ v', r = .returned (.tuple #[v', .int .i64 0]) ∧ Hid (∃ X', Vanished w X k w' X' ∧ GRow w.heap.size w' v' ((boths X.ps k).map (recOf X.ps)) ∧ ∀ b, v'.ownBlock = some b → X'.L b = none) := by
  obtain ⟨-, c1, -, -, -⟩ := h.cells
  have hl := h.look2 k (h.ok hk)
  rw [hk] at hl
  simp only [ptr, Option.isSome_some] at hl
  have CA := hide (allS h hk)
  have hlen : (boths X.ps k).length ≤ 1024 := Nat.le_trans (length_numsOf _ _) (by have := h.tab.len; omega)
  have HS : Hid (∀ w1 v1, BRow w.heap.size w1 v1 (boths X.ps k) ∧ Below w.heap.size w w1 → Dv w X (boths X.ps k) v1 (.slice none 0 0) 0 w1 X) := fun w1 v1 hh => by
    refine ⟨h.below hh.2, rfl, Foots.below _ hh.2, rfl, rfl, rfl, rfl, by simp, by simp, hh.1, fun b hb => h.mem.new (hh.1.lt b hb).1, ⟨rfl, .inl ⟨rfl, rfl⟩⟩, fun b hb => by simp [Value.ownBlock] at hb⟩
  have HX := hide (And.intro h (And.intro hk (And.intro hn (And.intro hw0 (And.intro hw1 hlen)))))
  obtain ⟨s0, hs0⟩ : ∃ s0, s0 = X.s := ⟨_, rfl⟩
  rw [← hs0] at c1 ⊢
  have HS0 := hide hs0
  obtain ⟨m0, hm0⟩ : ∃ m0, m0 = X.m := ⟨_, rfl⟩
  rw [← hm0] at c1 hl
  clear h hk hn hw0 hw1 hlen hs0 hm0
  go_enter Tryz.func64, Tryz.ntmps64
  go_wp2_with fail
  refine (unhide CA).mono ?_
  rintro r w1 ⟨v1, rfl, h1⟩
  obtain ⟨a1, c1', e1, -⟩ := brow_shape (unhide h1).1
  subst e1
  have HD := hide (unhide HS w1 _ (unhide h1))
  obtain ⟨es, hes⟩ : ∃ es, es = boths X.ps k := ⟨_, rfl⟩
  rw [← hes] at HD ⊢
  have HE := hide hes
  obtain ⟨L1, hL1⟩ : ∃ L1, L1 = es.length := ⟨_, rfl⟩
  rw [← hL1]
  have HL1 := hide hL1
  rw [← hL1] at HD
  clear CA HS h1 hes hL1 c1 hl
  go_wp2_with fail
  go_loopw [8, 27] (fun s8 s27 wr => ∃ (j : Nat) (ga : Option Addr) (gn gc : Nat) (Y : Sto), s27 = .int .i64 j ∧ s8 = .slice ga gn gc ∧ j ≤ L1 ∧ Hid (Dv w X es (.slice a1 L1 c1') (.slice ga gn gc) j wr Y)) (fun _ s27 _ => L1 - (intOf s27).toNat)
  case atStart => exact ⟨0, none, 0, 0, X, rfl, rfl, Nat.zero_le _, HD⟩
  case round =>
    obtain ⟨j, ga, gn, gc, Y, rfl, rfl, hjL, hD⟩ := hrel
    by_cases hj : j < L1
    · have hjz : (j : Int) < (L1 : Int) := by omega
      have hje : j < es.length := by have := unhide HL1; omega
      obtain ⟨e, he⟩ : ∃ e, es[j]? = some e := ⟨_, List.getElem?_eq_getElem hje⟩
      have hmem : e ∈ boths X.ps k := by rw [← unhide HE]; exact List.mem_of_getElem? he
      obtain ⟨i, a, hi, -, rfl⟩ := mem_numsOf.1 hmem
      obtain ⟨g1, rfl⟩ := brow_some (unhide hD).nums (by omega)
      have hc := brow_at (unhide hD).nums he
      have hYi : Y.ps[i]? = some (a, true) := by
        rw [(unhide hD).ps]
        refine (at_clr _ _ i a (fun x hx => boths_ge x (by rw [← unhide HE]; exact List.mem_of_mem_take hx))).2 ⟨fun hin => ?_, hi⟩
        have hr : Rising ltN es := by rw [unhide HE]; exact rising_numsOf _ _
        obtain ⟨p, hp, ep⟩ := List.mem_iff_getElem.1 hin
        have hpj : p < j := by simp at hp; omega
        have hlt := List.pairwise_iff_getElem.1 hr p j (by omega) hje hpj
        rw [List.getElem_take] at ep
        have e2 : es[j] = (i : Int) + 1 := by rw [List.getElem?_eq_getElem hje] at he; exact Option.some.inj he
        rw [ep, e2] at hlt
        simp [ltN] at hlt
      have CR : Hid (Calls Tryz.prog 51 #[.pointer (some ⟨s0, 0, none⟩), .int .i64 ((i : Int) + 1)] wr fun r w2 => r = .returned (.tuple #[.agg #[.int .i64 a.1, .int .i64 a.2.1, .int .i64 a.2.2.1, .int .u32 a.2.2.2], .bool true]) ∧ Hid (∃ Y2 a' n' c' w', (∀ ty, (Builtin.append_ #[26, 26] ty #[.slice ga gn gc, .slice (some ⟨w2.heap.size + 1, 0, none⟩) 1 1]).run Tryz.prog ((w2.alloc (oE a)).alloc (oE a)) = .ok (.slice a' n' c') w') ∧ Dv w X es (.slice (some ⟨g1, 0, none⟩) L1 c1') (.slice a' n' c') (j + 1) w' Y2)) := by
        have hD' := unhide hD
        obtain ⟨-, -, q1, q2, q3, q4⟩ := unhide HX
        have q5 := unhide HL1
        rw [unhide HE] at q5
        have q6 : 65536 * j ≤ 65536 * 1024 := Nat.mul_le_mul_left _ (by omega)
        have q7 := hD'.n
        have q8 := hD'.wr
        have := removeS i hD'.at_ hYi (by omega) (by omega) (by omega)
        rw [hD'.s, ← unhide HS0] at this
        refine this.mono ?_
        rintro r w2 ⟨rfl, h2⟩
        obtain ⟨Y2, hR⟩ := unhide h2
        obtain ⟨a', n', c', w', hr, hd⟩ := hD'.step he hi (by have := unhide HL1; omega) hR
        exact ⟨rfl, Y2, a', n', c', w', hr, hd⟩
      clear hD hYi hmem hi he hje HD
      go_wp2_with fail
      refine (unhide CR).mono ?_
      rintro r w2 ⟨rfl, h2⟩
      clear CR hc
      go_upto_region 9 with fail
      change Code.wp _ _ _ _ (w2.alloc (oE a))
      obtain ⟨Y2, a', n', c', w', hr, hd⟩ := unhide h2
      have HDD := hide hd
      obtain ⟨x0, x1, x2, x3, -⟩ := box_cells (heap_alloc_new w2 (oE a))
      have hsz : (w2.alloc (oE a)).heap.size = w2.heap.size + 1 := by simp
      rw [← hsz] at hr
      clear h2 hd hsz
      generalize w2.alloc (oE a) = w3 at *
      generalize w2.heap.size = b2 at *
      have HR := hide hr
      clear hr
      unfold oE at HR
      go_wp2_with (at_builtin; refine Lib.wpList_append_run _ rfl _ _ 26 26 rfl _ _ rfl rfl _ _ (unhide HR _) ?_)
      have hwj : wrap64 ((j : Int) + 1) = ((j + 1 : Nat) : Int) := by
        have h1 := (unhide HX).2.2.2.2.2
        have h2 := unhide HL1
        rw [unhide HE] at h2
        unfold wrap64; omega
      rw [hwj]
      exact ⟨⟨j + 1, a', n', c', Y2, rfl, rfl, by omega, HDD⟩, by simp [intOf]; omega⟩
    · have hjz : ¬ (j : Int) < (L1 : Int) := by omega
      have HF : Hid (∃ ym w', wr.cell? ⟨s0, 1, none⟩ = some (.map (some ym)) ∧ (∀ ty, (Builtin.delete_ #[79, 3] ty #[.map (some ym), .int .i64 k]).run Tryz.prog wr = .ok (.tuple #[]) w') ∧ ∃ X', Vanished w X k w' X' ∧ GRow w.heap.size w' (.slice ga gn gc) ((boths X.ps k).map (recOf X.ps)) ∧ ∀ b, (Value.slice ga gn gc).ownBlock = some b → X'.L b = none) := by
        obtain ⟨h, hk, -, -, -, -⟩ := unhide HX
        have hD' := unhide hD
        have e1 : j = (boths X.ps k).length := by have := unhide HL1; rw [unhide HE] at this; omega
        rw [unhide HE, e1] at hD'
        obtain ⟨w', hr, hV⟩ := hD'.end_ h hk
        have c := hD'.at_.cells.2.1
        rw [hD'.s, ← unhide HS0] at c
        exact ⟨_, w', c, hr, hV⟩
      clear hD HD
      obtain ⟨ym, w', k1, hr, hV⟩ := unhide HF
      have HV := hide hV
      have hr0 := hr 0
      clear HF hV
      go_wp2_with fail
      go_ret2
      obtain ⟨X', v1, v2, v3⟩ := unhide HV
      first | exact ⟨_, rfl, X', v1, v2, v3⟩ | exact ⟨_, rfl, v2, X', v1, v3⟩ | exact ⟨_, rfl, X', v1, v3, v2⟩
end
end Go.Proofs.YtagibmgbjhemkaaGreat
