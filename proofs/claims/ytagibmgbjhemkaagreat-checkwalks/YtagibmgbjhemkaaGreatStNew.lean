/- New: a store without vertices. -/
import Derived.Test.YtagibmgbjhemkaaGreatFo17
import Derived.Test.YtagibmgbjhemkaaGreatStEasy
import Derived.Test.YtagibmgbjhemkaaGreatStRem
import Derived.Test.YtagibmgbjhemkaaGreatTail
namespace Go.Proofs.YtagibmgbjhemkaaGreat

section
open Go.RowKit Go.Maps
def stopsOf (a : Int) (d : List EdgeV) : List Int := a :: d.map (fun x => x.2.2.1)
theorem stopsOf_snoc (a : Int) (d : List EdgeV) (x : EdgeV) : stopsOf a (d ++ [x]) = stopsOf a d ++ [x.2.2.1] := by simp [stopsOf]
theorem stopsOf_len (a : Int) (d : List EdgeV) : (stopsOf a d).length = d.length + 1 := by simp [stopsOf]
def oS8 (v : Value) : Obj := .cells #[v] 25 (0, 0)
theorem cellS8 {w : World} {b : Nat} {v : Value} (h : w.heap[b]? = some (oS8 v)) : w.cell? ⟨b, 0, none⟩ = some v ∧ ∀ o, w.frozen? ⟨b, o, none⟩ = false := ⟨(cell_of_row _ _ 0 _ _ (0, 0) h).trans rfl, fun o => frozen_of_row _ _ o _ _ h⟩
theorem run_app8 {B : Nat} {w : World} {v : Value} {ks : List Int} (x : Int) (h : BRow B w v ks) (hB : B ≤ w.heap.size) (hl : ks.length ≤ 2000000) :
    ∃ a' n' c' w', (∀ ty, (Builtin.append_ #[25, 25] ty #[v, .slice (some ⟨w.heap.size, 0, none⟩) 1 1]).run Tryz.prog (w.alloc (.cells #[.int .i64 x] 3)) = .ok (.slice a' n' c') w') ∧ BRow B w' (.slice a' n' c') (ks ++ [x]) ∧ Turned (fun b => v.ownBlock = some b) w w' ∧ ∀ b, (Value.slice a' n' c').ownBlock = some b → v.ownBlock = some b ∨ w.heap.size ≤ b := by
  have hb1 := below_new w (.cells #[.int .i64 x] 3); have h2 : NRow (w.alloc (.cells #[.int .i64 x] 3)) (.slice (some ⟨w.heap.size, 0, none⟩) 1 1) [x] := ⟨rfl, .inr ⟨w.heap.size, 1, #[.int .i64 x], rfl, Nat.zero_le _, heap_alloc_new _ _, Nat.le_refl _, by unfold maxLen; omega, rfl, rfl⟩⟩
  have h1 : BRow B (w.alloc (.cells #[.int .i64 x] 3)) v ks := brow_kept h (fun b e => hb1.block b (h.lt b e).2)
  obtain ⟨ii, hi1, hz, hs, hb⟩ := info_parts info3; obtain ⟨v', w', hr, g1, g2, -, g5⟩ := run_append_own_at (P := Tryz.prog) (w.alloc (.cells #[.int .i64 x] 3)) B 25 0 3 ii _ 1 8 Tryz.underlying25 hi1 hz hs hb rfl (by omega) v ks.length (ks.map (Value.int .i64)) h1 ⟨w.heap.size, 0, none⟩ 1 1 ([x].map (Value.int .i64)) (by simp)
      (h2.cells (g := w.heap.size) rfl) (ints_one [x]) (by unfold maxLen; omega) (by omega) (Nat.le_trans hB hb1.size)
  have e1 : ks.map (Value.int .i64) ++ [x].map (Value.int .i64) = (ks ++ [x]).map (Value.int .i64) := by simp
  have e2 : ks.length + 1 = (ks ++ [x]).length := by simp
  rw [e1, e2] at g1; have g1' : BRow B w' v' (ks ++ [x]) := g1; obtain ⟨a', c', e, -⟩ := brow_shape g1'; subst e; refine ⟨a', _, c', w', fun ty => hr, g1', (turned_of_below hb1).trans ⟨g2.os, g2.tape, g2.output, g2.size, fun k hk hn => g2.block k hk (fun e => hn e.symm)⟩, fun b eb => ?_⟩
  rcases g5 with q | q
  · exact .inl (by rw [← q]; exact eb)
  · rw [q] at eb; injection eb with eb; exact .inr (by have := hb1.size; omega)
def TP (B bs : Nat) (a : Int) (d : List EdgeV) (A : Nat → Prop) (w : World) : Prop :=
  ∃ (sa : Option Addr) (sn sc : Nat), (∀ b, A b ↔ b = bs ∨ (Value.slice sa sn sc).ownBlock = some b) ∧ w.heap[bs]? = some (oS8 (.slice sa sn sc)) ∧ BRow B w (.slice sa sn sc) (stopsOf a d) ∧ (Value.slice sa sn sc).ownBlock ≠ some bs ∧ B ≤ bs ∧ B ≤ w.heap.size
theorem TP.step {B bs : Nat} {a : Int} {d : List EdgeV} {A : Nat → Prop} {w w1 : World} {x : EdgeV} (h : TP B bs a d A w) (hb : Below w.heap.size w w1) (hd : d.length ≤ 1000000) :
    ∃ sa sn sc a' n' c' w2, w1.cell? ⟨bs, 0, none⟩ = some (.slice sa sn sc) ∧ (∀ ty, (Builtin.append_ #[25, 25] ty #[.slice sa sn sc, .slice (some ⟨w1.heap.size, 0, none⟩) 1 1]).run Tryz.prog (w1.alloc (.cells #[.int .i64 x.2.2.1] 3)) = .ok (.slice a' n' c') w2) ∧ (w2.cell? ⟨bs, 0, none⟩ = some (.slice sa sn sc) ∧ ∀ o, w2.frozen? ⟨bs, o, none⟩ = false) ∧
      ∃ A', TP B bs a (d ++ [x]) A' (w2.setCell ⟨bs, 0, none⟩ (.slice a' n' c')) ∧ Turned A w (w2.setCell ⟨bs, 0, none⟩ (.slice a' n' c')) ∧ ∀ b, A' b → A b ∨ w.heap.size ≤ b := by
  obtain ⟨sa, sn, sc, h1, h2, h3, h4, h5, h6⟩ := h; have k2 := (hb.block bs (heap_lt h2)).trans h2; have k3 : BRow B w1 (.slice sa sn sc) (stopsOf a d) := brow_kept h3 (fun b e => hb.block b (h3.lt b e).2)
  obtain ⟨a', n', c', w2, hr, g1, g2, g3⟩ := run_app8 x.2.2.1 k3 (Nat.le_trans h6 hb.size) (by rw [stopsOf_len]; omega)
  have k4 := (g2.block bs (heap_lt k2) h4).trans k2; have hne : (Value.slice a' n' c').ownBlock ≠ some bs := fun e => by
    rcases g3 bs e with q | q
    · exact h4 q
    · have := heap_lt k2; omega
  refine ⟨sa, sn, sc, a', n', c', w2, (cellS8 k2).1, hr, cellS8 k4, fun b => b = bs ∨ (Value.slice a' n' c').ownBlock = some b, ⟨a', n', c', fun b => Iff.rfl, ?_, ?_, hne, h5, ?_⟩, ?_, fun b hb' => ?_⟩
  · rw [heap_setCell_same _ _ _ _ _ _ k4]; rfl
  · rw [stopsOf_snoc]; exact brow_kept g1 (fun b e => heap_setCell_other _ _ _ _ (fun e2 => hne (by rw [← show b = bs from e2]; exact e)))
  · have es : (w2.setCell ⟨bs, 0, none⟩ (.slice a' n' c')).heap.size = w2.heap.size := by simp
    rw [es]; exact Nat.le_trans h6 (Nat.le_trans hb.size g2.size)
  · exact ((turned_of_below hb).then_ g2 (fun b _ e => (h1 b).2 (.inr e))).trans (turned_setCell _ _ _ ((h1 bs).2 (.inl rfl)))
  · rcases hb' with e | e
    · exact .inl ((h1 b).2 (.inl e))
    · rcases g3 b e with q | q
      · exact .inl ((h1 b).2 (.inr q))
      · exact .inr (Nat.le_trans hb.size q)
end

section
open Go.RowKit Go.Maps
theorem nums_nil {p : EdgeV → Bool} {ps : List (EdgeV × Bool)} (h : ∀ (i : Nat) (x : EdgeV), ps[i]? = some (x, true) → p x = false) : numsOf p ps = [] := by
  rw [List.eq_nil_iff_forall_not_mem]; intro e he; obtain ⟨j, x, h1, h2, -⟩ := mem_numsOf.1 he; rw [h j x h1] at h2; cases h2
section
variable [Inhabited EntI] {w : World} {X : Sto}
def Sto.more (X : Sto) (k : Int) (q : Nat) : Sto := { X with f := putK X.f k (some q), N := X.N + 1, ro := upd X.ro k (.slice none 0 0), ri := upd X.ri k (.slice none 0 0), L := upd X.L q (some (.pair k)) }
def oEnds : Obj := .cells #[.slice none 0 0, .slice none 0 0] 134 (0, 0)
theorem StAt.more (h : StAt w X) (k : Int) (hk0 : 0 ≤ k) (hk1 : k ≤ 2147483647) (hf : X.f k = none) (hN : X.N < 256) :
    ∃ w2, (Instr.mapUpdate 79 (.map (some X.m)) (.int .i64 k) (.pointer (some ⟨w.heap.size, 0, none⟩))).run Tryz.prog (w.alloc oEnds) = .ok () w2 ∧ Step w X w2 (X.more k w.heap.size) := by
  have hb0 : Below w.heap.size w (w.alloc oEnds) := (Below.refl _ _).alloc (Nat.le_refl _) _; have hm := h.mem; have hml := hm.lt X.m (by rw [hm.lmap]; simp)
  have hsz : (w.alloc oEnds).heap.size = w.heap.size + 1 := by simp
  obtain ⟨w2, hr, g1, g2⟩ := (hm.below hb0).map.put_ kitN (t := 79) (e := 88) Tryz.underlying79 (by unfold maxLen; omega) k (okN_of hk0 hk1) w.heap.size
  refine ⟨w2, hr, ?_⟩; rw [hf] at g1; simp only [Option.isSome_none] at g1; have t2 := turned_map (S := fun b => b = X.m) g2 rfl
  have s2 := t2.size; have old : ∀ b, b < w.heap.size → b ≠ X.m → w2.heap[b]? = w.heap[b]? := fun b h1 h2 => (t2.block b (by omega) h2).trans (hb0.block b h1)
  have new : w2.heap[w.heap.size]? = some oEnds := (t2.block _ (by omega) (by omega)).trans (heap_alloc_new _ _)
  have labs : ∀ b l, X.L b = some l → (∀ (_ : l = Who.map), False) → w2.heap[b]? = w.heap[b]? := fun b l e hl => old b (hm.lt b (by rw [e]; simp)) (fun e2 => by
    rw [e2, hm.lmap] at e; exact hl (Option.some.inj e).symm)
  have Lold : ∀ b l, X.L b = some l → upd X.L w.heap.size (some (Who.pair k)) b = some l := fun b l e => by
    rw [upd_ne _ _ (fun e2 => by have := hm.lt b (by rw [e]; simp); omega)]; exact e
  have fold : ∀ j, j ≠ k → putK X.f k (some w.heap.size) j = X.f j := fun j hj => by simp [putK, hj]
  have fnew : putK X.f k (some w.heap.size) k = some w.heap.size := by simp [putK]
  have hfq : ∀ j q, putK X.f k (some w.heap.size) j = some q → (j = k ∧ q = w.heap.size) ∨ (j ≠ k ∧ X.f j = some q) := fun j q e => by
    by_cases hj : j = k
    · subst hj; rw [fnew] at e; exact .inl ⟨rfl, (Option.some.inj e).symm⟩
    · rw [fold j hj] at e; exact .inr ⟨hj, e⟩
  have no : outs X.ps k = [] ∧ inns X.ps k = [] := by
    constructor
    · exact nums_nil (fun i x hx => decide_eq_false (fun e => (h.edge i x hx).2.1 (by rw [e]; exact hf)))
    · exact nums_nil (fun i x hx => decide_eq_false (fun e => (h.edge i x hx).2.2 (by rw [e]; exact hf)))
  refine ⟨⟨⟨(labs _ _ hm.lbox (by simp)).trans hm.box, hm.tab.kept (fun b hb => labs _ _ (hm.ltab b hb) (by simp)), g1, fun j hj => ?_, fun j q e => ?_, fun j q e => ?_, fun j q e => ?_, Lold _ _ hm.lbox, fun b hb => Lold _ _ (hm.ltab b hb), Lold _ _ hm.lmap, fun j q e => ?_, fun j q b e hb => ?_, fun j q b e hb => ?_, fun b hb => ?_⟩, fun i x hx => ?_, by show X.N + 1 ≤ 256; omega⟩, rfl, ?_, fun b hb => ?_⟩
  · by_cases hjk : j = k
    · subst hjk; exact ⟨hk0, hk1⟩
    · exact hm.keys j (by rw [← fold j hjk]; exact hj)
  · rcases hfq j q e with ⟨rfl, rfl⟩ | ⟨hj, e⟩
    · show w2.heap[w.heap.size]? = some (.cells #[upd X.ro j _ j, upd X.ri j _ j] _ _); rw [upd_self, upd_self]; exact new
    · show w2.heap[q]? = some (.cells #[upd X.ro k _ j, upd X.ri k _ j] _ _); rw [upd_ne _ _ hj, upd_ne _ _ hj]; exact (labs _ _ (hm.lpair j q e) (by simp)).trans (hm.pair j q e)
  · rcases hfq j q e with ⟨rfl, rfl⟩ | ⟨hj, e⟩
    · show NRow w2 (upd X.ro j _ j) (outs X.ps j); rw [upd_self, no.1]; exact ⟨rfl, .inl ⟨rfl, rfl⟩⟩
    · show NRow w2 (upd X.ro k _ j) (outs X.ps j); rw [upd_ne _ _ hj]; exact nrow_kept (hm.out j q e) (fun b hb => labs _ _ (hm.lout j q b e hb) (by simp))
  · rcases hfq j q e with ⟨rfl, rfl⟩ | ⟨hj, e⟩
    · show NRow w2 (upd X.ri j _ j) (inns X.ps j); rw [upd_self, no.2]; exact ⟨rfl, .inl ⟨rfl, rfl⟩⟩
    · show NRow w2 (upd X.ri k _ j) (inns X.ps j); rw [upd_ne _ _ hj]; exact nrow_kept (hm.inn j q e) (fun b hb => labs _ _ (hm.linn j q b e hb) (by simp))
  · rcases hfq j q e with ⟨rfl, rfl⟩ | ⟨hj, e⟩
    · exact upd_self _ _ _
    · exact Lold _ _ (hm.lpair j q e)
  · rcases hfq j q e with ⟨rfl, rfl⟩ | ⟨hj, e⟩
    · replace hb : (upd X.ro j (.slice none 0 0) j).ownBlock = some b := hb
      rw [upd_self] at hb; simp [Value.ownBlock] at hb
    · replace hb : (upd X.ro k (.slice none 0 0) j).ownBlock = some b := hb
      rw [upd_ne _ _ hj] at hb; exact Lold _ _ (hm.lout j q b e hb)
  · rcases hfq j q e with ⟨rfl, rfl⟩ | ⟨hj, e⟩
    · replace hb : (upd X.ri j (.slice none 0 0) j).ownBlock = some b := hb
      rw [upd_self] at hb; simp [Value.ownBlock] at hb
    · replace hb : (upd X.ri k (.slice none 0 0) j).ownBlock = some b := hb
      rw [upd_ne _ _ hj] at hb; exact Lold _ _ (hm.linn j q b e hb)
  · by_cases e : b = w.heap.size
    · omega
    · replace hb : upd X.L w.heap.size _ b ≠ none := hb
      rw [upd_ne _ _ e] at hb; have := hm.lt b hb; omega
  · obtain ⟨a1, a2, a3⟩ := h.edge i x hx; refine ⟨a1, ?_, ?_⟩
    · show putK X.f k _ _ ≠ none; rw [fold _ (fun e => a2 (by rw [e]; exact hf))]; exact a2
    · show putK X.f k _ _ ≠ none; rw [fold _ (fun e => a3 (by rw [e]; exact hf))]; exact a3
  · have t0 : Turned (fun b => X.L b ≠ none) w (w.alloc oEnds) := turned_of_below hb0
    exact t0.then_ t2 (fun b _ e => by rw [e, hm.lmap]; simp)
  · replace hb : upd X.L w.heap.size _ b ≠ none := hb
    by_cases e : b = w.heap.size
    · exact .inr (by omega)
    · rw [upd_ne _ _ e] at hb; exact .inl hb
set_option maxHeartbeats 1000000 in
set_option maxRecDepth 100000 in
theorem addVBad (k : Int) (_h : StAt w X) (hk : k < 0 ∨ 2147483647 < k) : Calls Tryz.prog 31 #[.pointer (some ⟨X.s, 0, none⟩), .int .i64 k] w fun e w' => e = .returned (.int .i64 4) ∧ w' = w := by
  by_cases h1 : k < 0
  · clear hk
    go_enter Tryz.func31, Tryz.ntmps31
    go_wp2_with fail
    go_ret
    exact ⟨rfl, rfl⟩
  · have h2 : 2147483647 < k := hk.resolve_left h1; clear hk
    go_enter Tryz.func31, Tryz.ntmps31
    go_wp2_with fail
    go_ret
    exact ⟨rfl, rfl⟩
set_option maxHeartbeats 1000000 in
set_option maxRecDepth 100000 in
theorem addVTwice (k : Int) (h : StAt w X) (hf : X.f k ≠ none) : Calls Tryz.prog 31 #[.pointer (some ⟨X.s, 0, none⟩), .int .i64 k] w fun e w' => e = .returned (.int .i64 2) ∧ w' = w := by
  obtain ⟨h0, h1⟩ := h.mem.keys k hf; have h2 : ¬ k < 0 := by omega
  have h3 : ¬ 2147483647 < k := by omega
  have CH := hide (hasS k h (okN_of h0 h1)); have e1 : (X.f k).isSome = true := by cases hh : X.f k with | none => exact absurd hh hf | some q => rfl
  rw [e1] at CH; clear h hf h0 h1 e1
  go_enter Tryz.func31, Tryz.ntmps31
  go_wp2_with fail
  refine (unhide CH).mono ?_
  rintro e w1 ⟨rfl, rfl⟩
  clear CH
  go_wp2_with fail
  go_ret
  exact ⟨rfl, rfl⟩
set_option maxHeartbeats 1000000 in
set_option maxRecDepth 100000 in
theorem addVMany (k : Int) (h : StAt w X) (h0 : 0 ≤ k) (h1 : k ≤ 2147483647) (hf : X.f k = none) (hN : X.N = 256) : Calls Tryz.prog 31 #[.pointer (some ⟨X.s, 0, none⟩), .int .i64 k] w fun e w' => e = .returned (.int .i64 8) ∧ w' = w := by
  have h2 : ¬ k < 0 := by omega
  have h3 : ¬ 2147483647 < k := by omega
  have CH := hide (hasS k h (okN_of h0 h1)); rw [hf] at CH; simp only [Option.isSome_none] at CH; obtain ⟨-, c1, -, -, -⟩ := h.cells; have hl := fun ty => h.mem.map.len_ (t := 79) (e := 88) Tryz.underlying79 ty
  rw [hN] at hl; clear h hf h0 h1 hN
  go_enter Tryz.func31, Tryz.ntmps31
  go_wp2_with fail
  refine (unhide CH).mono ?_
  rintro e w1 ⟨rfl, rfl⟩
  clear CH
  go_wp2_with fail
  go_ret
  exact ⟨rfl, rfl⟩
set_option maxHeartbeats 1000000 in
set_option maxRecDepth 100000 in
theorem addVS (k : Int) (h : StAt w X) (h0 : 0 ≤ k) (h1 : k ≤ 2147483647) (hf : X.f k = none) (hN : X.N < 256) : Calls Tryz.prog 31 #[.pointer (some ⟨X.s, 0, none⟩), .int .i64 k] w fun e w' => e = .returned (.int .i64 0) ∧ Hid (Step w X w' (X.more k w.heap.size)) := by
  have h2 : ¬ k < 0 := by omega
  have h3 : ¬ 2147483647 < k := by omega
  have CH := hide (hasS k h (okN_of h0 h1)); rw [hf] at CH; simp only [Option.isSome_none] at CH; obtain ⟨-, c1, -, -, -⟩ := h.cells; have hl := fun ty => h.mem.map.len_ (t := 79) (e := 88) Tryz.underlying79 ty
  have h4 : ¬ (256 : Int) ≤ (X.N : Int) := by omega
  have c1' : (w.alloc oEnds).cell? ⟨X.s, 1, none⟩ = some (.map (some X.m)) := (cell_of_heap (heap_alloc_old w oEnds (h.mem.lt X.s (by rw [h.mem.lbox]; simp)))).trans c1
  obtain ⟨w2, hr, hS⟩ := h.more k h0 h1 hf hN; have HS := hide hS; generalize X.N = N at *; generalize X.s = s at *; generalize X.m = m at *; clear h hf h0 h1 hN hS; unfold oEnds at hr c1'
  go_enter Tryz.func31, Tryz.ntmps31
  go_wp2_with fail
  refine (unhide CH).mono ?_
  rintro e w1 ⟨rfl, rfl⟩
  clear CH
  go_wp2_with fail
  go_ret
  exact ⟨rfl, unhide HS⟩
end
end

section
open Go.RowKit Go.Maps
theorem boxed_bits {w : World} {e u v n : Int} (kb : Int) : ((w.alloc (oE (e, u, v, n))).setCell ⟨w.heap.size, 3, none⟩ (.int .u32 kb)).heap[w.heap.size]? = some (oE (e, u, v, kb)) ∧ Below w.heap.size w ((w.alloc (oE (e, u, v, n))).setCell ⟨w.heap.size, 3, none⟩ (.int .u32 kb)) := by
  refine ⟨?_, ((Below.refl _ _).alloc (Nat.le_refl _) _).setCell (p := ⟨w.heap.size, 3, none⟩) (Nat.le_refl _) _⟩; rw [heap_setCell_same _ _ _ _ _ _ (heap_alloc_new w (oE (e, u, v, n)))]; rfl
section
variable [Inhabited EntI] {w w' : World} {X : Sto}
set_option maxHeartbeats 1000000 in
set_option maxRecDepth 100000 in
theorem putERange (e u v n : Int) (_h : StAt w X) (he : e < 1 ∨ 1024 < e) : Calls Tryz.prog 32 #[.pointer (some ⟨X.s, 0, none⟩), .agg #[.int .i64 e, .int .i64 u, .int .i64 v, .int .u32 n]] w fun r w' => r = .returned (.int .i64 1) ∧ Below w.heap.size w w' := by
  have HB : Hid (Below w.heap.size w (w.alloc (oE (e, u, v, n)))) := (Below.refl _ _).alloc (Nat.le_refl _) _; obtain ⟨x0, x1, x2, x3, -⟩ := box_cells (heap_alloc_new w (oE (e, u, v, n))); dsimp only at x0 x1 x2 x3
  by_cases h1 : e < 1
  · clear he
    go_enter Tryz.func32, Tryz.ntmps32
    go_upto_region 1 with fail
    change Code.wp _ _ _ _ (w.alloc (oE (e, u, v, n))); generalize w.alloc (oE (e, u, v, n)) = wb at *
    go_wp2_with fail
    go_ret
    exact ⟨rfl, unhide HB⟩
  · have h2 : 1024 < e := he.resolve_left h1; clear he
    go_enter Tryz.func32, Tryz.ntmps32
    go_upto_region 1 with fail
    change Code.wp _ _ _ _ (w.alloc (oE (e, u, v, n))); generalize w.alloc (oE (e, u, v, n)) = wb at *
    go_wp2_with fail
    go_ret
    exact ⟨rfl, unhide HB⟩
set_option maxHeartbeats 1000000 in
set_option maxRecDepth 100000 in
theorem putENo (e u v n : Int) (h : StAt w X) (h1 : 1 ≤ e) (h2 : e ≤ 1024) (hu : okN u) (hv : okN v) (hno : X.f u = none ∨ X.f v = none) : Calls Tryz.prog 32 #[.pointer (some ⟨X.s, 0, none⟩), .agg #[.int .i64 e, .int .i64 u, .int .i64 v, .int .u32 n]] w fun r w' => r = .returned (.int .i64 5) ∧ Below w.heap.size w w' := by
  have hb : Below w.heap.size w (w.alloc (oE (e, u, v, n))) := (Below.refl _ _).alloc (Nat.le_refl _) _; have HB := hide hb; obtain ⟨x0, x1, x2, x3, -⟩ := box_cells (heap_alloc_new w (oE (e, u, v, n))); dsimp only at x0 x1 x2 x3; have CA := hide (admitNoS u v n (h.below hb) hu hv hno); have h3 : ¬ e < 1 := by omega
  have h4 : ¬ 1024 < e := by omega
  clear h hu hv hno h1 h2 hb
  go_enter Tryz.func32, Tryz.ntmps32
  go_upto_region 1 with fail
  change Code.wp _ _ _ _ (w.alloc (oE (e, u, v, n))); generalize w.alloc (oE (e, u, v, n)) = wb at *
  go_wp2_with fail
  refine (unhide CA).mono ?_
  rintro r w1 ⟨rfl, rfl⟩
  clear CA
  go_wp2_with fail
  go_ret
  exact ⟨rfl, unhide HB⟩
set_option maxHeartbeats 1000000 in
set_option maxRecDepth 100000 in
theorem putEBad (e u v n : Int) (h : StAt w X) (h1 : 1 ≤ e) (h2 : e ≤ 1024) (hu : X.f u ≠ none) (hv : X.f v ≠ none) (h0 : 0 ≤ n) (hk : kept n = none) : Calls Tryz.prog 32 #[.pointer (some ⟨X.s, 0, none⟩), .agg #[.int .i64 e, .int .i64 u, .int .i64 v, .int .u32 n]] w fun r w' => r = .returned (.int .i64 7) ∧ Below w.heap.size w w' := by
  have hb : Below w.heap.size w (w.alloc (oE (e, u, v, n))) := (Below.refl _ _).alloc (Nat.le_refl _) _; have HB := hide hb; obtain ⟨x0, x1, x2, x3, -⟩ := box_cells (heap_alloc_new w (oE (e, u, v, n))); dsimp only at x0 x1 x2 x3; have CA := hide (admitS u v n (h.below hb) hu hv h0); rw [hk] at CA; simp only [ansK] at CA; have h3 : ¬ e < 1 := by omega
  have h4 : ¬ 1024 < e := by omega
  clear h hu hv h0 h1 h2 hb hk
  go_enter Tryz.func32, Tryz.ntmps32
  go_upto_region 1 with fail
  change Code.wp _ _ _ _ (w.alloc (oE (e, u, v, n))); generalize w.alloc (oE (e, u, v, n)) = wb at *
  go_wp2_with fail
  refine (unhide CA).mono ?_
  rintro r w1 ⟨rfl, rfl⟩
  clear CA
  go_wp2_with fail
  go_ret
  exact ⟨rfl, unhide HB⟩
set_option maxHeartbeats 1000000 in
set_option maxRecDepth 100000 in
theorem putETwice {kb : Int} {a : EdgeV} (i : Nat) (u v n : Int) (h : StAt w X) (hi : X.ps[i]? = some (a, true)) (hu : X.f u ≠ none) (hv : X.f v ≠ none) (h0 : 0 ≤ n) (hk : kept n = some kb) : Calls Tryz.prog 32 #[.pointer (some ⟨X.s, 0, none⟩), .agg #[.int .i64 ((i : Int) + 1), .int .i64 u, .int .i64 v, .int .u32 n]] w fun r w' => r = .returned (.int .i64 2) ∧ Below w.heap.size w w' := by
  have hb : Below w.heap.size w (w.alloc (oE ((i : Int) + 1, u, v, n))) := (Below.refl _ _).alloc (Nat.le_refl _) _; obtain ⟨x0, x1, x2, x3, xf⟩ := box_cells (heap_alloc_new w (oE ((i : Int) + 1, u, v, n))); dsimp only at x0 x1 x2 x3; have CA := hide (admitS u v n (h.below hb) hu hv h0); rw [hk] at CA; simp only [ansK] at CA; have hil := lt_of_at hi; have hlen := h.tab.len; have h3 : ¬ (i : Int) + 1 < 1 := by omega
  have h4 : ¬ 1024 < (i : Int) + 1 := by omega
  obtain ⟨b1, b2⟩ := boxed_bits (w := w) (e := (i : Int) + 1) (u := u) (v := v) (n := n) kb; have HBX := hide b1; have CI := hide (insertNoS (w := (w.alloc (oE ((i : Int) + 1, u, v, n))).setCell ⟨w.heap.size, 3, none⟩ (.int .u32 kb)) (X := X) ((i : Int) + 1, u, v, kb) (h.below b2) (.inr (.inr ⟨i, a, rfl, hi⟩))); dsimp only at CI; have HB2 := hide b2; generalize X.s = s at *; clear h hu hv h0 hb hk hi hil hlen b1 b2
  go_enter Tryz.func32, Tryz.ntmps32
  go_upto_region 1 with fail
  change Code.wp _ _ _ _ (w.alloc (oE ((i : Int) + 1, u, v, n))); generalize w.alloc (oE ((i : Int) + 1, u, v, n)) = wb at *; generalize hbb : w.heap.size = bb at *
  go_wp2_with fail
  refine (unhide CA).mono ?_
  rintro r w1 ⟨rfl, rfl⟩
  clear CA
  go_upto_region 7 with fail
  generalize w1.setCell ⟨bb, 3, none⟩ (.int .u32 kb) = w2 at *; clear x0 x1 x2 x3 xf; obtain ⟨x0, x1, x2, x3, xf⟩ := box_cells (unhide HBX); dsimp only at x0 x1 x2 x3
  go_wp2_with fail
  refine (unhide CI).mono ?_
  rintro r w3 ⟨rfl, h3⟩
  have H3 : Hid (Below bb w w3) := (unhide HB2).trans (h3.mono (by have := (unhide HB2).size; omega))
  clear CI h3 HB2
  go_wp2_with fail
  go_ret
  exact ⟨rfl, by rw [hbb]; exact unhide H3⟩
set_option maxHeartbeats 1000000 in
set_option maxRecDepth 100000 in
theorem putES {kb : Int} (i : Nat) (u v n : Int) (h : StAt w X) (hi : i < 1024) (hfree : ∀ a, X.ps[i]? ≠ some (a, true)) (hu : X.f u ≠ none) (hv : X.f v ≠ none) (h0 : 0 ≤ n) (hk : kept n = some kb) (hn : X.n ≤ 900000000) (hw0 : 0 ≤ X.wr) (hw1 : X.wr ≤ 1000000000) : Calls Tryz.prog 32 #[.pointer (some ⟨X.s, 0, none⟩), .agg #[.int .i64 ((i : Int) + 1), .int .i64 u, .int .i64 v, .int .u32 n]] w fun r w' => r = .returned (.int .i64 0) ∧ Hid (∃ X', Insd w X i ((i : Int) + 1, u, v, kb) w' X') := by
  have hb : Below w.heap.size w (w.alloc (oE ((i : Int) + 1, u, v, n))) := (Below.refl _ _).alloc (Nat.le_refl _) _; obtain ⟨x0, x1, x2, x3, xf⟩ := box_cells (heap_alloc_new w (oE ((i : Int) + 1, u, v, n))); dsimp only at x0 x1 x2 x3; have CA := hide (admitS u v n (h.below hb) hu hv h0); rw [hk] at CA; simp only [ansK] at CA; have h3 : ¬ (i : Int) + 1 < 1 := by omega
  have h4 : ¬ 1024 < (i : Int) + 1 := by omega
  obtain ⟨b1, b2⟩ := boxed_bits (w := w) (e := (i : Int) + 1) (u := u) (v := v) (n := n) kb; have HBX := hide b1; have CI : Hid (Calls Tryz.prog 76 #[.pointer (some ⟨X.s, 0, none⟩), .agg #[.int .i64 ((i : Int) + 1), .int .i64 u, .int .i64 v, .int .u32 kb]] ((w.alloc (oE ((i : Int) + 1, u, v, n))).setCell ⟨w.heap.size, 3, none⟩ (.int .u32 kb)) fun e w' => e = .returned (.bool true) ∧ Hid (∃ X', Insd w X i ((i : Int) + 1, u, v, kb) w' X')) := by
    refine (insertS (X := X) i u v kb (h.below b2) hi hfree hu hv hn hw0 hw1).mono ?_
    rintro e w' ⟨rfl, g⟩
    obtain ⟨X', g'⟩ := unhide g; exact ⟨rfl, X', g'.first b2⟩
  generalize X.s = s at *; clear h hu hv h0 hb hk hi b1 b2 hfree hn hw0 hw1
  go_enter Tryz.func32, Tryz.ntmps32
  go_upto_region 1 with fail
  change Code.wp _ _ _ _ (w.alloc (oE ((i : Int) + 1, u, v, n))); generalize w.alloc (oE ((i : Int) + 1, u, v, n)) = wb at *; generalize hbb : w.heap.size = bb at *
  go_wp2_with fail
  refine (unhide CA).mono ?_
  rintro r w1 ⟨rfl, rfl⟩
  clear CA
  go_upto_region 7 with fail
  generalize w1.setCell ⟨bb, 3, none⟩ (.int .u32 kb) = w2 at *; clear x0 x1 x2 x3 xf; obtain ⟨x0, x1, x2, x3, xf⟩ := box_cells (unhide HBX); dsimp only at x0 x1 x2 x3
  go_wp2_with fail
  refine (unhide CI).mono ?_
  rintro r w3 ⟨rfl, h3⟩
  clear CI
  go_wp2_with fail
  go_ret
  exact ⟨rfl, unhide h3⟩
end
end

section
open Go.RowKit Go.Maps
section
variable [Inhabited EntI]
def Fresh (w w' : World) (X : Sto) : Prop := Below w.heap.size w w' ∧ StAt w' X ∧ (∀ b, X.L b ≠ none → w.heap.size ≤ b) ∧ X.ps = [] ∧ X.f = (fun _ => none) ∧ X.N = 0 ∧ X.rd = 0 ∧ X.wr = 0 ∧ X.n = 0
set_option maxHeartbeats 1000000 in
set_option maxRecDepth 100000 in
theorem newS (w : World) : Calls Tryz.prog 29 #[] w fun e w' => ∃ s, e = .returned (.pointer (some ⟨s, 0, none⟩)) ∧ Hid (∃ X, X.s = s ∧ Fresh w w' X) := by
  have hmm := @run_makeMap Tryz.prog; have CN := hide (newE w); have HF : Hid (∀ w2 t hp G, Below w.heap.size w w2 ∧ TAtE w2 t hp (.slice none 0 0) 1024 [] [] 0 G ∧ (∀ j, Feet t (.slice none 0 0) G j → w.heap.size ≤ j) → ∃ X, X.s = w2.heap.size + 1 ∧ Fresh w ((w2.alloc (.map #[] 0)).alloc (.cells #[.pointer (some ⟨t, 0, none⟩), .map (some w2.heap.size), .int .i64 0, .int .i64 0] 81)) X) := by
    rintro w2 t hp G ⟨hb, h1, h2⟩
    have hbm : Below w2.heap.size w2 (w2.alloc (.map #[] 0)) := (Below.refl _ _).alloc (Nat.le_refl _) _; have hsm : (w2.alloc (.map #[] 0)).heap.size = w2.heap.size + 1 := by simp
    have hbs : Below (w2.heap.size + 1) (w2.alloc (.map #[] 0)) ((w2.alloc (.map #[] 0)).alloc (.cells #[.pointer (some ⟨t, 0, none⟩), .map (some w2.heap.size), .int .i64 0, .int .i64 0] 81)) := (Below.refl _ _).alloc (by omega) _
    have hsz : ((w2.alloc (.map #[] 0)).alloc (.cells #[.pointer (some ⟨t, 0, none⟩), .map (some w2.heap.size), .int .i64 0, .int .i64 0] 81)).heap.size = w2.heap.size + 2 := by simp
    have hbx : ((w2.alloc (.map #[] 0)).alloc (.cells #[.pointer (some ⟨t, 0, none⟩), .map (some w2.heap.size), .int .i64 0, .int .i64 0] 81)).heap[w2.heap.size + 1]? = some (.cells #[.pointer (some ⟨t, 0, none⟩), .map (some w2.heap.size), .int .i64 0, .int .i64 0] 81 (0, 0)) := by
      have := heap_alloc_new (w2.alloc (.map #[] 0)) (.cells #[.pointer (some ⟨t, 0, none⟩), .map (some w2.heap.size), .int .i64 0, .int .i64 0] 81)
      rwa [hsm] at this
    have hmap : MapFn 3 klN okN ((w2.alloc (.map #[] 0)).alloc (.cells #[.pointer (some ⟨t, 0, none⟩), .map (some w2.heap.size), .int .i64 0, .int .i64 0] 81)) w2.heap.size (fun _ => none) 0 := (mapFn_made w2).kept (hbs.block _ (by omega))
    generalize (w2.alloc (.map #[] 0)).alloc (.cells #[.pointer (some ⟨t, 0, none⟩), .map (some w2.heap.size), .int .i64 0, .int .i64 0] 81) = w4 at *; obtain ⟨L, l1, l2, l3, l4⟩ : ∃ L : Nat → Option Who, (∀ b, Feet t (.slice none 0 0) G b → L b = some .tab) ∧ L w2.heap.size = some .map ∧ L (w2.heap.size + 1) = some .box ∧ ∀ b, L b ≠ none → Feet t (.slice none 0 0) G b ∨ b = w2.heap.size ∨ b = w2.heap.size + 1 := by
      classical
      have hf : ∀ b, Feet t (.slice none 0 0) G b → b < w2.heap.size := fun b hb => h1.lt hb
      refine ⟨fun b => if Feet t (.slice none 0 0) G b then some .tab else if b = w2.heap.size then some .map else if b = w2.heap.size + 1 then some .box else none, fun b hb => if_pos hb, ?_, ?_, fun b hb => ?_⟩
      · dsimp only; rw [if_neg (fun e => by have := hf _ e; omega), if_pos rfl]
      · dsimp only; rw [if_neg (fun e => by have := hf _ e; omega), if_neg (by omega), if_pos rfl]
      · dsimp only at hb
        by_cases e1 : Feet t (.slice none 0 0) G b
        · exact .inl e1
        · rw [if_neg e1] at hb
          by_cases e2 : b = w2.heap.size
          · exact .inr (.inl e2)
          · rw [if_neg e2] at hb
            by_cases e3 : b = w2.heap.size + 1
            · exact .inr (.inr e3)
            · rw [if_neg e3] at hb; exact absurd rfl hb
    have hall : Below w2.heap.size w2 w4 := hbm.trans (hbs.mono (by omega))
    refine ⟨⟨w2.heap.size + 1, t, hp, w2.heap.size, .slice none 0 0, [], [], 0, G, fun _ => none, 0, fun _ => .slice none 0 0, fun _ => .slice none 0 0, 0, 0, L⟩, rfl, hb.trans (hall.mono hb.size), ⟨⟨hbx, h1.kept (fun b hb => hall.block b (h1.lt hb)), hmap, fun k hk => absurd rfl hk, fun k q e => (by cases e), fun k q e => (by cases e), fun k q e => (by cases e), l3, l1, l2, fun k q e => (by cases e), fun k q b e => (by cases e), fun k q b e => (by cases e), fun b hb => ?_⟩, fun i x hx => (by simp at hx), Nat.zero_le _⟩, fun b hb => ?_, rfl, rfl, rfl, rfl, rfl, rfl⟩
    · rcases l4 b hb with e | e | e
      · have := h1.lt e; omega
      · omega
      · omega
    · have := hb; rcases l4 b hb with e | e | e
      · exact h2 b e
      · rw [e]; exact Nat.le_trans (Nat.le_refl _) (by have := ‹Below w.heap.size w w2›.size; omega)
      · rw [e]; have := ‹Below w.heap.size w w2›.size; omega
  go_enter Tryz.func29, Tryz.ntmps29
  go_wp2_with fail
  refine (unhide CN).mono ?_
  rintro e w2 ⟨t, hp, G, rfl, h2⟩
  have HG := hide (unhide HF w2 t hp G (unhide h2)); clear CN HF h2
  go_wp2_with fail
  go_ret
  exact ⟨_, rfl, unhide HG⟩
end
end

end Go.Proofs.YtagibmgbjhemkaaGreat
