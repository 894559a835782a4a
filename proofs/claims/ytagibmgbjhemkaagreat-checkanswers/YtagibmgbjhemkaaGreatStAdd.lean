/- AddVertex. -/
import Derived.Test.YtagibmgbjhemkaaGreatStEasy
namespace Go.Proofs.YtagibmgbjhemkaaGreat
open Go.RowKit Go.Maps

theorem nums_nil {p : EdgeV → Bool} {ps : List (EdgeV × Bool)} (h : ∀ (i : Nat) (x : EdgeV), ps[i]? = some (x, true) → p x = false) : numsOf p ps = [] := by
  rw [List.eq_nil_iff_forall_not_mem]
  intro e he
  obtain ⟨j, x, h1, h2, -⟩ := mem_numsOf.1 he
  rw [h j x h1] at h2; cases h2

section
variable [Inhabited EntI] {w : World} {X : Sto}

/-- One vertex more. -/
def Sto.more (X : Sto) (k : Int) (q : Nat) : Sto := { X with f := putK X.f k (some q), N := X.N + 1, ro := upd X.ro k (.slice none 0 0), ri := upd X.ri k (.slice none 0 0), L := upd X.L q (some (.pair k)) }
def oEnds : Obj := .cells #[.slice none 0 0, .slice none 0 0] 134 (0, 0)

theorem StAt.more (h : StAt w X) (k : Int) (hk0 : 0 ≤ k) (hk1 : k ≤ 2147483647) (hf : X.f k = none) (hN : X.N < 256) :
    ∃ w2, (Instr.mapUpdate 79 (.map (some X.m)) (.int .i64 k) (.pointer (some ⟨w.heap.size, 0, none⟩))).run Tryz.prog (w.alloc oEnds) = .ok () w2 ∧ Step w X w2 (X.more k w.heap.size) := by
  have hb0 : Below w.heap.size w (w.alloc oEnds) := (Below.refl _ _).alloc (Nat.le_refl _) _
  have hm := h.mem
  have hml := hm.lt X.m (by rw [hm.lmap]; simp)
  have hsz : (w.alloc oEnds).heap.size = w.heap.size + 1 := by simp
  obtain ⟨w2, hr, g1, g2⟩ := (hm.below hb0).map.put_ kitN (t := 79) (e := 88) Tryz.underlying79 (by unfold maxLen; omega) k (okN_of hk0 hk1) w.heap.size
  refine ⟨w2, hr, ?_⟩
  rw [hf] at g1
  simp only [Option.isSome_none] at g1
  have t2 := turned_map (S := fun b => b = X.m) g2 rfl
  have s2 := t2.size
  have old : ∀ b, b < w.heap.size → b ≠ X.m → w2.heap[b]? = w.heap[b]? := fun b h1 h2 => (t2.block b (by omega) h2).trans (hb0.block b h1)
  have new : w2.heap[w.heap.size]? = some oEnds := (t2.block _ (by omega) (by omega)).trans (heap_alloc_new _ _)
  have labs : ∀ b l, X.L b = some l → (∀ (_ : l = Who.map), False) → w2.heap[b]? = w.heap[b]? := fun b l e hl => old b (hm.lt b (by rw [e]; simp)) (fun e2 => by
    rw [e2, hm.lmap] at e
    exact hl (Option.some.inj e).symm)
  have Lold : ∀ b l, X.L b = some l → upd X.L w.heap.size (some (Who.pair k)) b = some l := fun b l e => by
    rw [upd_ne _ _ (fun e2 => by have := hm.lt b (by rw [e]; simp); omega)]; exact e
  have fold : ∀ j, j ≠ k → putK X.f k (some w.heap.size) j = X.f j := fun j hj => by simp [putK, hj]
  have fnew : putK X.f k (some w.heap.size) k = some w.heap.size := by simp [putK]
  have hfq : ∀ j q, putK X.f k (some w.heap.size) j = some q → (j = k ∧ q = w.heap.size) ∨ (j ≠ k ∧ X.f j = some q) := fun j q e => by
    by_cases hj : j = k
    · subst hj; rw [fnew] at e; exact .inl ⟨rfl, (Option.some.inj e).symm⟩
    · rw [fold j hj] at e; exact .inr ⟨hj, e⟩
  have no : outs X.ps k = [] ∧ inns X.ps k = [] := by
    constructor
    · exact nums_nil (fun i x hx => decide_eq_false (fun e => (h.edge i x hx).2.1 (by rw [e]; exact hf)))
    · exact nums_nil (fun i x hx => decide_eq_false (fun e => (h.edge i x hx).2.2 (by rw [e]; exact hf)))
  refine ⟨⟨⟨(labs _ _ hm.lbox (by simp)).trans hm.box, hm.tab.kept (fun b hb => labs _ _ (hm.ltab b hb) (by simp)), g1, fun j hj => ?_, fun j q e => ?_, fun j q e => ?_, fun j q e => ?_, Lold _ _ hm.lbox, fun b hb => Lold _ _ (hm.ltab b hb), Lold _ _ hm.lmap, fun j q e => ?_, fun j q b e hb => ?_, fun j q b e hb => ?_, fun b hb => ?_⟩, fun i x hx => ?_, by show X.N + 1 ≤ 256; omega⟩, rfl, ?_, fun b hb => ?_⟩
  · by_cases hjk : j = k
    · subst hjk; exact ⟨hk0, hk1⟩
    · exact hm.keys j (by rw [← fold j hjk]; exact hj)
  · rcases hfq j q e with ⟨rfl, rfl⟩ | ⟨hj, e⟩
    · show w2.heap[w.heap.size]? = some (.cells #[upd X.ro j _ j, upd X.ri j _ j] _ _)
      rw [upd_self, upd_self]; exact new
    · show w2.heap[q]? = some (.cells #[upd X.ro k _ j, upd X.ri k _ j] _ _)
      rw [upd_ne _ _ hj, upd_ne _ _ hj]; exact (labs _ _ (hm.lpair j q e) (by simp)).trans (hm.pair j q e)
  · rcases hfq j q e with ⟨rfl, rfl⟩ | ⟨hj, e⟩
    · show NRow w2 (upd X.ro j _ j) (outs X.ps j)
      rw [upd_self, no.1]; exact ⟨rfl, .inl ⟨rfl, rfl⟩⟩
    · show NRow w2 (upd X.ro k _ j) (outs X.ps j)
      rw [upd_ne _ _ hj]; exact nrow_kept (hm.out j q e) (fun b hb => labs _ _ (hm.lout j q b e hb) (by simp))
  · rcases hfq j q e with ⟨rfl, rfl⟩ | ⟨hj, e⟩
    · show NRow w2 (upd X.ri j _ j) (inns X.ps j)
      rw [upd_self, no.2]; exact ⟨rfl, .inl ⟨rfl, rfl⟩⟩
    · show NRow w2 (upd X.ri k _ j) (inns X.ps j)
      rw [upd_ne _ _ hj]; exact nrow_kept (hm.inn j q e) (fun b hb => labs _ _ (hm.linn j q b e hb) (by simp))
  · rcases hfq j q e with ⟨rfl, rfl⟩ | ⟨hj, e⟩
    · exact upd_self _ _ _
    · exact Lold _ _ (hm.lpair j q e)
  · rcases hfq j q e with ⟨rfl, rfl⟩ | ⟨hj, e⟩
    · replace hb : (upd X.ro j (.slice none 0 0) j).ownBlock = some b := hb
      rw [upd_self] at hb; simp [Value.ownBlock] at hb
    · replace hb : (upd X.ro k (.slice none 0 0) j).ownBlock = some b := hb
      rw [upd_ne _ _ hj] at hb; exact Lold _ _ (hm.lout j q b e hb)
  · rcases hfq j q e with ⟨rfl, rfl⟩ | ⟨hj, e⟩
    · replace hb : (upd X.ri j (.slice none 0 0) j).ownBlock = some b := hb
      rw [upd_self] at hb; simp [Value.ownBlock] at hb
    · replace hb : (upd X.ri k (.slice none 0 0) j).ownBlock = some b := hb
      rw [upd_ne _ _ hj] at hb; exact Lold _ _ (hm.linn j q b e hb)
  · by_cases e : b = w.heap.size
    · omega
    · replace hb : upd X.L w.heap.size _ b ≠ none := hb
      rw [upd_ne _ _ e] at hb
      have := hm.lt b hb; omega
  · obtain ⟨a1, a2, a3⟩ := h.edge i x hx
    refine ⟨a1, ?_, ?_⟩
    · show putK X.f k _ _ ≠ none
      rw [fold _ (fun e => a2 (by rw [e]; exact hf))]; exact a2
    · show putK X.f k _ _ ≠ none
      rw [fold _ (fun e => a3 (by rw [e]; exact hf))]; exact a3
  · have t0 : Turned (fun b => X.L b ≠ none) w (w.alloc oEnds) := turned_of_below hb0
    exact t0.then_ t2 (fun b _ e => by rw [e, hm.lmap]; simp)
  · replace hb : upd X.L w.heap.size _ b ≠ none := hb
    by_cases e : b = w.heap.size
    · exact .inr (by omega)
    · rw [upd_ne _ _ e] at hb; exact .inl hb

set_option maxHeartbeats 1000000 in
set_option maxRecDepth 100000 in
theorem addVBad (k : Int) (_h : StAt w X) (hk : k < 0 ∨ 2147483647 < k) : Calls Tryz.prog 31 #[.pointer (some ⟨X.s, 0, none⟩), .int .i64 k] w fun e w' => e = .returned (.int .i64 4) ∧ w' = w := by
  by_cases h1 : k < 0
  · clear hk
    go_enter Tryz.func31, Tryz.ntmps31
    go_wp2_with fail
    go_ret
    exact ⟨rfl, rfl⟩
  · have h2 : 2147483647 < k := hk.resolve_left h1
    clear hk
    go_enter Tryz.func31, Tryz.ntmps31
    go_wp2_with fail
    go_ret
    exact ⟨rfl, rfl⟩

set_option maxHeartbeats 1000000 in
set_option maxRecDepth 100000 in
theorem addVTwice (k : Int) (h : StAt w X) (hf : X.f k ≠ none) : Calls Tryz.prog 31 #[.pointer (some ⟨X.s, 0, none⟩), .int .i64 k] w fun e w' => e = .returned (.int .i64 2) ∧ w' = w := by
  obtain ⟨h0, h1⟩ := h.mem.keys k hf
  have h2 : ¬ k < 0 := by omega
  have h3 : ¬ 2147483647 < k := by omega
  have CH := hide (hasS k h (okN_of h0 h1))
  have e1 : (X.f k).isSome = true := by cases hh : X.f k with | none => exact absurd hh hf | some q => rfl
  rw [e1] at CH
  clear h hf h0 h1 e1
  go_enter Tryz.func31, Tryz.ntmps31
  go_wp2_with fail
  refine (unhide CH).mono ?_
  rintro e w1 ⟨rfl, rfl⟩
  clear CH
  go_wp2_with fail
  go_ret
  exact ⟨rfl, rfl⟩

set_option maxHeartbeats 1000000 in
set_option maxRecDepth 100000 in
theorem addVMany (k : Int) (h : StAt w X) (h0 : 0 ≤ k) (h1 : k ≤ 2147483647) (hf : X.f k = none) (hN : X.N = 256) : Calls Tryz.prog 31 #[.pointer (some ⟨X.s, 0, none⟩), .int .i64 k] w fun e w' => e = .returned (.int .i64 8) ∧ w' = w := by
  have h2 : ¬ k < 0 := by omega
  have h3 : ¬ 2147483647 < k := by omega
  have CH := hide (hasS k h (okN_of h0 h1))
  rw [hf] at CH
  simp only [Option.isSome_none] at CH
  obtain ⟨-, c1, -, -, -⟩ := h.cells
  have hl := fun ty => h.mem.map.len_ (t := 79) (e := 88) Tryz.underlying79 ty
  rw [hN] at hl
  clear h hf h0 h1 hN
  go_enter Tryz.func31, Tryz.ntmps31
  go_wp2_with fail
  refine (unhide CH).mono ?_
  rintro e w1 ⟨rfl, rfl⟩
  clear CH
  go_wp2_with fail
  go_ret
  exact ⟨rfl, rfl⟩

set_option maxHeartbeats 1000000 in
set_option maxRecDepth 100000 in
theorem addVS (k : Int) (h : StAt w X) (h0 : 0 ≤ k) (h1 : k ≤ 2147483647) (hf : X.f k = none) (hN : X.N < 256) : Calls Tryz.prog 31 #[.pointer (some ⟨X.s, 0, none⟩), .int .i64 k] w fun e w' => e = .returned (.int .i64 0) ∧ Hid (Step w X w' (X.more k w.heap.size)) := by
  have h2 : ¬ k < 0 := by omega
  have h3 : ¬ 2147483647 < k := by omega
  have CH := hide (hasS k h (okN_of h0 h1))
  rw [hf] at CH
  simp only [Option.isSome_none] at CH
  obtain ⟨-, c1, -, -, -⟩ := h.cells
  have hl := fun ty => h.mem.map.len_ (t := 79) (e := 88) Tryz.underlying79 ty
  have h4 : ¬ (256 : Int) ≤ (X.N : Int) := by omega
  have c1' : (w.alloc oEnds).cell? ⟨X.s, 1, none⟩ = some (.map (some X.m)) := (cell_of_heap (heap_alloc_old w oEnds (h.mem.lt X.s (by rw [h.mem.lbox]; simp)))).trans c1
  obtain ⟨w2, hr, hS⟩ := h.more k h0 h1 hf hN
  have HS := hide hS
  generalize X.N = N at *
  generalize X.s = s at *
  generalize X.m = m at *
  clear h hf h0 h1 hN hS
  unfold oEnds at hr c1'
  go_enter Tryz.func31, Tryz.ntmps31
  go_wp2_with fail
  refine (unhide CH).mono ?_
  rintro e w1 ⟨rfl, rfl⟩
  clear CH
  go_wp2_with fail
  go_ret
  exact ⟨rfl, unhide HS⟩
end
end Go.Proofs.YtagibmgbjhemkaaGreat
