/- What may be turned in a store's memory: the table, a row, the gauge. -/
import Derived.Test.YtagibmgbjhemkaaGreatStEasy
namespace Go.Proofs.YtagibmgbjhemkaaGreat
open Go.RowKit Go.Maps

section
variable [Inhabited EntI] {w w' : World} {X : Sto} {lo li : Int → List Int}

theorem StMid.tabTurn {ps' : List (EdgeV × Bool)} (h : StMid w X lo li) (ht : ThenE w w' X.t X.hp X.v 1024 ps' X.n X.G) :
    ∃ v' ms' n' G' L', n' ≤ X.n + 65536 ∧ StMid w' { X with v := v', ms := ms', n := n', G := G', ps := ps', L := L' } lo li ∧ Foots w X.L w' L' := by
  obtain ⟨v', ms', n', G', h1, h2, h3, h4⟩ := ht
  obtain ⟨L', l1, l2, l3⟩ : ∃ L' : Nat → Option Who, (∀ b, Feet X.t v' G' b → L' b = some .tab) ∧ (∀ b l, X.L b = some l → L' b = some l) ∧ ∀ b, L' b ≠ none → X.L b ≠ none ∨ Feet X.t v' G' b := by
    classical
    refine ⟨fun b => if Feet X.t v' G' b then some .tab else X.L b, fun b hb => if_pos hb, fun b l e => ?_, fun b hb => ?_⟩
    · by_cases hb : Feet X.t v' G' b
      · simp only [if_pos hb]
        rcases h4 b hb with e2 | e2
        · rw [← e, h.ltab b e2]
        · have := h.lt b (by rw [e]; simp); omega
      · simp only [if_neg hb]; exact e
    · by_cases hf : Feet X.t v' G' b
      · exact .inr hf
      · simp only [if_neg hf] at hb; exact .inl hb
  have labs : ∀ b l, X.L b = some l → l ≠ .tab → w'.heap[b]? = w.heap[b]? := fun b l e hl => h3.block b (h.lt b (by rw [e]; simp)) (fun e2 => by
    have := h.ltab b e2
    rw [e] at this
    exact hl (Option.some.inj this))
  refine ⟨v', ms', n', G', L', h1, ⟨(labs _ _ h.lbox (by simp)).trans h.box, h2, h.map.kept (labs _ _ h.lmap (by simp)), h.keys, fun k q e => (labs _ _ (h.lpair k q e) (by simp)).trans (h.pair k q e),
    fun k q e => nrow_kept (h.out k q e) (fun b hb => labs _ _ (h.lout k q b e hb) (by simp)), fun k q e => nrow_kept (h.inn k q e) (fun b hb => labs _ _ (h.linn k q b e hb) (by simp)), l2 _ _ h.lbox, l1, l2 _ _ h.lmap, fun k q e => l2 _ _ (h.lpair k q e), fun k q b e hb => l2 _ _ (h.lout k q b e hb), fun k q b e hb => l2 _ _ (h.linn k q b e hb), fun b hb => ?_⟩, h3.mono (fun b _ e => by rw [h.ltab b e]; simp), fun b hb => ?_⟩
  · rcases l3 b hb with e | e
    · exact Nat.lt_of_lt_of_le (h.lt b e) h3.size
    · exact h2.lt e
  · rcases l3 b hb with e | e
    · exact .inl e
    · rcases h4 b e with e2 | e2
      · left; rw [h.ltab b e2]; simp
      · exact .inr e2

/-- The row of what leaves k is another one. -/
def Sto.outs (X : Sto) (k : Int) (v' : Value) : Sto := { X with ro := upd X.ro k v', L := fun b => if v'.ownBlock = some b then some (.out k) else X.L b }
theorem StMid.outTurn {k : Int} {q : Nat} {v' : Value} {ks' : List Int} (h : StMid w X lo li) (hk : X.f k = some q) (hr : Rows1 w (X.ro k) ks' v' w') :
    w'.cell? ⟨q, 0, none⟩ = some (X.ro k) ∧ (∀ o, w'.frozen? ⟨q, o, none⟩ = false) ∧ StMid (w'.setCell ⟨q, 0, none⟩ v') (X.outs k v') (upd lo k ks') (li) ∧ Foots w X.L (w'.setCell ⟨q, 0, none⟩ v') (X.outs k v').L := by
  obtain ⟨r1, r2, r3⟩ := hr
  have rs := r2.size
  have labs : ∀ b l, X.L b = some l → l ≠ .out k → (if v'.ownBlock = some b then some (.out k) else X.L b) = some l ∧ w'.heap[b]? = w.heap[b]? := fun b l e hl => by
    have hb : (X.ro k).ownBlock ≠ some b := fun e2 => by
      have := h.lout k q b hk e2
      rw [e] at this
      exact hl (Option.some.inj this)
    refine ⟨?_, r2.block b (h.lt b (by rw [e]; simp)) hb⟩
    rw [if_neg (fun e2 => ?_)]
    · exact e
    · rcases r3 b e2 with e3 | e3
      · exact hb e3
      · have := h.lt b (by rw [e]; simp); omega
  have hq := labs q _ (h.lpair k q hk) (by simp)
  have boxq : w'.heap[q]? = some (.cells #[X.ro k, X.ri k] 134 (0, 0)) := hq.2.trans (h.pair k q hk)
  have hql : q < w'.heap.size := (Array.getElem?_eq_some_iff.1 boxq).1
  have sz : (w'.setCell ⟨q, 0, none⟩ v').heap.size = w'.heap.size := by simp
  have lab2 : ∀ b l, X.L b = some l → l ≠ .out k → l ≠ .pair k → (if v'.ownBlock = some b then some (.out k) else X.L b) = some l ∧ (w'.setCell ⟨q, 0, none⟩ v').heap[b]? = w.heap[b]? := fun b l e hl hp => by
    obtain ⟨e1, e2⟩ := labs b l e hl
    refine ⟨e1, ?_⟩
    rw [heap_setCell_other _ _ _ _ (fun e3 => ?_)]
    · exact e2
    · subst e3
      rw [h.lpair k b hk] at e
      exact hp (Option.some.inj e).symm
  have own : ∀ b, v'.ownBlock = some b → b ≠ q := fun b e e2 => by
    have := hq.1
    subst e2
    rw [if_pos e] at this
    cases this
  refine ⟨by rw [cell_of_row w' q _ _ _ _ boxq]; rfl, fun o => frozen_of_row w' q o _ _ boxq, ⟨(lab2 _ _ h.lbox (by simp) (by simp)).2.trans h.box, h.tab.kept (fun b hb => (lab2 _ _ (h.ltab b hb) (by simp) (by simp)).2), h.map.kept (lab2 _ _ h.lmap (by simp) (by simp)).2, h.keys, fun j p e => ?_, fun j p e => ?_, fun j p e => ?_, (lab2 _ _ h.lbox (by simp) (by simp)).1, fun b hb => (lab2 _ _ (h.ltab b hb) (by simp) (by simp)).1, (lab2 _ _ h.lmap (by simp) (by simp)).1, fun j p e => (labs p _ (h.lpair j p e) (by simp)).1, fun j p b e hb => ?_, fun j p b e hb => ?_, fun b hb => ?_⟩, ?_, fun b hb => ?_⟩
  · show (w'.setCell ⟨q, 0, none⟩ v').heap[p]? = some (.cells #[upd X.ro k v' j, X.ri j] _ _)
    by_cases hj : j = k
    · subst hj
      obtain rfl : q = p := Option.some.inj (hk.symm.trans e)
      rw [upd_self, heap_setCell_same _ _ _ _ _ _ boxq]; rfl
    · rw [upd_ne _ _ hj]
      exact (lab2 p _ (h.lpair j p e) (by simp) (by simpa using hj)).2.trans (h.pair j p e)
  · show NRow _ (upd X.ro k v' j) (upd lo k ks' j)
    by_cases hj : j = k
    · subst hj
      rw [upd_self, upd_self]
      exact nrow_kept r1 (fun b hb => heap_setCell_other _ _ _ _ (own b hb))
    · rw [upd_ne _ _ hj, upd_ne _ _ hj]
      exact nrow_kept (h.out j p e) (fun b hb => (lab2 b _ (h.lout j p b e hb) (by simpa using hj) (by simp)).2)
  · exact nrow_kept (h.inn j p e) (fun b hb => (lab2 b _ (h.linn j p b e hb) (by simp) (by simp)).2)
  · replace hb : (upd X.ro k v' j).ownBlock = some b := hb
    show (if v'.ownBlock = some b then some (Who.out k) else X.L b) = _
    by_cases hj : j = k
    · subst hj
      rw [upd_self] at hb
      rw [if_pos hb]
    · rw [upd_ne _ _ hj] at hb
      exact (labs b _ (h.lout j p b e hb) (by simpa using hj)).1
  · exact (labs b _ (h.linn j p b e hb) (by simp)).1
  · replace hb : (if v'.ownBlock = some b then some (.out k) else X.L b) ≠ none := hb
    rw [sz]
    by_cases e : v'.ownBlock = some b
    · exact (r1.lt b e).2
    · rw [if_neg e] at hb
      exact Nat.lt_of_lt_of_le (h.lt b hb) rs
  · have t1 : Turned (fun b => X.L b ≠ none) w w' := r2.mono (fun b _ e => by rw [h.lout k q b hk e]; simp)
    exact t1.trans (turned_setCell _ _ _ (by show X.L q ≠ none; rw [h.lpair k q hk]; simp))
  · replace hb : (if v'.ownBlock = some b then some (.out k) else X.L b) ≠ none := hb
    by_cases e : v'.ownBlock = some b
    · rcases r3 b e with e2 | e2
      · left; rw [h.lout k q b hk e2]; simp
      · exact .inr e2
    · rw [if_neg e] at hb; exact .inl hb

/-- The row of what enters k is another one. -/
def Sto.inns (X : Sto) (k : Int) (v' : Value) : Sto := { X with ri := upd X.ri k v', L := fun b => if v'.ownBlock = some b then some (.inn k) else X.L b }
theorem StMid.innTurn {k : Int} {q : Nat} {v' : Value} {ks' : List Int} (h : StMid w X lo li) (hk : X.f k = some q) (hr : Rows1 w (X.ri k) ks' v' w') :
    w'.cell? ⟨q, 1, none⟩ = some (X.ri k) ∧ (∀ o, w'.frozen? ⟨q, o, none⟩ = false) ∧ StMid (w'.setCell ⟨q, 1, none⟩ v') (X.inns k v') (lo) (upd li k ks') ∧ Foots w X.L (w'.setCell ⟨q, 1, none⟩ v') (X.inns k v').L := by
  obtain ⟨r1, r2, r3⟩ := hr
  have rs := r2.size
  have labs : ∀ b l, X.L b = some l → l ≠ .inn k → (if v'.ownBlock = some b then some (.inn k) else X.L b) = some l ∧ w'.heap[b]? = w.heap[b]? := fun b l e hl => by
    have hb : (X.ri k).ownBlock ≠ some b := fun e2 => by
      have := h.linn k q b hk e2
      rw [e] at this
      exact hl (Option.some.inj this)
    refine ⟨?_, r2.block b (h.lt b (by rw [e]; simp)) hb⟩
    rw [if_neg (fun e2 => ?_)]
    · exact e
    · rcases r3 b e2 with e3 | e3
      · exact hb e3
      · have := h.lt b (by rw [e]; simp); omega
  have hq := labs q _ (h.lpair k q hk) (by simp)
  have boxq : w'.heap[q]? = some (.cells #[X.ro k, X.ri k] 134 (0, 0)) := hq.2.trans (h.pair k q hk)
  have hql : q < w'.heap.size := (Array.getElem?_eq_some_iff.1 boxq).1
  have sz : (w'.setCell ⟨q, 1, none⟩ v').heap.size = w'.heap.size := by simp
  have lab2 : ∀ b l, X.L b = some l → l ≠ .inn k → l ≠ .pair k → (if v'.ownBlock = some b then some (.inn k) else X.L b) = some l ∧ (w'.setCell ⟨q, 1, none⟩ v').heap[b]? = w.heap[b]? := fun b l e hl hp => by
    obtain ⟨e1, e2⟩ := labs b l e hl
    refine ⟨e1, ?_⟩
    rw [heap_setCell_other _ _ _ _ (fun e3 => ?_)]
    · exact e2
    · subst e3
      rw [h.lpair k b hk] at e
      exact hp (Option.some.inj e).symm
  have own : ∀ b, v'.ownBlock = some b → b ≠ q := fun b e e2 => by
    have := hq.1
    subst e2
    rw [if_pos e] at this
    cases this
  refine ⟨by rw [cell_of_row w' q _ _ _ _ boxq]; rfl, fun o => frozen_of_row w' q o _ _ boxq, ⟨(lab2 _ _ h.lbox (by simp) (by simp)).2.trans h.box, h.tab.kept (fun b hb => (lab2 _ _ (h.ltab b hb) (by simp) (by simp)).2), h.map.kept (lab2 _ _ h.lmap (by simp) (by simp)).2, h.keys, fun j p e => ?_, fun j p e => ?_, fun j p e => ?_, (lab2 _ _ h.lbox (by simp) (by simp)).1, fun b hb => (lab2 _ _ (h.ltab b hb) (by simp) (by simp)).1, (lab2 _ _ h.lmap (by simp) (by simp)).1, fun j p e => (labs p _ (h.lpair j p e) (by simp)).1, fun j p b e hb => ?_, fun j p b e hb => ?_, fun b hb => ?_⟩, ?_, fun b hb => ?_⟩
  · show (w'.setCell ⟨q, 1, none⟩ v').heap[p]? = some (.cells #[X.ro j, upd X.ri k v' j] _ _)
    by_cases hj : j = k
    · subst hj
      obtain rfl : q = p := Option.some.inj (hk.symm.trans e)
      rw [upd_self, heap_setCell_same _ _ _ _ _ _ boxq]; rfl
    · rw [upd_ne _ _ hj]
      exact (lab2 p _ (h.lpair j p e) (by simp) (by simpa using hj)).2.trans (h.pair j p e)
  · exact nrow_kept (h.out j p e) (fun b hb => (lab2 b _ (h.lout j p b e hb) (by simp) (by simp)).2)
  · show NRow _ (upd X.ri k v' j) (upd li k ks' j)
    by_cases hj : j = k
    · subst hj
      rw [upd_self, upd_self]
      exact nrow_kept r1 (fun b hb => heap_setCell_other _ _ _ _ (own b hb))
    · rw [upd_ne _ _ hj, upd_ne _ _ hj]
      exact nrow_kept (h.inn j p e) (fun b hb => (lab2 b _ (h.linn j p b e hb) (by simpa using hj) (by simp)).2)
  · exact (labs b _ (h.lout j p b e hb) (by simp)).1
  · replace hb : (upd X.ri k v' j).ownBlock = some b := hb
    show (if v'.ownBlock = some b then some (Who.inn k) else X.L b) = _
    by_cases hj : j = k
    · subst hj
      rw [upd_self] at hb
      rw [if_pos hb]
    · rw [upd_ne _ _ hj] at hb
      exact (labs b _ (h.linn j p b e hb) (by simpa using hj)).1
  · replace hb : (if v'.ownBlock = some b then some (.inn k) else X.L b) ≠ none := hb
    rw [sz]
    by_cases e : v'.ownBlock = some b
    · exact (r1.lt b e).2
    · rw [if_neg e] at hb
      exact Nat.lt_of_lt_of_le (h.lt b hb) rs
  · have t1 : Turned (fun b => X.L b ≠ none) w w' := r2.mono (fun b _ e => by rw [h.linn k q b hk e]; simp)
    exact t1.trans (turned_setCell _ _ _ (by show X.L q ≠ none; rw [h.lpair k q hk]; simp))
  · replace hb : (if v'.ownBlock = some b then some (.inn k) else X.L b) ≠ none := hb
    by_cases e : v'.ownBlock = some b
    · rcases r3 b e with e2 | e2
      · left; rw [h.linn k q b hk e2]; simp
      · exact .inr e2
    · rw [if_neg e] at hb; exact .inl hb

theorem StMid.boxTurn {i : Nat} {u : Value} {X' : Sto} (h : StMid w X lo li) (hX : X' = { X with rd := X'.rd, wr := X'.wr }) (hb : (w.setCell ⟨X.s, i, none⟩ u).heap[X.s]? = some (.cells #[.pointer (some ⟨X.t, 0, none⟩), .map (some X.m), .int .i64 X'.rd, .int .i64 X'.wr] 81 (0, 0))) :
    StMid (w.setCell ⟨X.s, i, none⟩ u) X' lo li ∧ Foots w X.L (w.setCell ⟨X.s, i, none⟩ u) X'.L := by
  rw [hX]
  have labs : ∀ b l, X.L b = some l → l ≠ .box → (w.setCell ⟨X.s, i, none⟩ u).heap[b]? = w.heap[b]? := fun b l e hl => heap_setCell_other _ _ _ _ (fun e2 => by
    subst e2
    rw [h.lbox] at e
    exact hl (Option.some.inj e).symm)
  refine ⟨⟨hb, h.tab.kept (fun b hb => labs _ _ (h.ltab b hb) (by simp)), h.map.kept (labs _ _ h.lmap (by simp)), h.keys, fun k q e => (labs _ _ (h.lpair k q e) (by simp)).trans (h.pair k q e),
    fun k q e => nrow_kept (h.out k q e) (fun b hb => labs _ _ (h.lout k q b e hb) (by simp)), fun k q e => nrow_kept (h.inn k q e) (fun b hb => labs _ _ (h.linn k q b e hb) (by simp)), h.lbox, h.ltab, h.lmap, h.lpair, h.lout, h.linn, fun b hb => by simpa using h.lt b hb⟩, turned_setCell _ _ _ (by show X.L X.s ≠ none; rw [h.lbox]; simp), fun b hb => .inl hb⟩
theorem StMid.wrTurn (h : StMid w X lo li) (y : Int) : StMid (w.setCell ⟨X.s, 3, none⟩ (.int .i64 y)) { X with wr := y } lo li ∧ Foots w X.L (w.setCell ⟨X.s, 3, none⟩ (.int .i64 y)) X.L :=
  h.boxTurn (X' := { X with wr := y }) rfl (by rw [heap_setCell_same _ _ _ _ _ _ h.box]; rfl)
theorem StMid.rdTurn (h : StMid w X lo li) (y : Int) : StMid (w.setCell ⟨X.s, 2, none⟩ (.int .i64 y)) { X with rd := y } lo li ∧ Foots w X.L (w.setCell ⟨X.s, 2, none⟩ (.int .i64 y)) X.L :=
  h.boxTurn (X' := { X with rd := y }) rfl (by rw [heap_setCell_same _ _ _ _ _ _ h.box]; rfl)
end
end Go.Proofs.YtagibmgbjhemkaaGreat
