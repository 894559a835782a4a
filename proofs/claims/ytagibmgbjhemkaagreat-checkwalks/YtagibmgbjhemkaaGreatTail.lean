/- A region that draws its order, whose last operations write what was loaded: a condition S on the world holds up to them, and they wait for all that is loaded. -/
import Derived.Test.YtagibmgbjhemkaaGreatStEasy
import Derived.Test.YtagibmgbjhemkaaGreatAtI
import Derived.Deep.RegionHeld3
namespace Go.Proofs.YtagibmgbjhemkaaGreat

section
open Go.RowKit Go.Maps
section
variable [Inhabited EntI] {w w' : World} {X : Sto} {lo li : Int → List Int}
theorem StMid.tabTurn {ps' : List (EdgeV × Bool)} (h : StMid w X lo li) (ht : ThenE w w' X.t X.hp X.v 1024 ps' X.n X.G) :
    ∃ v' ms' n' G' L', n' ≤ X.n + 65536 ∧ StMid w' { X with v := v', ms := ms', n := n', G := G', ps := ps', L := L' } lo li ∧ Foots w X.L w' L' := by
  obtain ⟨v', ms', n', G', h1, h2, h3, h4⟩ := ht; obtain ⟨L', l1, l2, l3⟩ : ∃ L' : Nat → Option Who, (∀ b, Feet X.t v' G' b → L' b = some .tab) ∧ (∀ b l, X.L b = some l → L' b = some l) ∧ ∀ b, L' b ≠ none → X.L b ≠ none ∨ Feet X.t v' G' b := by
    classical
    refine ⟨fun b => if Feet X.t v' G' b then some .tab else X.L b, fun b hb => if_pos hb, fun b l e => ?_, fun b hb => ?_⟩
    · by_cases hb : Feet X.t v' G' b
      · simp only [if_pos hb]; rcases h4 b hb with e2 | e2
        · rw [← e, h.ltab b e2]
        · have := h.lt b (by rw [e]; simp); omega
      · simp only [if_neg hb]; exact e
    · by_cases hf : Feet X.t v' G' b
      · exact .inr hf
      · simp only [if_neg hf] at hb; exact .inl hb
  have labs : ∀ b l, X.L b = some l → l ≠ .tab → w'.heap[b]? = w.heap[b]? := fun b l e hl => h3.block b (h.lt b (by rw [e]; simp)) (fun e2 => by
    have := h.ltab b e2; rw [e] at this; exact hl (Option.some.inj this))
  refine ⟨v', ms', n', G', L', h1, ⟨(labs _ _ h.lbox (by simp)).trans h.box, h2, h.map.kept (labs _ _ h.lmap (by simp)), h.keys, fun k q e => (labs _ _ (h.lpair k q e) (by simp)).trans (h.pair k q e),
    fun k q e => nrow_kept (h.out k q e) (fun b hb => labs _ _ (h.lout k q b e hb) (by simp)), fun k q e => nrow_kept (h.inn k q e) (fun b hb => labs _ _ (h.linn k q b e hb) (by simp)), l2 _ _ h.lbox, l1, l2 _ _ h.lmap, fun k q e => l2 _ _ (h.lpair k q e), fun k q b e hb => l2 _ _ (h.lout k q b e hb), fun k q b e hb => l2 _ _ (h.linn k q b e hb), fun b hb => ?_⟩, h3.mono (fun b _ e => by rw [h.ltab b e]; simp), fun b hb => ?_⟩
  · rcases l3 b hb with e | e
    · exact Nat.lt_of_lt_of_le (h.lt b e) h3.size
    · exact h2.lt e
  · rcases l3 b hb with e | e
    · exact .inl e
    · rcases h4 b e with e2 | e2
      · left; rw [h.ltab b e2]; simp
      · exact .inr e2
def Sto.outs (X : Sto) (k : Int) (v' : Value) : Sto := { X with ro := upd X.ro k v', L := fun b => if v'.ownBlock = some b then some (.out k) else X.L b }
theorem StMid.outTurn {k : Int} {q : Nat} {v' : Value} {ks' : List Int} (h : StMid w X lo li) (hk : X.f k = some q) (hr : Rows1 w (X.ro k) ks' v' w') :
    w'.cell? ⟨q, 0, none⟩ = some (X.ro k) ∧ (∀ o, w'.frozen? ⟨q, o, none⟩ = false) ∧ StMid (w'.setCell ⟨q, 0, none⟩ v') (X.outs k v') (upd lo k ks') (li) ∧ Foots w X.L (w'.setCell ⟨q, 0, none⟩ v') (X.outs k v').L := by
  obtain ⟨r1, r2, r3⟩ := hr; have rs := r2.size; have labs : ∀ b l, X.L b = some l → l ≠ .out k → (if v'.ownBlock = some b then some (.out k) else X.L b) = some l ∧ w'.heap[b]? = w.heap[b]? := fun b l e hl => by
    have hb : (X.ro k).ownBlock ≠ some b := fun e2 => by
      have := h.lout k q b hk e2; rw [e] at this; exact hl (Option.some.inj this)
    refine ⟨?_, r2.block b (h.lt b (by rw [e]; simp)) hb⟩
    rw [if_neg (fun e2 => ?_)]
    · exact e
    · rcases r3 b e2 with e3 | e3
      · exact hb e3
      · have := h.lt b (by rw [e]; simp); omega
  have hq := labs q _ (h.lpair k q hk) (by simp)
  have boxq : w'.heap[q]? = some (.cells #[X.ro k, X.ri k] 134 (0, 0)) := hq.2.trans (h.pair k q hk); have hql : q < w'.heap.size := (Array.getElem?_eq_some_iff.1 boxq).1; have sz : (w'.setCell ⟨q, 0, none⟩ v').heap.size = w'.heap.size := by simp
  have lab2 : ∀ b l, X.L b = some l → l ≠ .out k → l ≠ .pair k → (if v'.ownBlock = some b then some (.out k) else X.L b) = some l ∧ (w'.setCell ⟨q, 0, none⟩ v').heap[b]? = w.heap[b]? := fun b l e hl hp => by
    obtain ⟨e1, e2⟩ := labs b l e hl; refine ⟨e1, ?_⟩; rw [heap_setCell_other _ _ _ _ (fun e3 => ?_)]
    · exact e2
    · subst e3; rw [h.lpair k b hk] at e; exact hp (Option.some.inj e).symm
  have own : ∀ b, v'.ownBlock = some b → b ≠ q := fun b e e2 => by
    have := hq.1; subst e2; rw [if_pos e] at this
    cases this
  refine ⟨by rw [cell_of_row w' q _ _ _ _ boxq]; rfl, fun o => frozen_of_row w' q o _ _ boxq, ⟨(lab2 _ _ h.lbox (by simp) (by simp)).2.trans h.box, h.tab.kept (fun b hb => (lab2 _ _ (h.ltab b hb) (by simp) (by simp)).2), h.map.kept (lab2 _ _ h.lmap (by simp) (by simp)).2, h.keys, fun j p e => ?_, fun j p e => ?_, fun j p e => ?_, (lab2 _ _ h.lbox (by simp) (by simp)).1, fun b hb => (lab2 _ _ (h.ltab b hb) (by simp) (by simp)).1, (lab2 _ _ h.lmap (by simp) (by simp)).1, fun j p e => (labs p _ (h.lpair j p e) (by simp)).1, fun j p b e hb => ?_, fun j p b e hb => ?_, fun b hb => ?_⟩, ?_, fun b hb => ?_⟩
  · show (w'.setCell ⟨q, 0, none⟩ v').heap[p]? = some (.cells #[upd X.ro k v' j, X.ri j] _ _)
    by_cases hj : j = k
    · subst hj; obtain rfl : q = p := Option.some.inj (hk.symm.trans e); rw [upd_self, heap_setCell_same _ _ _ _ _ _ boxq]; rfl
    · rw [upd_ne _ _ hj]; exact (lab2 p _ (h.lpair j p e) (by simp) (by simpa using hj)).2.trans (h.pair j p e)
  · show NRow _ (upd X.ro k v' j) (upd lo k ks' j)
    by_cases hj : j = k
    · subst hj; rw [upd_self, upd_self]; exact nrow_kept r1 (fun b hb => heap_setCell_other _ _ _ _ (own b hb))
    · rw [upd_ne _ _ hj, upd_ne _ _ hj]; exact nrow_kept (h.out j p e) (fun b hb => (lab2 b _ (h.lout j p b e hb) (by simpa using hj) (by simp)).2)
  · exact nrow_kept (h.inn j p e) (fun b hb => (lab2 b _ (h.linn j p b e hb) (by simp) (by simp)).2)
  · replace hb : (upd X.ro k v' j).ownBlock = some b := hb
    show (if v'.ownBlock = some b then some (Who.out k) else X.L b) = _
    by_cases hj : j = k
    · subst hj; rw [upd_self] at hb; rw [if_pos hb]
    · rw [upd_ne _ _ hj] at hb; exact (labs b _ (h.lout j p b e hb) (by simpa using hj)).1
  · exact (labs b _ (h.linn j p b e hb) (by simp)).1
  · replace hb : (if v'.ownBlock = some b then some (.out k) else X.L b) ≠ none := hb
    rw [sz]
    by_cases e : v'.ownBlock = some b
    · exact (r1.lt b e).2
    · rw [if_neg e] at hb; exact Nat.lt_of_lt_of_le (h.lt b hb) rs
  · have t1 : Turned (fun b => X.L b ≠ none) w w' := r2.mono (fun b _ e => by rw [h.lout k q b hk e]; simp)
    exact t1.trans (turned_setCell _ _ _ (by show X.L q ≠ none; rw [h.lpair k q hk]; simp))
  · replace hb : (if v'.ownBlock = some b then some (.out k) else X.L b) ≠ none := hb
    by_cases e : v'.ownBlock = some b
    · rcases r3 b e with e2 | e2
      · left; rw [h.lout k q b hk e2]; simp
      · exact .inr e2
    · rw [if_neg e] at hb; exact .inl hb
def Sto.inns (X : Sto) (k : Int) (v' : Value) : Sto := { X with ri := upd X.ri k v', L := fun b => if v'.ownBlock = some b then some (.inn k) else X.L b }
theorem StMid.innTurn {k : Int} {q : Nat} {v' : Value} {ks' : List Int} (h : StMid w X lo li) (hk : X.f k = some q) (hr : Rows1 w (X.ri k) ks' v' w') :
    w'.cell? ⟨q, 1, none⟩ = some (X.ri k) ∧ (∀ o, w'.frozen? ⟨q, o, none⟩ = false) ∧ StMid (w'.setCell ⟨q, 1, none⟩ v') (X.inns k v') (lo) (upd li k ks') ∧ Foots w X.L (w'.setCell ⟨q, 1, none⟩ v') (X.inns k v').L := by
  obtain ⟨r1, r2, r3⟩ := hr; have rs := r2.size; have labs : ∀ b l, X.L b = some l → l ≠ .inn k → (if v'.ownBlock = some b then some (.inn k) else X.L b) = some l ∧ w'.heap[b]? = w.heap[b]? := fun b l e hl => by
    have hb : (X.ri k).ownBlock ≠ some b := fun e2 => by
      have := h.linn k q b hk e2; rw [e] at this; exact hl (Option.some.inj this)
    refine ⟨?_, r2.block b (h.lt b (by rw [e]; simp)) hb⟩
    rw [if_neg (fun e2 => ?_)]
    · exact e
    · rcases r3 b e2 with e3 | e3
      · exact hb e3
      · have := h.lt b (by rw [e]; simp); omega
  have hq := labs q _ (h.lpair k q hk) (by simp)
  have boxq : w'.heap[q]? = some (.cells #[X.ro k, X.ri k] 134 (0, 0)) := hq.2.trans (h.pair k q hk); have hql : q < w'.heap.size := (Array.getElem?_eq_some_iff.1 boxq).1; have sz : (w'.setCell ⟨q, 1, none⟩ v').heap.size = w'.heap.size := by simp
  have lab2 : ∀ b l, X.L b = some l → l ≠ .inn k → l ≠ .pair k → (if v'.ownBlock = some b then some (.inn k) else X.L b) = some l ∧ (w'.setCell ⟨q, 1, none⟩ v').heap[b]? = w.heap[b]? := fun b l e hl hp => by
    obtain ⟨e1, e2⟩ := labs b l e hl; refine ⟨e1, ?_⟩; rw [heap_setCell_other _ _ _ _ (fun e3 => ?_)]
    · exact e2
    · subst e3; rw [h.lpair k b hk] at e; exact hp (Option.some.inj e).symm
  have own : ∀ b, v'.ownBlock = some b → b ≠ q := fun b e e2 => by
    have := hq.1; subst e2; rw [if_pos e] at this
    cases this
  refine ⟨by rw [cell_of_row w' q _ _ _ _ boxq]; rfl, fun o => frozen_of_row w' q o _ _ boxq, ⟨(lab2 _ _ h.lbox (by simp) (by simp)).2.trans h.box, h.tab.kept (fun b hb => (lab2 _ _ (h.ltab b hb) (by simp) (by simp)).2), h.map.kept (lab2 _ _ h.lmap (by simp) (by simp)).2, h.keys, fun j p e => ?_, fun j p e => ?_, fun j p e => ?_, (lab2 _ _ h.lbox (by simp) (by simp)).1, fun b hb => (lab2 _ _ (h.ltab b hb) (by simp) (by simp)).1, (lab2 _ _ h.lmap (by simp) (by simp)).1, fun j p e => (labs p _ (h.lpair j p e) (by simp)).1, fun j p b e hb => ?_, fun j p b e hb => ?_, fun b hb => ?_⟩, ?_, fun b hb => ?_⟩
  · show (w'.setCell ⟨q, 1, none⟩ v').heap[p]? = some (.cells #[X.ro j, upd X.ri k v' j] _ _)
    by_cases hj : j = k
    · subst hj; obtain rfl : q = p := Option.some.inj (hk.symm.trans e); rw [upd_self, heap_setCell_same _ _ _ _ _ _ boxq]; rfl
    · rw [upd_ne _ _ hj]; exact (lab2 p _ (h.lpair j p e) (by simp) (by simpa using hj)).2.trans (h.pair j p e)
  · exact nrow_kept (h.out j p e) (fun b hb => (lab2 b _ (h.lout j p b e hb) (by simp) (by simp)).2)
  · show NRow _ (upd X.ri k v' j) (upd li k ks' j)
    by_cases hj : j = k
    · subst hj; rw [upd_self, upd_self]; exact nrow_kept r1 (fun b hb => heap_setCell_other _ _ _ _ (own b hb))
    · rw [upd_ne _ _ hj, upd_ne _ _ hj]; exact nrow_kept (h.inn j p e) (fun b hb => (lab2 b _ (h.linn j p b e hb) (by simpa using hj) (by simp)).2)
  · exact (labs b _ (h.lout j p b e hb) (by simp)).1
  · replace hb : (upd X.ri k v' j).ownBlock = some b := hb
    show (if v'.ownBlock = some b then some (Who.inn k) else X.L b) = _
    by_cases hj : j = k
    · subst hj; rw [upd_self] at hb; rw [if_pos hb]
    · rw [upd_ne _ _ hj] at hb; exact (labs b _ (h.linn j p b e hb) (by simpa using hj)).1
  · replace hb : (if v'.ownBlock = some b then some (.inn k) else X.L b) ≠ none := hb
    rw [sz]
    by_cases e : v'.ownBlock = some b
    · exact (r1.lt b e).2
    · rw [if_neg e] at hb; exact Nat.lt_of_lt_of_le (h.lt b hb) rs
  · have t1 : Turned (fun b => X.L b ≠ none) w w' := r2.mono (fun b _ e => by rw [h.linn k q b hk e]; simp)
    exact t1.trans (turned_setCell _ _ _ (by show X.L q ≠ none; rw [h.lpair k q hk]; simp))
  · replace hb : (if v'.ownBlock = some b then some (.inn k) else X.L b) ≠ none := hb
    by_cases e : v'.ownBlock = some b
    · rcases r3 b e with e2 | e2
      · left; rw [h.linn k q b hk e2]; simp
      · exact .inr e2
    · rw [if_neg e] at hb; exact .inl hb
theorem StMid.boxTurn {i : Nat} {u : Value} {X' : Sto} (h : StMid w X lo li) (hX : X' = { X with rd := X'.rd, wr := X'.wr }) (hb : (w.setCell ⟨X.s, i, none⟩ u).heap[X.s]? = some (.cells #[.pointer (some ⟨X.t, 0, none⟩), .map (some X.m), .int .i64 X'.rd, .int .i64 X'.wr] 81 (0, 0))) :
    StMid (w.setCell ⟨X.s, i, none⟩ u) X' lo li ∧ Foots w X.L (w.setCell ⟨X.s, i, none⟩ u) X'.L := by
  rw [hX]; have labs : ∀ b l, X.L b = some l → l ≠ .box → (w.setCell ⟨X.s, i, none⟩ u).heap[b]? = w.heap[b]? := fun b l e hl => heap_setCell_other _ _ _ _ (fun e2 => by
    subst e2; rw [h.lbox] at e; exact hl (Option.some.inj e).symm)
  refine ⟨⟨hb, h.tab.kept (fun b hb => labs _ _ (h.ltab b hb) (by simp)), h.map.kept (labs _ _ h.lmap (by simp)), h.keys, fun k q e => (labs _ _ (h.lpair k q e) (by simp)).trans (h.pair k q e),
    fun k q e => nrow_kept (h.out k q e) (fun b hb => labs _ _ (h.lout k q b e hb) (by simp)), fun k q e => nrow_kept (h.inn k q e) (fun b hb => labs _ _ (h.linn k q b e hb) (by simp)), h.lbox, h.ltab, h.lmap, h.lpair, h.lout, h.linn, fun b hb => by simpa using h.lt b hb⟩, turned_setCell _ _ _ (by show X.L X.s ≠ none; rw [h.lbox]; simp), fun b hb => .inl hb⟩
theorem StMid.wrTurn (h : StMid w X lo li) (y : Int) : StMid (w.setCell ⟨X.s, 3, none⟩ (.int .i64 y)) { X with wr := y } lo li ∧ Foots w X.L (w.setCell ⟨X.s, 3, none⟩ (.int .i64 y)) X.L :=
  h.boxTurn (X' := { X with wr := y }) rfl (by rw [heap_setCell_same _ _ _ _ _ _ h.box]; rfl)
theorem StMid.rdTurn (h : StMid w X lo li) (y : Int) : StMid (w.setCell ⟨X.s, 2, none⟩ (.int .i64 y)) { X with rd := y } lo li ∧ Foots w X.L (w.setCell ⟨X.s, 2, none⟩ (.int .i64 y)) X.L :=
  h.boxTurn (X' := { X with rd := y }) rfl (by rw [heap_setCell_same _ _ _ _ _ _ h.box]; rfl)
end
end

section
open Go.RowKit Go.Maps
def plus (l : List Int) (e : Int) : List Int := l.take (cnt ltN l e) ++ [e] ++ l.drop (cnt ltN l e)
def less (l : List Int) (e : Int) : List Int := l.take (cnt ltN l e) ++ l.drop (cnt ltN l e + 1)
def Like (a b : World) : Prop := b.heap = a.heap ∧ b.os = a.os ∧ b.tape = a.tape ∧ b.output = a.output
theorem Like.below {a b : World} (h : Like a b) (B : Nat) : Below B a b := ⟨h.2.1, h.2.2.1, h.2.2.2, by rw [h.1]; exact Nat.le_refl _, fun k _ => by rw [h.1]⟩
theorem foots_like {w w' W : World} {L L' : Nat → Option Who} (hl : Like w W) (h : Foots W L w' L') : Foots w L w' L' :=
  (Foots.below L (hl.below _)).trans h
theorem box_cells {w : World} {x : EdgeV} {b : Nat} (h : w.heap[b]? = some (oE x)) : w.cell? ⟨b, 0, none⟩ = some (.int .i64 x.1) ∧ w.cell? ⟨b, 1, none⟩ = some (.int .i64 x.2.1) ∧ w.cell? ⟨b, 2, none⟩ = some (.int .i64 x.2.2.1) ∧ w.cell? ⟨b, 3, none⟩ = some (.int .u32 x.2.2.2) ∧ ∀ o, w.frozen? ⟨b, o, none⟩ = false := cells34 h
section
variable [Inhabited EntI] {w w' : World} {X : Sto} {lo li : Int → List Int}
theorem StMid.like {W : World} (h : StMid w X lo li) (hl : Like w W) : StMid W X lo li := h.below (hl.below _)
theorem StMid.new {k : Nat} (h : StMid w X lo li) (hk : w.heap.size ≤ k) : X.L k = none := by
  cases e : X.L k with
  | none => rfl
  | some l => have := h.lt k (by rw [e]; simp); omega
theorem StMid.withOut {k e : Int} {q : Nat} (h : StMid w X lo li) (hk : X.f k = some q) (hl : (lo k).length ≤ 1000000) (hs : Rising ltN (lo k)) :
    Calls Tryz.prog 104 #[X.ro k, .int .i64 e] w fun r w3 => ∃ a3 n3 c3, r = .returned (.slice a3 n3 c3) ∧ w3.cell? ⟨q, 0, none⟩ = some (X.ro k) ∧ (∀ o, w3.frozen? ⟨q, o, none⟩ = false) ∧ (∀ c, c < w.heap.size → X.L c = none → w3.heap[c]? = w.heap[c]?) ∧
      Hid (StMid (w3.setCell ⟨q, 0, none⟩ (.slice a3 n3 c3)) (X.outs k (.slice a3 n3 c3)) (upd lo k (plus (lo k) e)) li ∧ Foots w X.L (w3.setCell ⟨q, 0, none⟩ (.slice a3 n3 c3)) (X.outs k (.slice a3 n3 c3)).L) := by
  refine (withN (X.ro k) (lo k) e w (h.out k q hk) hl hs).mono ?_
  rintro r w3 ⟨r3, rfl, hR⟩
  obtain ⟨a3, c3, e3, -⟩ := brow_shape (unhide hR).1; obtain ⟨n3, hn3⟩ : ∃ n3, r3 = .slice a3 n3 c3 := ⟨_, e3⟩; subst hn3; obtain ⟨z1, z2, z3, z4⟩ := h.outTurn hk (unhide hR); exact ⟨a3, n3, c3, rfl, z1, z2, fun c hc hn => (unhide hR).2.1.block c hc (fun e => by rw [h.lout k q c hk e] at hn; cases hn), z3, z4⟩
theorem StMid.withInn {k e : Int} {q : Nat} (h : StMid w X lo li) (hk : X.f k = some q) (hl : (li k).length ≤ 1000000) (hs : Rising ltN (li k)) :
    Calls Tryz.prog 104 #[X.ri k, .int .i64 e] w fun r w3 => ∃ a3 n3 c3, r = .returned (.slice a3 n3 c3) ∧ w3.cell? ⟨q, 1, none⟩ = some (X.ri k) ∧ (∀ o, w3.frozen? ⟨q, o, none⟩ = false) ∧ (∀ c, c < w.heap.size → X.L c = none → w3.heap[c]? = w.heap[c]?) ∧
      Hid (StMid (w3.setCell ⟨q, 1, none⟩ (.slice a3 n3 c3)) (X.inns k (.slice a3 n3 c3)) lo (upd li k (plus (li k) e)) ∧ Foots w X.L (w3.setCell ⟨q, 1, none⟩ (.slice a3 n3 c3)) (X.inns k (.slice a3 n3 c3)).L) := by
  refine (withN (X.ri k) (li k) e w (h.inn k q hk) hl hs).mono ?_
  rintro r w3 ⟨r3, rfl, hR⟩
  obtain ⟨a3, c3, e3, -⟩ := brow_shape (unhide hR).1; obtain ⟨n3, hn3⟩ : ∃ n3, r3 = .slice a3 n3 c3 := ⟨_, e3⟩; subst hn3; obtain ⟨z1, z2, z3, z4⟩ := h.innTurn hk (unhide hR); exact ⟨a3, n3, c3, rfl, z1, z2, fun c hc hn => (unhide hR).2.1.block c hc (fun e => by rw [h.linn k q c hk e] at hn; cases hn), z3, z4⟩
theorem StMid.withoutOut {k e : Int} {q : Nat} (h : StMid w X lo li) (hk : X.f k = some q) (hl : (lo k).length ≤ 1000000) (hs : Rising ltN (lo k)) (hx : e ∈ lo k) :
    Calls Tryz.prog 86 #[X.ro k, .int .i64 e] w fun r w3 => ∃ a3 n3 c3, r = .returned (.slice a3 n3 c3) ∧ w3.cell? ⟨q, 0, none⟩ = some (X.ro k) ∧ (∀ o, w3.frozen? ⟨q, o, none⟩ = false) ∧ (∀ c, c < w.heap.size → X.L c = none → w3.heap[c]? = w.heap[c]?) ∧
      Hid (StMid (w3.setCell ⟨q, 0, none⟩ (.slice a3 n3 c3)) (X.outs k (.slice a3 n3 c3)) (upd lo k (less (lo k) e)) li ∧ Foots w X.L (w3.setCell ⟨q, 0, none⟩ (.slice a3 n3 c3)) (X.outs k (.slice a3 n3 c3)).L) := by
  refine (withoutN (X.ro k) (lo k) e w (h.out k q hk) hl hs hx).mono ?_
  rintro r w3 ⟨r3, rfl, hR⟩
  obtain ⟨a3, c3, e3, -⟩ := brow_shape (unhide hR).1; obtain ⟨n3, hn3⟩ : ∃ n3, r3 = .slice a3 n3 c3 := ⟨_, e3⟩; subst hn3; obtain ⟨z1, z2, z3, z4⟩ := h.outTurn hk (unhide hR); exact ⟨a3, n3, c3, rfl, z1, z2, fun c hc hn => (unhide hR).2.1.block c hc (fun e => by rw [h.lout k q c hk e] at hn; cases hn), z3, z4⟩
theorem StMid.withoutInn {k e : Int} {q : Nat} (h : StMid w X lo li) (hk : X.f k = some q) (hl : (li k).length ≤ 1000000) (hs : Rising ltN (li k)) (hx : e ∈ li k) :
    Calls Tryz.prog 86 #[X.ri k, .int .i64 e] w fun r w3 => ∃ a3 n3 c3, r = .returned (.slice a3 n3 c3) ∧ w3.cell? ⟨q, 1, none⟩ = some (X.ri k) ∧ (∀ o, w3.frozen? ⟨q, o, none⟩ = false) ∧ (∀ c, c < w.heap.size → X.L c = none → w3.heap[c]? = w.heap[c]?) ∧
      Hid (StMid (w3.setCell ⟨q, 1, none⟩ (.slice a3 n3 c3)) (X.inns k (.slice a3 n3 c3)) lo (upd li k (less (li k) e)) ∧ Foots w X.L (w3.setCell ⟨q, 1, none⟩ (.slice a3 n3 c3)) (X.inns k (.slice a3 n3 c3)).L) := by
  refine (withoutN (X.ri k) (li k) e w (h.inn k q hk) hl hs hx).mono ?_
  rintro r w3 ⟨r3, rfl, hR⟩
  obtain ⟨a3, c3, e3, -⟩ := brow_shape (unhide hR).1; obtain ⟨n3, hn3⟩ : ∃ n3, r3 = .slice a3 n3 c3 := ⟨_, e3⟩; subst hn3; obtain ⟨z1, z2, z3, z4⟩ := h.innTurn hk (unhide hR); exact ⟨a3, n3, c3, rfl, z1, z2, fun c hc hn => (unhide hR).2.1.block c hc (fun e => by rw [h.linn k q c hk e] at hn; cases hn), z3, z4⟩
end
end

section
open Go.RowKit
def wpAnyL (P : Program) (md : Region.Mode) (ops : Array Oper) (Q : Exit → Act → World → Prop) (S : World → Prop) (T : List Nat) : Nat → Array Bool → Act → World → Prop
  | 0, listed, a, w => Region.ready md ops listed = [] ∧ Q .normal a w
  | fuel + 1, listed, a, w =>
    (Region.ready md ops listed = [] → Q .normal a w) ∧
    ∀ i ∈ Region.ready md ops listed, wpOp P ops Q i (fun a' w' => (T.contains i = false → S w') ∧ wpAnyL P md ops Q S T fuel (listed.setIfInBounds i true) a' w') a w
theorem sl : (∀ (a : Act) (d : Nat) (v : Value), a.put (some d) v = { a with tmps := a.tmps.setIfInBounds d v }) ∧ (∀ (a : Act) (v : Value), a.put none v = a) ∧ (∀ (xs : List Value) (i : Nat) (v : Value), xs.toArray.setIfInBounds i v = (xs.set i v).toArray) ∧ (∀ (x y : Value) (xs : List Value), (x :: xs).set 0 y = y :: xs) ∧ ∀ (x y : Value) (xs : List Value) (n : Nat), (x :: xs).set (n + 1) y = x :: xs.set n y :=
  ⟨fun _ _ _ => rfl, fun _ _ => rfl, fun _ _ _ => List.setIfInBounds_toArray .., fun _ _ _ => rfl, fun _ _ _ _ => rfl⟩
variable {P : Program} {ops : Array Oper} {Q : Exit → Act → World → Prop} {md : Region.Mode} {S : World → Prop} {T : List Nat}
theorem wpAny_of_L : ∀ (fuel : Nat) (listed : Array Bool) (a : Act) (w : World), wpAnyL P md ops Q S T fuel listed a w → wpAny P md ops Q fuel listed a w
  | 0, _, _, _, h => h
  | fuel + 1, _, _, _, h => ⟨h.1, fun i hi => wpOp_mono (fun a' w' h' => wpAny_of_L fuel _ a' w' h'.2) (h.2 i hi)⟩
def stuckB (md : Region.Mode) (ops : Array Oper) (i : Nat) : Nat → Nat → Bool
  | 0, _ => false
  | n + 1, t => match ops[t]? with
    | none => false
    | some o => o.after.toList.any fun e => Region.binds md e && (e.on == i || stuckB md ops i n e.on)
def closedB (md : Region.Mode) (ops : Array Oper) (listed : Array Bool) : Bool :=
  (List.range ops.size).all fun j => !listed.getD j false || match ops[j]? with
    | none => true
    | some o => o.after.toList.all fun e => !Region.binds md e || listed.getD e.on false
def tailB (md : Region.Mode) (ops : Array Oper) (T : List Nat) (i : Nat) : Bool := T.all fun t => stuckB md ops i ops.size t
def Closed (md : Region.Mode) (ops : Array Oper) (listed : Array Bool) : Prop := ∀ j o, ops[j]? = some o → listed.getD j false = true → ∀ e ∈ o.after, Region.binds md e = true → listed.getD e.on false = true
theorem closed_of {listed : Array Bool} (h : closedB md ops listed = true) : Closed md ops listed := fun j o ho hj e he hb => by
  have h1 := List.all_eq_true.1 h j (List.mem_range.2 (Array.getElem?_eq_some_iff.1 ho).1); rw [ho] at h1; simp only [hj, Bool.not_true, Bool.false_or] at h1; have h2 := List.all_eq_true.1 h1 e (by simpa using he)
  simpa [hb] using h2
theorem closed_ready {listed : Array Bool} {j : Nat} (h : Closed md ops listed) (hj : j ∈ Region.ready md ops listed) : Closed md ops (listed.setIfInBounds j true) := fun t o ho ht e he hb => by
  by_cases e1 : j = t
  · subst e1; obtain ⟨-, o', ho', hall⟩ := mem_ready.1 hj; rw [ho] at ho'
    cases ho'
    exact getD_set_true (hall e he hb)
  · rw [getD_set_ne false e1] at ht; exact getD_set_true (h t o ho ht e he hb)
theorem stuck_not {listed : Array Bool} {i : Nat} (hc : Closed md ops listed) (hi : listed.getD i false = false) : ∀ n t, stuckB md ops i n t = true → listed.getD t false = false ∧ ¬ t ∈ Region.ready md ops listed
  | 0, t, h => by simp [stuckB] at h
  | n + 1, t, h => by
    unfold stuckB at h
    cases ho : ops[t]? with
    | none => rw [ho] at h; simp at h
    | some o =>
      rw [ho] at h; obtain ⟨e, he, h2⟩ := List.any_eq_true.1 h; rw [Bool.and_eq_true, Bool.or_eq_true] at h2; have hun : listed.getD e.on false = false := by
        rcases h2.2 with h3 | h3
        · rw [beq_iff_eq] at h3; rw [h3]; exact hi
        · exact (stuck_not hc hi n e.on h3).1
      have he' : e ∈ o.after := by simpa using he
      refine ⟨?_, fun hr => ?_⟩
      · cases hl : listed.getD t false with
        | false => rfl
        | true => rw [hc t o ho hl e he' h2.1] at hun; cases hun
      · obtain ⟨-, o', ho', hall⟩ := mem_ready.1 hr; rw [ho] at ho'
        cases ho'
        rw [hall e he' h2.1] at hun
        cases hun
theorem ready_unlisted {listed : Array Bool} {i : Nat} (h : i ∈ Region.ready md ops listed) : listed.getD i false = false := by
  have h0 := (mem_ready.1 h).1; rcases Nat.lt_or_ge i listed.size with h' | h'
  · simp [h'] at h0 ⊢; exact h0
  · simp [Array.getElem?_eq_none h'] at h0
theorem wpAnyL_first {i : Nat} {oi : Oper} {v : Value} (hi : ops[i]? = some oi) (hsel : ∀ (j : Nat) (o : Oper) cs b, ops[j]? = some o → o.op ≠ .select cs b)
    (hQ : ∀ c a w, Q (.panic c) (a.put oi.dst v) w → Q (.panic c) a w) (hT : tailB md ops T i = true) :
    ∀ (fuel : Nat) (listed : Array Bool) (a : Act) (w : World), Closed md ops listed →
      (∀ j oj, ops[j]? = some oj → j ≠ i → listed.getD j true = false → (∀ e ∈ oj.after, Region.binds md e = true → e.on ≠ i) → oi.apart ops oj = true) →
      i ∈ Region.ready md ops listed → YieldsIf P ops S oi v a → S w →
      wpAnyL P md ops Q S T fuel (listed.setIfInBounds i true) (a.put oi.dst v) w → wpAnyL P md ops Q S T (fuel + 1) listed a w := by
  intro fuel
  induction fuel with
  | zero =>
    intro listed a w _ _ hr hy hS H; refine ⟨fun h => (by rw [h] at hr; cases hr), fun j hj => ?_⟩
    by_cases hji : j = i
    · subst hji; exact hy.wpOp hi hS ⟨fun _ => hS, H⟩
    · have := ready_mono hj hji; rw [H.1] at this
      cases this
  | succ fuel ih =>
    intro listed a w hcl hfree hr hy hS H; refine ⟨fun h => (by rw [h] at hr; cases hr), fun j hj => ?_⟩
    by_cases hji : j = i
    · subst hji; exact hy.wpOp hi hS ⟨fun _ => hS, H⟩
    · have h1 := H.2 j (ready_mono hj hji); obtain ⟨hjun, oj, hoj, hall⟩ := mem_ready.1 hj; have hnot : ∀ e ∈ oj.after, Region.binds md e = true → e.on ≠ i := fun e he hb heq => by
        have h1 := hall e he hb; rw [heq, ready_unlisted hr] at h1
        cases h1
      have hTj : T.contains j = false := by
        cases ht : T.contains j with
        | false => rfl
        | true => exact absurd hj (stuck_not hcl (ready_unlisted hr) _ _ (List.all_eq_true.1 hT j (by simpa using ht))).2
      have h2 := wpOp_putIf hoj (hfree j oj hoj hji hjun hnot) (fun cs b => hsel i oi cs b hi) (fun cs b => hsel j oj cs b hoj) hQ hy h1
      have hfree' : ∀ k ok, ops[k]? = some ok → k ≠ i → (listed.setIfInBounds j true).getD k true = false →
          (∀ e ∈ ok.after, Region.binds md e = true → e.on ≠ i) → oi.apart ops ok = true := fun k ok hk hki hun hno => by
        refine hfree k ok hk hki ?_ hno
        by_cases hjk : j = k
        · subst hjk; exact hjun
        · rw [getD_set_ne true hjk] at hun; exact hun
      refine wpOp_mono (fun a' w' h3 => ⟨h3.2.1, ih (listed.setIfInBounds j true) a' w' (closed_ready hcl hj) hfree' (ready_mono hr (Ne.symm hji)) h3.1 (h3.2.1 hTj) ?_⟩) h2
      rw [Array.setIfInBounds_comm _ _ hji]; exact h3.2.2
theorem takeL {i : Nat} {oi : Oper} {v : Value} {fuel : Nat} {listed : Array Bool} {a : Act} {w : World} (d : Option Tmp) (hi : ops[i]? = some oi) (hd : oi.dst = d)
    (hs : Region.noSelect ops = true) (hf : Region.free md ops listed i = true) (hr : (Region.ready md ops listed).contains i = true) (hcl : closedB md ops listed = true) (hT : tailB md ops T i = true)
    (hQ : ∀ c a w, Q (.panic c) (a.put d v) w → Q (.panic c) a w) (hy : YieldsIf P ops S oi v a) (hS : S w)
    (h : wpAnyL P md ops Q S T fuel (listed.setIfInBounds i true) (a.put d v) w) : wpAnyL P md ops Q S T (fuel + 1) listed a w := by
  subst hd; exact wpAnyL_first hi (Region.noSelect_spec hs) hQ hT fuel listed a w (closed_of hcl) (Region.free_spec hi hf) (by simpa using hr) hy hS h
theorem takeN (i d : Nat) {oi : Oper} {v : Value} {fuel : Nat} {listed : Array Bool} {a : Act} {w : World} (hi : ops[i]? = some oi)
    (h : wpAnyL P md ops Q S T fuel (listed.setIfInBounds i true) (a.put (some d) v) w) (hd : oi.dst = some d := by rfl) (hw : Region.wanted oi (yielded ops a.tmps) = true := by rfl)
    (hv : ∀ y, S y → (execOp a.eval oi).run P y = .ok (.value v) y := by intro y hSu; (try dsimp only at hSu); go_simp; first | done | with_reducible rfl)
    (hs : Region.noSelect ops = true := by kernel_rfl) (hf : Region.free md ops listed i = true := by kernel_rfl) (hr : (Region.ready md ops listed).contains i = true := by kernel_rfl) (hcl : closedB md ops listed = true := by kernel_rfl) (hT : tailB md ops T i = true := by kernel_rfl)
    (hQ : ∀ c a w, Q (.panic c) (a.put (some d) v) w → Q (.panic c) a w := by exact fun _ _ _ h => h) (hS : S w := by assumption) : wpAnyL P md ops Q S T (fuel + 1) listed a w :=
  takeL (some d) hi hd hs hf hr hcl hT hQ (Or.inl ⟨hw, hv⟩) hS h
theorem takeK (i d : Nat) {oi : Oper} {fuel : Nat} {listed : Array Bool} {a : Act} {w : World} (hi : ops[i]? = some oi)
    (h : wpAnyL P md ops Q S T fuel (listed.setIfInBounds i true) (a.put (some d) undef) w) (hd : oi.dst = some d := by rfl) (hw : Region.wanted oi (yielded ops a.tmps) = false := by rfl)
    (hs : Region.noSelect ops = true := by kernel_rfl) (hf : Region.free md ops listed i = true := by kernel_rfl) (hr : (Region.ready md ops listed).contains i = true := by kernel_rfl) (hcl : closedB md ops listed = true := by kernel_rfl) (hT : tailB md ops T i = true := by kernel_rfl)
    (hQ : ∀ c a w, Q (.panic c) (a.put (some d) undef) w → Q (.panic c) a w := by exact fun _ _ _ h => h) (hS : S w := by assumption) : wpAnyL P md ops Q S T (fuel + 1) listed a w :=
  takeL (some d) hi hd hs hf hr hcl hT hQ (Or.inr ⟨hw, rfl⟩) hS h
theorem readyL {i : Nat} {o : Oper} {fuel : Nat} {listed : Array Bool} {a : Act} {w : World} (hr : Region.ready md ops listed = [i]) (ho : ops[i]? = some o)
    (h : ∀ K' : Act → World → Prop, Shut (∀ a w, (T.contains i = false → S w) → wpAnyL P md ops Q S T fuel (listed.setIfInBounds i true) a w → K' a w) → if Region.wanted o (yielded ops a.tmps) = true then Oper.wp P o a w K' Q else K' (a.put o.dst undef) w) :
    wpAnyL P md ops Q S T (fuel + 1) listed a w := by
  refine ⟨fun h0 => (by rw [hr] at h0; cases h0), fun j hj => ?_⟩
  rw [hr] at hj; obtain rfl : j = i := by simpa using hj
  exact wpOp_step ho (fun K' hK => h K' (fun a w hS hW => hK a w ⟨hS, hW⟩))
theorem doneL {listed : Array Bool} {a : Act} {w : World} (hr : Region.ready md ops listed = []) (h : Q .normal a w) : ∀ fuel, wpAnyL P md ops Q S T fuel listed a w
  | 0 => ⟨hr, h⟩
  | _ + 1 => ⟨fun _ => h, by rw [hr]; simp⟩
theorem regionL {id : Nat} {a : Act} {w : World} (T : List Nat) (S : World → Prop) (hm : P.follows .mixedOrders = true) (hS : S w.drew)
    (h : S w.drew → wpAnyL P .any ops Q S T ops.size (Array.replicate ops.size false) a w.drew) : (Code.region id ops true).wp P Q a w :=
  wp_region_any hm (wpAny_of_L _ _ _ _ (h hS))
end

end Go.Proofs.YtagibmgbjhemkaaGreat
