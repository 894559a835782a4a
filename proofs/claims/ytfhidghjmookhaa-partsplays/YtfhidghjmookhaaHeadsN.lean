/- Heads. -/
import Derived.Test.YtfhidghjmookhaaBurstN
import Derived.Maps.RangeWalk
import Derived.Lib.AppendZeros
import Derived.Lib.SlicesS
import Derived.Shelf.Slices.In.SortNone
import Derived.Shelf.Slices.In.SortNone2
namespace Go.Proofs.Ytfhidghjmookhaa
open Go.RowKit Go.Maps

theorem keyInvN {key : Value} {l : Lit} (h : keyOf Try.prog 3 key = some l) : ∃ k, key = Value.int .i64 k ∧ l = klN k ∧ okN k := by
  obtain ⟨x, rfl, rfl, hw⟩ := keyOf_int_inv Try.underlying3 h
  exact ⟨x, rfl, rfl, hw⟩
theorem info3N : (Try.prog.info? 3).map (fun i => (i.zero, i.size, i.bytes)) = some (some (.int .i64 0), 1, 8) := by kernel_rfl
theorem sortNoneN (p : Option Addr) (cap : Nat) (w : World) : Calls Try.prog 38 #[.slice p 0 cap] w fun e w' => e = .returned (.tuple #[]) ∧ w' = w := calls_of_every_depth fun D => AnyS.slices_Sort_int_none_in Try.lays189 D p cap w
theorem beqN (a b : Int) (h : a ≠ b) : (a == b) = false := by simpa using h

/-- In the midst of the range: the heads that were met. -/
structure HMidN (w : World) (m r N : Nat) (D : DataW Unit) (S : List (Part Int)) (hs : List Int) (v : Value) (left : Lit → Bool) (c : Nat) (wr : World) : Prop where
  rng : wr.ranges Try.prog 3 ptrElem m r N D left c
  below : Below w.heap.size w wr
  new : w.heap.size ≤ r
  room : w.heap.size ≤ wr.heap.size
  row : wr.ownsRow w.heap.size 3 1 v hs.length (hs.map (Value.int .i64))
  nodup : hs.Nodup
  mem : ∀ k, okN k → (k ∈ hs ↔ (∃ x ∈ S, x.ks.headD (0 : Int) = k) ∧ left (klN k) = false)
  sub : ∀ k ∈ hs, ∃ x ∈ S, x.ks.headD (0 : Int) = k

theorem left_stepN (left : Lit → Bool) (k j : Int) : (left (klN j) && !(klN j).sameKey (klN k)) = false ↔ left (klN j) = false ∨ j = k := by
  by_cases e : j = k
  · subst e
    rw [WideAt.sameKey_self (kitN.lit j)]
    simp
  · have : (klN j).sameKey (klN k) = false := by
      cases hh : (klN j).sameKey (klN k) with
      | false => rfl
      | true => exact absurd (kitN.inj _ _ (WideAt.sameKey_eq hh)) e
    rw [this]
    simp [e]

theorem head_memN {S : List (Part Int)} (h : Fam ltN okN S) {x : Part Int} (hx : x ∈ S) : x.ks.headD (0 : Int) ∈ x.ks := by
  have := h.some_ x hx
  cases hks : x.ks with
  | nil => exact absurd hks this
  | cons a r => exact List.mem_cons_self ..

/-- One entry. -/
theorem HMidN.step {w wr : World} {p m r N c : Nat} {D : DataW Unit} {S : List (Part Int)} {hs : List Int} {v : Value} {left : Lit → Bool} (_h0 : PAtN w p m S)
    (hD : ∀ k, okN k → D.atKey (klN k) (dat none) = dat (fOf S k) ∧ Maps.has D (klN k) = (fOf S k).isSome) (hsub : ∀ l, left l = true → Maps.has D l = true) (h : HMidN w m r N D S hs v left c wr) (ty : TypeId) :
    (c = 0 ∧ (∀ l, left l = false) ∧ (Instr.next (.pointer (some ⟨r, 0, none⟩)) false ty).run Try.prog wr = .ok (.tuple #[.bool false]) wr) ∨
    ∃ k x w' c', x ∈ S ∧ k ∈ x.ks ∧ okN k ∧ left (klN k) = true ∧ (Instr.next (.pointer (some ⟨r, 0, none⟩)) false ty).run Try.prog wr = .ok (.tuple #[.bool true, (Value.int .i64) k, .pointer (some ⟨x.q, 0, none⟩)]) w' ∧
      (Instr.entry (.pointer (some ⟨r, 0, none⟩))).run Try.prog w' = .ok (.tuple #[(Value.int .i64) k, .pointer (some ⟨x.q, 0, none⟩)]) w' ∧ c' < c ∧ w'.ranges Try.prog 3 ptrElem m r N D (fun l => left l && !l.sameKey (klN k)) c' ∧ Below w.heap.size w w' ∧ w'.heap.size = wr.heap.size ∧ w'.ownsRow w.heap.size 3 1 v hs.length (hs.map (Value.int .i64)) := by
  rcases h.rng.next kitN.law ty with h1 | ⟨key, u, l, y, w', c', hkey, hl, hu, hat, hrun, hrg, hlt, hgr, hsz, hen⟩
  · exact .inl h1
  · obtain ⟨k, rfl, rfl, hok⟩ := keyInvN hkey
    obtain ⟨o, rfl, rfl⟩ := ptrElem_inv hu
    have e1 : dat (fOf S k) = dat o := by rw [← (hD k hok).1]; exact hat _
    obtain rfl := dat_inj e1
    have e2 : (fOf S k).isSome = true := by rw [← (hD k hok).2]; exact hsub _ hl
    obtain ⟨q, hq⟩ := Option.isSome_iff_exists.1 e2
    obtain ⟨x, hx, hk, rfl⟩ := fOf_mem hq
    rw [hq] at hrun hen
    refine .inr ⟨k, x, w', c', hx, hk, hok, hl, hrun, hen, hlt, hrg, h.below.grown hgr h.room (fun j hj => by injection hj with hj; have := h.new; omega), hsz, h.row.kept hgr ?_⟩
    exact .inr (Ne.symm (row_ne_iter h.row h.rng))

theorem HMidN.push {w wr w' w2 : World} {p m r N c c' : Nat} {D : DataW Unit} {S : List (Part Int)} {hs : List Int} {v v2 : Value} {left : Lit → Bool} {k : Int} {x : Part Int} (h0 : PAtN w p m S) (h : HMidN w m r N D S hs v left c wr) (hx : x ∈ S) (hk : k ∈ x.ks) (hok : okN k) (hl : left (klN k) = true) (he : k = x.ks.headD (0 : Int))
    (hrg : w'.ranges Try.prog 3 ptrElem m r N D (fun l => left l && !l.sameKey (klN k)) c') (hb : Below w.heap.size w w') (hsz : w'.heap.size = wr.heap.size) (hr2 : w2.ownsRow w.heap.size 3 1 v2 (hs ++ [k]).length ((hs ++ [k]).map (Value.int .i64))) (hg : w'.grownBy w2 v.ownBlock) (hv : ∀ b, v.ownBlock = some b → w.heap.size ≤ b) (hri : some r ≠ v.ownBlock) :
    HMidN w m r N D S (hs ++ [k]) v2 (fun l => left l && !l.sameKey (klN k)) c' w2 := by
  have hnew : k ∉ hs := fun hm => by have := ((h.mem k hok).1 hm).2; rw [hl] at this; cases this
  refine ⟨hrg.kept hg (fun e => ?_) hri, hb.grown hg (by rw [hsz]; exact h.room) hv, h.new, Nat.le_trans h.room (hsz ▸ hg.size), hr2, List.nodup_append.2 ⟨h.nodup, by simp, fun a ha b hb e => hnew (by rw [List.mem_singleton.1 hb] at e; exact e ▸ ha)⟩, fun j hj => ?_, fun j hj => ?_⟩
  · have q1 := hv m e.symm
    have q2 := h0.map.lt
    omega
  · rw [List.mem_append, List.mem_singleton, h.mem j hj]
    show _ ↔ _ ∧ (left (klN j) && !(klN j).sameKey (klN k)) = false
    rw [left_stepN]
    constructor
    · rintro (⟨a, b⟩ | rfl)
      · exact ⟨a, .inl b⟩
      · exact ⟨⟨x, hx, he.symm⟩, .inr rfl⟩
    · rintro ⟨a, b | b⟩
      · exact .inl ⟨a, b⟩
      · exact .inr b
  · rcases List.mem_append.1 hj with hj | hj
    · exact h.sub j hj
    · rw [List.mem_singleton.1 hj]; exact ⟨x, hx, he.symm⟩

theorem HMidN.pass {w wr w' : World} {p m r N c c' : Nat} {D : DataW Unit} {S : List (Part Int)} {hs : List Int} {v : Value} {left : Lit → Bool} {k : Int} {x : Part Int} (h0 : PAtN w p m S) (h : HMidN w m r N D S hs v left c wr) (hx : x ∈ S) (hk : k ∈ x.ks) (he : k ≠ x.ks.headD (0 : Int))
    (hrg : w'.ranges Try.prog 3 ptrElem m r N D (fun l => left l && !l.sameKey (klN k)) c') (hb : Below w.heap.size w w') (hsz : w'.heap.size = wr.heap.size) (hrow : w'.ownsRow w.heap.size 3 1 v hs.length (hs.map (Value.int .i64))) :
    HMidN w m r N D S hs v (fun l => left l && !l.sameKey (klN k)) c' w' := by
  refine ⟨hrg, hb, h.new, by rw [hsz]; exact h.room, hrow, h.nodup, fun j hj => ?_, h.sub⟩
  rw [h.mem j hj]
  show _ ↔ _ ∧ (left (klN j) && !(klN j).sameKey (klN k)) = false
  rw [left_stepN]
  constructor
  · rintro ⟨a, b⟩
    exact ⟨a, .inl b⟩
  · rintro ⟨⟨z, hz, e⟩, b | rfl⟩
    · exact ⟨⟨z, hz, e⟩, b⟩
    · rcases h0.fam.of hx hz with rfl | ha
      · exact absurd e.symm he
      · exact absurd (e ▸ head_memN h0.fam hz) (ha.2.2 j hk)
end Go.Proofs.Ytfhidghjmookhaa
