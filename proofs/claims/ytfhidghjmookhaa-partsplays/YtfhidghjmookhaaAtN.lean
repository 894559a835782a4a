/- Parts in memory. -/
import Derived.Test.YtfhidghjmookhaaFam
import Derived.Sort.EncStr
namespace Go.Proofs.Ytfhidghjmookhaa
open Go.RowKit Go.Maps

def klN : Int → Lit := fun k => Lit.int .i64 k
def okN : Int → Prop := fun k => (Lit.int .i64 k).wf = true
def ltN : Int → Int → Bool := fun a b => decide (a < b)
theorem linN : Lin ltN := ⟨fun a => by simp [ltN], fun a b c h1 h2 => by simp [ltN] at *; omega, fun a b h => by simp [ltN]; omega⟩
theorem kitN : KeyKit Int 3 (Value.int .i64) klN okN := ⟨int_keyed Try.underlying3, fun _ hk => keyOf_int_mk Try.underlying3 hk, fun k => by simp [klN, WideAt.IsKeyLit], fun a b h => by simpa [klN] using h⟩
theorem zeroN (w : World) : (zeroValue 65).run Try.prog w = .ok (.pointer none) w := by kernel_rfl

theorem infoN : ∃ i, Try.prog.info? 68 = some i ∧ i.size ≠ 0 := by
  have h : (Try.prog.info? 68).map (·.size) = some 1 := by kernel_rfl
  rw [Option.map_eq_some_iff] at h
  obtain ⟨i, h1, h2⟩ := h
  exact ⟨i, h1, by omega⟩

/-- A part in memory. -/
structure RowN (w : World) (x : Part Int) : Prop where
  box : w.heap[x.q]? = some (.cells #[x.v] 68 (0, 0))
  row : w.ownsRow 0 3 1 x.v x.ks.length (x.ks.map (Value.int .i64))

/-- At p stand parts; their map in the block m. -/
structure PAtN (w : World) (p m : Nat) (S : List (Part Int)) : Prop where
  box : w.heap[p]? = some (.cells #[.map (some m)] 57 (0, 0))
  rows : ∀ x ∈ S, RowN w x
  fam : Fam ltN okN S
  map : MapFn 3 klN okN w m (fOf S) (tot S)

def FootN (p m : Nat) (S : List (Part Int)) (k : Nat) : Prop := k = p ∨ k = m ∨ ∃ x ∈ S, k = x.q ∨ x.v.ownBlock = some k

theorem RowN.kept {w w' : World} {x : Part Int} (h : RowN w x) (h1 : w'.heap[x.q]? = w.heap[x.q]?) (h2 : ∀ b, x.v.ownBlock = some b → w'.heap[b]? = w.heap[b]?) : RowN w' x := by
  refine ⟨h1.trans h.box, h.row.1, ?_⟩
  rcases h.row.2 with hn | ⟨g, cap, cur, e, hb, hgg, rest⟩
  · exact .inl hn
  · exact .inr ⟨g, cap, cur, e, hb, (h2 g (by rw [e]; rfl)).trans hgg, rest⟩

theorem RowN.lt {w : World} {x : Part Int} (h : RowN w x) : x.q < w.heap.size ∧ ∀ b, x.v.ownBlock = some b → b < w.heap.size :=
  ⟨(Array.getElem?_eq_some_iff.1 h.box).1, fun b hb => (h.row.lt b hb).2⟩

theorem PAtN.lt {w : World} {p m : Nat} {S : List (Part Int)} (h : PAtN w p m S) {k : Nat} (hk : FootN p m S k) : k < w.heap.size := by
  rcases hk with rfl | rfl | ⟨x, hx, rfl | hk⟩
  · exact (Array.getElem?_eq_some_iff.1 h.box).1
  · exact h.map.lt
  · exact (h.rows x hx).lt.1
  · exact (h.rows x hx).lt.2 k hk

theorem PAtN.kept {w w' : World} {p m : Nat} {S : List (Part Int)} (h : PAtN w p m S) (hk : ∀ k, FootN p m S k → w'.heap[k]? = w.heap[k]?) : PAtN w' p m S :=
  ⟨(hk p (.inl rfl)).trans h.box, fun x hx => (h.rows x hx).kept (hk _ (.inr (.inr ⟨x, hx, .inl rfl⟩))) (fun b hb => hk b (.inr (.inr ⟨x, hx, .inr hb⟩))), h.fam, h.map.kept (hk m (.inr (.inl rfl)))⟩

theorem PAtN.below {w w' : World} {p m : Nat} {S : List (Part Int)} (h : PAtN w p m S) (hb : Below w.heap.size w w') : PAtN w' p m S := h.kept (fun _ hk => hb.block _ (h.lt hk))

/-- Where a part's things lie. -/
theorem RowN.some_ {w : World} {x : Part Int} (h : RowN w x) (hn : x.ks ≠ []) : ∃ g c, x.v = .slice (some ⟨g, 0, none⟩) x.ks.length c ∧ x.ks.length ≤ c ∧ c ≤ maxLen ∧ (∃ cur, w.heap[g]? = some (.cells cur 3 (0, 0))) ∧
    (∀ o, w.frozen? ⟨g, o, none⟩ = false) ∧ ∀ j, j < x.ks.length → w.cell? ⟨g, j, none⟩ = some ((Value.int .i64) (x.ks.getD j (0 : Int))) := by
  rcases h.row.2 with ⟨-, h3⟩ | ⟨g, cap, cur, e, -, hg, hc, hm, -⟩
  · exact absurd (List.eq_nil_of_length_eq_zero h3) hn
  · refine ⟨g, cap, e, hc, hm, ⟨cur, hg⟩, fun o => frozen_of_row w g o _ _ hg, fun j hj => ?_⟩
    have := h.row.cells (g := g) (by rw [e]; rfl) j ((Value.int .i64) (x.ks.getD j (0 : Int))) (by simp [List.getD, hj])
    rwa [show (⟨g, 0, none⟩ : Addr).add j = ⟨g, j, none⟩ by unfold Addr.add; split <;> simp_all] at this

/-- The blocks are what they are: no two kinds are one. -/
theorem PAtN.kinds {w : World} {p m : Nat} {S : List (Part Int)} (h : PAtN w p m S) : p ≠ m ∧ ∀ x ∈ S, x.q ≠ p ∧ x.q ≠ m ∧ ∀ b, x.v.ownBlock = some b → b ≠ p ∧ b ≠ m ∧ ∀ y ∈ S, b ≠ y.q := by
  obtain ⟨D, ⟨es, clock, hm, -⟩, -⟩ := h.map
  refine ⟨fun e => ?_, fun x hx => ⟨fun e => ?_, fun e => ?_, fun b hb => ?_⟩⟩
  · have := h.box; rw [e, hm] at this; cases this
  · have := (h.rows x hx).box; rw [e, h.box] at this; simp at this
  · have := (h.rows x hx).box; rw [e, hm] at this; cases this
  · obtain ⟨g, c, e, -, -, ⟨cur, hg⟩, -⟩ := (h.rows x hx).some_ (h.fam.some_ x hx)
    rw [e] at hb
    simp [Value.ownBlock] at hb
    subst hb
    refine ⟨fun e => ?_, fun e => ?_, fun y hy e => ?_⟩
    · rw [e, h.box] at hg; simp at hg
    · rw [e, hm] at hg; cases hg
    · rw [e, (h.rows y hy).box] at hg; simp at hg

theorem PAtN.cell {w : World} {p m : Nat} {S : List (Part Int)} (h : PAtN w p m S) : w.cell? ⟨p, 0, none⟩ = some (.map (some m)) := by
  rw [cell_of_row w p _ _ _ _ h.box]; rfl
theorem RowN.cell {w : World} {x : Part Int} (h : RowN w x) : w.cell? ⟨x.q, 0, none⟩ = some x.v ∧ ∀ o, w.frozen? ⟨x.q, o, none⟩ = false := by
  refine ⟨?_, fun o => frozen_of_row w _ o _ _ h.box⟩
  rw [cell_of_row w _ _ _ _ _ h.box]; rfl

/-- Pointers of two parts. -/
theorem PAtN.eql {w : World} {p m : Nat} {S : List (Part Int)} (h : PAtN w p m S) {x y : Part Int} (hx : x ∈ S) (hy : y ∈ S) : (binOp .eql 65 (.pointer (some ⟨x.q, 0, none⟩)) (.pointer (some ⟨y.q, 0, none⟩))).run Try.prog w = .ok (.bool (decide (x.q = y.q))) w := by
  obtain ⟨i, hi, hs⟩ := infoN
  exact eql_ptr Try.underlying65 hi hs w (h.rows x hx).box (h.rows y hy).box

theorem PAtN.look {w : World} {p m : Nat} {S : List (Part Int)} (h : PAtN w p m S) (k : Int) (hk : okN k) : (Instr.lookup 55 (.map (some m)) ((Value.int .i64) k) false).run Try.prog w = .ok (ptr (fOf S k)) w :=
  h.map.look kitN Try.underlying55 zeroN k hk
end Go.Proofs.Ytfhidghjmookhaa
