/- The reader in the midst of a witness: what lies in memory. -/
import Derived.Test.YtagibmgbjhemkaaGreatBi16
import Derived.Test.YtagibmgbjhemkaaGreatRs16
namespace Go.Proofs.YtagibmgbjhemkaaGreat.W16
open Go.RowKit Go.Maps
def oW (F T : Int) (u : Nat) (ev : Value) : Obj := .cells #[.int .i64 F, .int .i64 T, .int .u32 (u : Nat), ev] 35
theorem oW_cells {w : World} {b : Nat} {F T : Int} {u : Nat} {ev : Value} (h : w.heap[b]? = some (oW F T u ev)) :
    (w.cell? ⟨b, 0, none⟩ = some (.int .i64 F) ∧ w.cell? ⟨b, 1, none⟩ = some (.int .i64 T) ∧ w.cell? ⟨b, 2, none⟩ = some (.int .u32 (u : Nat)) ∧ w.cell? ⟨b, 3, none⟩ = some ev) ∧
    w.frozen? ⟨b, 0, none⟩ = false ∧ w.frozen? ⟨b, 1, none⟩ = false ∧ w.frozen? ⟨b, 2, none⟩ = false ∧ w.frozen? ⟨b, 3, none⟩ = false :=
  ⟨⟨(cell_of_row _ _ 0 _ _ (0, 0) h).trans rfl, (cell_of_row _ _ 1 _ _ (0, 0) h).trans rfl, (cell_of_row _ _ 2 _ _ (0, 0) h).trans rfl, (cell_of_row _ _ 3 _ _ (0, 0) h).trans rfl⟩,
    frozen_of_row _ _ 0 _ _ h, frozen_of_row _ _ 1 _ _ h, frozen_of_row _ _ 2 _ _ h, frozen_of_row _ _ 3 _ _ h⟩
/-- The reader in the midst of a witness: the result's block r0, the witness's b3. -/
structure WS (w0 : World) (p r0 b3 : Nat) (ob : Option Nat) (w : World) (bs : List Nat) (F T : Int) (u : Nat) (ev : Value) (es : List Int) : Prop where
  lt : p < w0.heap.size ∧ w0.heap.size ≤ r0 ∧ w0.heap.size ≤ b3 ∧ r0 ≠ b3 ∧ ∀ g, ob = some g → g < w0.heap.size
  t : Reads p w0 w
  rd : ∃ v, RdAt w p v bs ∧ v.ownBlock = ob
  res : w.heap[r0]? = some (oW 0 0 0 (.slice none 0 0))
  box : w.heap[b3]? = some (oW F T u ev)
  row : NRow w0.heap.size w ev es
  apart : ev.ownBlock ≠ some b3 ∧ ev.ownBlock ≠ some r0
section
variable {w0 w w1 : World} {p r0 b3 : Nat} {ob : Option Nat} {bs t : List Nat} {F T : Int} {u : Nat} {ev : Value} {es : List Int}
theorem rd_turned {S : Nat → Prop} {v : Value} (h : RdAt w p v bs) (ht : Turned S w w1) (hp : ¬ S p) (hs : ∀ b, v.ownBlock = some b → ¬ S b) : RdAt w1 p v bs :=
  ⟨(ht.block _ (heap_lt h.1) hp).trans h.1, lies_turned h.2.1 ht hs, h.2.2⟩
end
/-- The beginning. -/
theorem ws_start {w0 w1 : World} {p r0 : Nat} {ob : Option Nat} {t : List Nat} (hp : p < w0.heap.size) (ho : ∀ g, ob = some g → g < w0.heap.size) (hr0 : r0 = w0.heap.size) (h : Reads p (w0.alloc (oW 0 0 0 (.slice none 0 0))) w1) (hr : ∃ v1, RdAt w1 p v1 t ∧ v1.ownBlock = ob) :
    WS w0 p r0 w1.heap.size ob (w1.alloc (oW 0 0 0 (.slice none 0 0))) t 0 0 0 (.slice none 0 0) [] := by
  subst hr0
  have h0 := below_new w0 (oW 0 0 0 (.slice none 0 0))
  have h1 := below_new w1 (oW 0 0 0 (.slice none 0 0))
  have hs := h.size
  have hn : (w0.alloc (oW 0 0 0 (.slice none 0 0))).heap.size = w0.heap.size + 1 := by simp
  have hnew := heap_alloc_new w0 (oW 0 0 0 (.slice none 0 0))
  obtain ⟨v1, r1, r2⟩ := hr
  refine ⟨⟨hp, Nat.le_refl _, by omega, by omega, ho⟩, ((turned_of_below h0 (S := fun b => b = p)).trans h).trans (turned_of_below h1), ⟨v1, rd_turned (S := fun _ => False) r1 (turned_of_below h1) id (fun _ _ => id), r2⟩, ?_, heap_alloc_new _ _, ⟨rfl, .inl ⟨rfl, rfl⟩⟩, ⟨(fun e => (by cases e)), (fun e => (by cases e))⟩⟩
  exact (h1.block _ (by omega)).trans ((h.block _ (by omega) (by omega)).trans hnew)
/-! what is still to be read -/
def DE (F T : Int) (u : Nat) (k : Nat) (es : List Int) (bs : List Nat) : Option WtV := (rdE k bs).bind fun z => if z.2 = [] then some (F, T, u, es ++ z.1) else none
def D4 (F T : Int) (u : Nat) (bs : List Nat) : Option WtV := (rdN 0 1024 0 0 bs).bind fun k => DE F T u k.1 [] k.2
def D3 (F T : Int) (bs : List Nat) : Option WtV := (rdB bs).bind fun u => D4 F T u.1 u.2
def D2 (F : Int) (bs : List Nat) : Option WtV := (rdN 0 2147483647 0 0 bs).bind fun q => D3 F (q.1 : Int) q.2
def D1 (bs : List Nat) : Option WtV := (rdN 0 2147483647 0 0 bs).bind fun q => D2 (q.1 : Int) q.2
theorem dec_cons (x : Nat) (t : List Nat) : dec (x :: t) = if x = 183 then D1 t else none := by
  rw [dec]
  simp only [D1, D2, D3, D4, DE, List.nil_append]
theorem DE_step (F T : Int) (u k : Nat) (es : List Int) (bs : List Nat) : DE F T u (k + 1) es bs = (rdN 1 1024 0 0 bs).bind fun q => DE F T u k (es ++ [(q.1 : Int)]) q.2 := by
  unfold DE
  rw [rdE]
  cases rdN 1 1024 0 0 bs with
  | none => rfl
  | some q =>
    simp only [Option.bind_some]
    cases rdE k q.2 with
    | none => rfl
    | some z => simp only [Option.map_some, Option.bind_some, List.append_assoc, List.singleton_append]
theorem DE_zero (F T : Int) (u : Nat) (es : List Int) (bs : List Nat) : DE F T u 0 es bs = if bs = [] then some (F, T, u, es) else none := by
  show (if bs = [] then some (F, T, u, es ++ []) else none) = _
  rw [List.append_nil]
section
variable {w0 w w1 : World} {p r0 b3 : Nat} {ob : Option Nat} {bs t : List Nat} {F T : Int} {u : Nat} {ev : Value} {es : List Int}
end
def LI (w0 : World) (p r0 b3 : Nat) (ob : Option Nat) (R : Option WtV) (F T : Int) (u k : Nat) (w : World) (i : Nat) (bs : List Nat) (ev : Value) (es : List Int) : Prop :=
  i ≤ k ∧ es.length = i ∧ ((∀ x ∈ bs, x < 256) ∧ bs.length ≤ 140737488355328) ∧ DE F T u (k - i) es bs = R ∧ WS w0 p r0 b3 ob w bs F T u ev es
/-- What reading a witness answers. -/
def WitAns (p : Nat) (w : World) (r : Option WtV) (e : Ending) (w' : World) : Prop :=
  match r with
  | none => e = .panicked gaveUp ∧ Reads p w w'
  | some x => ∃ ev, e = .returned (.agg #[.int .i64 x.1, .int .i64 x.2.1, .int .u32 (x.2.2.1 : Nat), ev]) ∧ NRow w.heap.size w' ev x.2.2.2 ∧ Reads p w w'
end Go.Proofs.YtagibmgbjhemkaaGreat.W16
