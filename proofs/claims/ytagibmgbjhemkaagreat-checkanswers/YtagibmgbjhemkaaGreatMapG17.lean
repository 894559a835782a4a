/- Maps of int to plain elements of one kind, as functions. -/
import Derived.Test.YtagibmgbjhemkaaGreatMapP
import Derived.Test.YtagibmgbjhemkaaGreatWkRow
import Derived.Test.YtagibmgbjhemkaaGreatWkMath
namespace Go.Proofs.YtagibmgbjhemkaaGreat
open Go.RowKit Go.Maps
/-- How the elements of one kind stand in a map. -/
structure ElKit (X : Type) (ev : X → Value) (ed : X → DataW Unit) (R : Value → Option (DataW Unit × List MemPlace)) : Prop where
  rd : ∀ x, R (ev x) = some (ed x, [])
  inv : ∀ v z, R v = some z → ∃ x, v = ev x ∧ z = (ed x, [])
  inj : ∀ a b, ed a = ed b → a = b
/-- The map in block m leads k to f k; it has n entries; x0 stands for what is not there. -/
def MapG {X : Type} (ed : X → DataW Unit) (R : Value → Option (DataW Unit × List MemPlace)) (x0 : X) (w : World) (m : Nat) (f : Int → Option X) (n : Nat) : Prop :=
  ∃ D, w.ownsMap Tryz.prog 3 R m n D ∧ Maps.Tidy D ∧ Maps.size D = n ∧ ∀ k, okN k → D.atKey (klN k) (ed x0) = ed ((f k).getD x0) ∧ Maps.has D (klN k) = (f k).isSome
/-- A key is led elsewhere. -/
def putG {X : Type} (f : Int → Option X) (k : Int) (o : Option X) : Int → Option X := fun x => if x = k then o else f x
section
variable {X : Type} {ev : X → Value} {ed : X → DataW Unit} {R : Value → Option (DataW Unit × List MemPlace)} {x0 : X} {w w' : World} {m n : Nat} {f : Int → Option X} {t e : TypeId}
theorem MapG.lt (h : MapG ed R x0 w m f n) : m < w.heap.size := by obtain ⟨D, h1, -⟩ := h; exact h1.lt
theorem MapG.kept (h : MapG ed R x0 w m f n) (hk : w'.heap[m]? = w.heap[m]?) : MapG ed R x0 w' m f n := by
  obtain ⟨D, ⟨es, clock, h1, h2⟩, h3⟩ := h
  exact ⟨D, ⟨es, clock, hk.trans h1, h2⟩, h3⟩
theorem MapG.look2 (h : MapG ed R x0 w m f n) (kk : ElKit X ev ed R) (ht : Tryz.prog.underlying t = some (.map 3 e)) (hz : ∀ w, (zeroValue e).run Tryz.prog w = .ok (ev x0) w) {k : Int} (hk : okN k) :
    (Instr.lookup t (.map (some m)) (.int .i64 k) true).run Tryz.prog w = .ok (.tuple #[ev ((f k).getD x0), .bool (f k).isSome]) w := by
  obtain ⟨D, h1, h2, h3, h4⟩ := h
  obtain ⟨v, ps, hrun, hv⟩ := h1.look_ok kitN.law ht (hz w) (kk.rd x0) (kitN.key k hk)
  obtain ⟨o, rfl, ho⟩ := kk.inv _ _ hv
  have h5 : ed ((f k).getD x0) = ed o := by rw [← (h4 k hk).1]; exact congrArg Prod.fst ho
  rw [kk.inj _ _ h5, ← (h4 k hk).2]
  exact hrun
theorem MapG.put (h : MapG ed R x0 w m f n) (kk : ElKit X ev ed R) (ht : Tryz.prog.underlying t = some (.map 3 e)) (hn : n < maxLen) {k : Int} (hk : okN k) (x : X) :
    ∃ w', (Instr.mapUpdate t (.map (some m)) (.int .i64 k) (ev x)).run Tryz.prog w = .ok () w' ∧ MapG ed R x0 w' m (putG f k (some x)) (if (f k).isSome then n else n + 1) ∧ w.mapTurned w' m := by
  obtain ⟨D, h1, h2, h3, h4⟩ := h
  obtain ⟨w', hrun, g1, g2⟩ := h1.store kitN.law ht hn (kitN.key k hk) (kk.rd x)
  have hs : Maps.size (D.put (klN k) (ed x)) = if (f k).isSome then n else n + 1 := by rw [size_put h2, h3, (h4 k hk).2]
  refine ⟨w', hrun, ⟨_, hs ▸ ownsMap_size g1, h2.put (kitN.lit k) _, hs, fun y hy => ?_⟩, g2⟩
  by_cases e : y = k
  · subst e
    rw [atKey_put_same h2.isMap (kitN.lit y), has_put_same h2.isMap (kitN.lit y)]
    simp [putG]
  · have hne : klN y ≠ klN k := fun he => e (kitN.inj _ _ he)
    rw [atKey_put_other hne, has_put_other hne]
    simp only [putG, if_neg e]
    exact h4 y hy
theorem mapG_made (w : World) : MapG ed R x0 (w.alloc (.map #[] 0)) w.heap.size (fun _ => none) 0 :=
  ⟨.map [], World.ownsMap_made w _ _ _, tidy_empty, rfl, fun _ _ => ⟨rfl, rfl⟩⟩
end
/-! ### records of edges as a map's elements -/
def evEd (x : EdgeV) : Value := .agg #[.int .i64 x.1, .int .i64 x.2.1, .int .i64 x.2.2.1, .int .u32 x.2.2.2]
def edEd (x : EdgeV) : DataW Unit := .agg [.lit (.int .i64 x.1), .lit (.int .i64 x.2.1), .lit (.int .i64 x.2.2.1), .lit (.int .u32 x.2.2.2)]
def rdEd : Value → Option (DataW Unit × List MemPlace)
  | .agg ⟨[.int .i64 e, .int .i64 u, .int .i64 v, .int .u32 b]⟩ => some (.agg [.lit (.int .i64 e), .lit (.int .i64 u), .lit (.int .i64 v), .lit (.int .u32 b)], [])
  | _ => none
theorem kitEd : ElKit EdgeV evEd edEd rdEd := by
  refine ⟨fun _ => rfl, fun v z h => ?_, fun a b h => ?_⟩
  · unfold rdEd at h
    split at h
    · rename_i e u v b
      exact ⟨(e, u, v, b), rfl, (Option.some.inj h).symm⟩
    · cases h
  · obtain ⟨a1, a2, a3, a4⟩ := a
    obtain ⟨b1, b2, b3, b4⟩ := b
    simp only [edEd, DataW.agg.injEq, List.cons.injEq, DataW.lit.injEq, Lit.int.injEq, true_and, and_true] at h
    rw [h.1, h.2.1, h.2.2.1, h.2.2.2]
theorem zeroEd (w : World) : (zeroValue 64).run Tryz.prog w = .ok (evEd (0, 0, 0, 0)) w := by kernel_rfl
/-- What is known: records of the store, not more of them than were asked for. -/
def Kn (ps : List (EdgeV × Bool)) (c : Nat) (w : World) (m : Nat) : Prop := ∃ f n, MapG edEd rdEd ((0, 0, 0, 0) : EdgeV) w m f n ∧ n ≤ c ∧ ∀ e x, okN e → f e = some x → lk ps e = some x
end Go.Proofs.YtagibmgbjhemkaaGreat
