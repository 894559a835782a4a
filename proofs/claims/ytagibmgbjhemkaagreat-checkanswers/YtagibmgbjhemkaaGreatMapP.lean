/- A map whose elements are pointers to boxes: it leads each key to a block. -/
import Derived.Test.YtagibmgbjhemkaaGreatStAll
import Derived.LaidEql
import Derived.Shelf.Abstract
import Derived.Maps.OwnSet
import Derived.Maps.OwnOps
namespace Go.Proofs.YtagibmgbjhemkaaGreat
open Go.RowKit Go.Maps

theorem turned_map {S : Nat → Prop} {w w' : World} {b : Nat} (h : w.mapTurned w' b) (hs : S b) : Turned S w w' := turned_grown h.grown hs

/-! ### pointers as a map's elements -/

def ptr : Option Nat → Value
  | none => .pointer none
  | some q => .pointer (some ⟨q, 0, none⟩)
def dat : Option Nat → DataW Unit
  | none => .lit (.bool false)
  | some q => .lit (.int .i64 q)
def ptrElem : Value → Option (DataW Unit × List MemPlace)
  | .pointer none => some (.lit (.bool false), [])
  | .pointer (some ⟨q, 0, none⟩) => some (.lit (.int .i64 q), [])
  | _ => none
theorem ptrElem_ptr (o : Option Nat) : ptrElem (ptr o) = some (dat o, []) := by cases o <;> rfl
theorem ptrElem_inv {v : Value} {z : DataW Unit × List MemPlace} (h : ptrElem v = some z) : ∃ o, v = ptr o ∧ z = (dat o, []) := by
  unfold ptrElem at h
  split at h
  · exact ⟨none, rfl, (Option.some.inj h).symm⟩
  · rename_i q
    exact ⟨some q, rfl, (Option.some.inj h).symm⟩
  · cases h
theorem dat_inj {a b : Option Nat} (h : dat a = dat b) : a = b := by
  match a, b, h with
  | none, none, _ => rfl
  | some x, some y, h =>
    simp [dat] at h
    rw [show x = y by omega]

/-- How the keys of one type stand in a map. -/
structure KeyKit (K : Type) (kt : TypeId) (kv : K → Value) (kl : K → Lit) (ok : K → Prop) : Prop where
  law : Keyed Tryz.prog kt
  key : ∀ k, ok k → keyOf Tryz.prog kt (kv k) = some (kl k)
  lit : ∀ k, WideAt.IsKeyLit (kl k)
  inj : ∀ a b, kl a = kl b → a = b

/-- The map in block m leads each key k to f k; it has N entries. -/
def MapFn {K : Type} (kt : TypeId) (kl : K → Lit) (ok : K → Prop) (w : World) (m : Nat) (f : K → Option Nat) (N : Nat) : Prop :=
  ∃ D, w.ownsMap Tryz.prog kt ptrElem m N D ∧ Maps.Tidy D ∧ Maps.size D = N ∧ ∀ k, ok k → D.atKey (kl k) (dat none) = dat (f k) ∧ Maps.has D (kl k) = (f k).isSome

section
variable {K : Type} {kt t e : TypeId} {kv : K → Value} {kl : K → Lit} {ok : K → Prop} {w w' : World} {m N : Nat} {f : K → Option Nat}

theorem MapFn.kept (h : MapFn kt kl ok w m f N) (hk : w'.heap[m]? = w.heap[m]?) : MapFn kt kl ok w' m f N := by
  obtain ⟨D, ⟨es, clock, h1, h2⟩, h3⟩ := h
  exact ⟨D, ⟨es, clock, hk.trans h1, h2⟩, h3⟩
theorem MapFn.look (h : MapFn kt kl ok w m f N) (kk : KeyKit K kt kv kl ok) (ht : Tryz.prog.underlying t = some (.map kt e)) (hz : ∀ w, (zeroValue e).run Tryz.prog w = .ok (.pointer none) w) (k : K) (hk : ok k) :
    (Instr.lookup t (.map (some m)) (kv k) false).run Tryz.prog w = .ok (ptr (f k)) w := by
  obtain ⟨D, h1, h2, h3, h4⟩ := h
  obtain ⟨v, ps, hrun, hv⟩ := h1.lookup kk.law ht (hz w) (ptrElem_ptr none) (kk.key k hk)
  obtain ⟨o, rfl, ho⟩ := ptrElem_inv hv
  have h5 : dat (f k) = dat o := by rw [← (h4 k hk).1]; exact congrArg Prod.fst ho
  rw [dat_inj h5]
  exact hrun

theorem MapFn.look2 (h : MapFn kt kl ok w m f N) (kk : KeyKit K kt kv kl ok) (ht : Tryz.prog.underlying t = some (.map kt e)) (hz : ∀ w, (zeroValue e).run Tryz.prog w = .ok (.pointer none) w) (k : K) (hk : ok k) :
    (Instr.lookup t (.map (some m)) (kv k) true).run Tryz.prog w = .ok (.tuple #[ptr (f k), .bool (f k).isSome]) w := by
  obtain ⟨D, h1, h2, h3, h4⟩ := h
  obtain ⟨v, ps, hrun, hv⟩ := h1.look_ok kk.law ht (hz w) (ptrElem_ptr none) (kk.key k hk)
  obtain ⟨o, rfl, ho⟩ := ptrElem_inv hv
  have h5 : dat (f k) = dat o := by rw [← (h4 k hk).1]; exact congrArg Prod.fst ho
  rw [← (h4 k hk).2, dat_inj h5]
  exact hrun

/-- A key is led elsewhere. -/
def putK [DecidableEq K] (f : K → Option Nat) (k : K) (o : Option Nat) : K → Option Nat := fun x => if x = k then o else f x

theorem MapFn.put_ [DecidableEq K] (h : MapFn kt kl ok w m f N) (kk : KeyKit K kt kv kl ok) (ht : Tryz.prog.underlying t = some (.map kt e)) (hn : N < maxLen) (k : K) (hk : ok k) (q : Nat) :
    ∃ w', (Instr.mapUpdate t (.map (some m)) (kv k) (ptr (some q))).run Tryz.prog w = .ok () w' ∧ MapFn kt kl ok w' m (putK f k (some q)) (if (f k).isSome then N else N + 1) ∧ w.mapTurned w' m := by
  obtain ⟨D, h1, h2, h3, h4⟩ := h
  obtain ⟨w', hrun, g1, g2⟩ := h1.store kk.law ht hn (kk.key k hk) (ptrElem_ptr (some q))
  have hs : Maps.size (D.put (kl k) (dat (some q))) = if (f k).isSome then N else N + 1 := by rw [size_put h2, h3, (h4 k hk).2]
  refine ⟨w', hrun, ⟨_, hs ▸ ownsMap_size g1, h2.put (kk.lit k) _, hs, fun x hx => ?_⟩, g2⟩
  by_cases e : x = k
  · subst e
    rw [atKey_put_same h2.isMap (kk.lit x), has_put_same h2.isMap (kk.lit x)]
    simp [putK]
  · have hne : kl x ≠ kl k := fun he => e (kk.inj _ _ he)
    rw [atKey_put_other hne, has_put_other hne]
    simp only [putK, if_neg e]
    exact h4 x hx

theorem MapFn.del_ [DecidableEq K] (h : MapFn kt kl ok w m f (N + 1)) (kk : KeyKit K kt kv kl ok) (ht : Tryz.prog.underlying t = some (.map kt e)) (k : K) (hk : ok k) (hs : (f k).isSome = true) (ty : TypeId) :
    ∃ w', (Builtin.delete_ #[t, kt] ty #[.map (some m), kv k]).run Tryz.prog w = .ok (.tuple #[]) w' ∧ MapFn kt kl ok w' m (putK f k none) N ∧ w.mapTurned w' m := by
  obtain ⟨D, h1, h2, h3, h4⟩ := h
  obtain ⟨w', hrun, g1, g2⟩ := h1.drop kk.law ht (kk.key k hk) ty
  have hsz : Maps.size (D.del (kl k)) = N := by
    have := size_del (k := kl k) h2
    rw [(h4 k hk).2, hs, h3] at this
    simpa using this
  refine ⟨w', hrun, ⟨_, hsz ▸ ownsMap_size g1, h2.del _, hsz, fun x hx => ?_⟩, g2⟩
  by_cases e : x = k
  · subst e
    rw [atKey_del_same, has_del_same]
    simp [putK]
  · have hne : kl x ≠ kl k := fun he => e (kk.inj _ _ he)
    rw [atKey_del_other hne, has_del_other hne]
    simp only [putK, if_neg e]
    exact h4 x hx

theorem MapFn.len_ (h : MapFn kt kl ok w m f N) (ht : Tryz.prog.underlying t = some (.map kt e)) (ty : TypeId) : (Builtin.len_ #[t] ty #[.map (some m)]).run Tryz.prog w = .ok (.int .i64 N) w := by
  obtain ⟨D, h1, -, h3, -⟩ := h
  rw [← h3]
  exact h1.len ht ty

theorem mapFn_made (w : World) : MapFn kt kl ok (w.alloc (.map #[] 0)) w.heap.size (fun _ => none) 0 :=
  ⟨.map [], World.ownsMap_made w _ _ _, tidy_empty, rfl, fun _ _ => ⟨rfl, rfl⟩⟩
end

def klN : Int → Lit := fun k => Lit.int .i64 k
def okN : Int → Prop := fun k => (Lit.int .i64 k).wf = true
theorem kitN : KeyKit Int 3 (Value.int .i64) klN okN := ⟨int_keyed Tryz.underlying3, fun _ hk => keyOf_int_mk Tryz.underlying3 hk, fun k => by simp [klN, WideAt.IsKeyLit], fun a b h => by simpa [klN] using h⟩
theorem zeroENP (w : World) : (zeroValue 88).run Tryz.prog w = .ok (.pointer none) w := by kernel_rfl
theorem okN_of {k : Int} (h0 : 0 ≤ k) (h1 : k ≤ 2147483647) : okN k := WalkArith.wf_i64 (by omega)
end Go.Proofs.YtagibmgbjhemkaaGreat
