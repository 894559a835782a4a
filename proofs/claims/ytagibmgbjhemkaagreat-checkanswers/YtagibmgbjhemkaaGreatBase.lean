/- What the walks over heaps share: facts kept from the walk, entries as cells, the map of places, what a call leaves alone. -/
import Derived.Test.YtagibmgbjhemkaaGreatRows
import Derived.Test.YtagibmgbjhemkaaGreatAbs
import Derived.WalkKit
import Derived.WalkSpells
import Derived.WalkLawsBesides
import Derived.Laws.Externs
import Derived.Laws.OwnMore
import Derived.OneCell
import Derived.OwnWalk
import Derived.BigQuiet
import Derived.BigRegion
import Derived.StillTailTactics
import Derived.Shelf.Abstract
import Derived.Deep.QuietTactic
import Derived.Maps.OwnSet
import Derived.Maps.OwnOps
namespace Go.Proofs.YtagibmgbjhemkaaGreat
open Go.RowKit Go.Maps

theorem hide {p : Prop} (h : p) : Hid p := h
theorem unhide {p : Prop} (h : Hid p) : p := h
theorem below_drewN {B : Nat} {a w : World} (h : Below B a w) (q : Nat) : Below B a (w.drewN q) := ⟨h.os, h.tape, h.output, h.size, h.block⟩
theorem mixed : Tryz.prog.follows .mixedOrders = true := by kernel_rfl

/-- A region that draws its order: its first n operations only read, the others go in their order. -/
theorem region_still_tail {P : Program} {id : Nat} {Q : Exit → Act → World → Prop} {a : Act} {w : World} {l : List Oper} (n : Nat) (hm : P.follows .mixedOrders = true) (hB : Region.lexTailB .any l.toArray n = true)
    (h : wpStill P l.toArray w.drew (fun a' => wpList P l.toArray Q (l.drop n) a' w.drew) (l.take n) a) : (Code.region id l.toArray true).wp P Q a w := wp_region_still_tail n hm hB h

/-! ### entries of three cells -/

def enc3 {X : Type} (a b c : X → Value) (es : List X) : List Value := es.flatMap fun e => [a e, b e, c e]

theorem enc3_cons {X : Type} (a b c : X → Value) (x : X) (es : List X) : enc3 a b c (x :: es) = a x :: b x :: c x :: enc3 a b c es := by simp [enc3]
theorem enc3_append {X : Type} (a b c : X → Value) (x y : List X) : enc3 a b c (x ++ y) = enc3 a b c x ++ enc3 a b c y := by simp [enc3]
theorem enc3_take {X : Type} (a b c : X → Value) : ∀ (es : List X) (i : Nat), (enc3 a b c es).take (i * 3) = enc3 a b c (es.take i)
  | [], i => by simp [enc3]
  | r :: rs, 0 => by simp [enc3]
  | r :: rs, i + 1 => by
    rw [show (i + 1) * 3 = i * 3 + 1 + 1 + 1 by omega, enc3_cons, List.take_succ_cons, List.take_succ_cons, List.take_succ_cons, enc3_take a b c rs i, List.take_succ_cons, enc3_cons]
theorem enc3_at {X : Type} [Inhabited X] (a b c : X → Value) : ∀ (es : List X) (i : Nat), i < es.length → (enc3 a b c es)[i * 3]? = some (a (at_ es i)) ∧ (enc3 a b c es)[i * 3 + 1]? = some (b (at_ es i)) ∧ (enc3 a b c es)[i * 3 + 2]? = some (c (at_ es i))
  | [], i, h => by simp at h
  | r :: rs, 0, _ => by simp [enc3, at_]
  | r :: rs, i + 1, h => by
    have := enc3_at a b c rs i (by simpa using h)
    rw [show (i + 1) * 3 = i * 3 + 1 + 1 + 1 by omega, show i * 3 + 1 + 1 + 1 + 1 = (i * 3 + 1) + 1 + 1 + 1 by omega, show i * 3 + 1 + 1 + 1 + 2 = (i * 3 + 2) + 1 + 1 + 1 by omega, enc3_cons]
    simp only [List.getElem?_cons_succ]
    have e : at_ (r :: rs) (i + 1) = at_ rs i := by simp [at_]
    rw [e]
    exact this
theorem enc3_set {X : Type} (a b c : X → Value) : ∀ (es : List X) (i : Nat) (x : X), enc3 a b c (es.set i x) = (((enc3 a b c es).set (i * 3) (a x)).set (i * 3 + 1) (b x)).set (i * 3 + 2) (c x)
  | [], i, x => by simp [enc3]
  | r :: rs, 0, x => by simp [enc3]
  | r :: rs, i + 1, x => by
    rw [List.set_cons_succ, enc3_cons, enc3_set a b c rs i x, enc3_cons, show (i + 1) * 3 = i * 3 + 1 + 1 + 1 by omega, show i * 3 + 1 + 1 + 1 + 1 = (i * 3 + 1) + 1 + 1 + 1 by omega, show i * 3 + 1 + 1 + 1 + 2 = (i * 3 + 2) + 1 + 1 + 1 by omega]
    simp only [List.set_cons_succ]
/-- What a call leaves alone: all old blocks but those of S. -/
structure Turned (S : Nat → Prop) (w w' : World) : Prop where
  os : w'.os = w.os
  tape : w'.tape = w.tape
  output : w'.output = w.output
  size : w.heap.size ≤ w'.heap.size
  block : ∀ k, k < w.heap.size → ¬ S k → w'.heap[k]? = w.heap[k]?

theorem Turned.refl (S : Nat → Prop) (w : World) : Turned S w w := ⟨rfl, rfl, rfl, Nat.le_refl _, fun _ _ _ => rfl⟩
theorem Turned.drewN {S : Nat → Prop} {w w' : World} (h : Turned S w w') (q : Nat) : Turned S w (w'.drewN q) := ⟨h.os, h.tape, h.output, h.size, h.block⟩
theorem Turned.trans {S : Nat → Prop} {a b c : World} (h : Turned S a b) (k : Turned S b c) : Turned S a c :=
  ⟨k.os.trans h.os, k.tape.trans h.tape, k.output.trans h.output, Nat.le_trans h.size k.size, fun i hi hs => (k.block i (Nat.lt_of_lt_of_le hi h.size) hs).trans (h.block i hi hs)⟩
theorem Turned.mono {S T : Nat → Prop} {a b : World} (h : Turned S a b) (hs : ∀ k, k < a.heap.size → S k → T k) : Turned T a b :=
  ⟨h.os, h.tape, h.output, h.size, fun i hi ht => h.block i hi (fun s => ht (hs i hi s))⟩
theorem Turned.below {S : Nat → Prop} {a b : World} {B : Nat} (h : Turned S a b) (hB : B ≤ a.heap.size) (hs : ∀ k, S k → B ≤ k) : Below B a b :=
  ⟨h.os, h.tape, h.output, h.size, fun k hk => h.block k (Nat.lt_of_lt_of_le hk hB) (fun s => by have := hs k s; omega)⟩
theorem turned_of_below {S : Nat → Prop} {a b : World} (h : Below a.heap.size a b) : Turned S a b := ⟨h.os, h.tape, h.output, h.size, fun k hk _ => h.block k hk⟩
theorem turned_setCell {S : Nat → Prop} (w : World) (x : Addr) (v : Value) (hs : S x.block) : Turned S w (w.setCell x v) :=
  ⟨rfl, rfl, rfl, by simp, fun k _ hn => heap_setCell_other w x k v (fun e => hn (e ▸ hs))⟩
theorem turned_grown {S : Nat → Prop} {w w' : World} {b : Nat} (h : w.grownBy w' (some b)) (hs : S b) : Turned S w w' :=
  ⟨h.os, h.tape, h.output, h.size, fun k hk hn => h.block k hk (fun e => hn (by cases e; exact hs))⟩

/-- A function value that answers whether one rank is before another, and turns nothing. -/
def Less (lv : Value) (gg : Int → Int) : Prop := ∃ (g : Nat) (cb : Array Value), lv = .func (.func g) #[] cb ∧ (∀ args w, (callFunc g args).run Tryz.prog w = .ok (.enter g args) w) ∧
  ∀ (x y : Int) (w : World), Calls Tryz.prog g (#[.int .i64 x, .int .i64 y] ++ cb) w fun e w' => e = .returned (.bool (decide (gg x < gg y))) ∧ w' = w

theorem par_int {k : Nat} (h : 0 < k) : ((par k : Nat) : Int) = ((k : Int) - 1) / 2 := by unfold par; omega

/-- A heap's blocks. -/
def Foot (p m : Nat) (v : Value) (k : Nat) : Prop := k = p ∨ k = m ∨ v.ownBlock = some k

theorem grown_drew {W w' : World} {x : Option Nat} (h : W.drew.grownBy w' x) : W.grownBy w' x := ⟨h.os, h.tape, h.output, h.size, h.block⟩

theorem cell_of_heap {w w' : World} {x : Addr} (h : w'.heap[x.block]? = w.heap[x.block]?) : w'.cell? x = w.cell? x := by
  unfold World.cell?; rw [h]

/-- A map's bound is its size. -/
theorem ownsMap_size {P : Program} {k : TypeId} {R : Value → Option (DataW Unit × List MemPlace)} {w : World} {b n : Nat} {D : DataW Unit} (h : w.ownsMap P k R b n D) : w.ownsMap P k R b (Maps.size D) D := by
  obtain ⟨es, clock, h1, h2, h3, h4⟩ := h
  refine ⟨es, clock, h1, h2, ?_, h4⟩
  rw [h4]
  show es.size ≤ List.length _
  rw [length_read]
  exact Nat.le_refl _

/-- The map tells where each key stands. -/
structure MapIs {α ρ : Type} [Inhabited (Ent α ρ)] (kl : α → Lit) (D : DataW Unit) (es : List (Ent α ρ)) : Prop where
  tidy : Maps.Tidy D
  once : KeysOnce es
  size : Maps.size D = es.length
  at_ : ∀ i, i < es.length → Maps.has D (kl (at_ es i).key) = true ∧ D.atKey (kl (at_ es i).key) (.lit (.int .i64 0)) = .lit (.int .i64 i)
  only : ∀ k, Maps.has D (kl k) = true → ∃ i, i < es.length ∧ (YtagibmgbjhemkaaGreat.at_ es i).key = k


theorem mapIs_swap {α ρ : Type} [Inhabited (Ent α ρ)] {kl : α → Lit} (inj : ∀ a b, kl a = kl b → a = b) {D : DataW Unit} {es : List (Ent α ρ)} (hkl : ∀ k, WideAt.IsKeyLit (kl k)) (h : MapIs kl D es) {i j : Nat} (hi : i < es.length) (hj : j < es.length) :
    MapIs kl ((D.put (kl (at_ (swapL es i j) i).key) (.lit (.int .i64 i))).put (kl (at_ (swapL es i j) j).key) (.lit (.int .i64 j))) (swapL es i j) := by
  have ai : at_ (swapL es i j) i = at_ es j := by
    rw [at_swap _ _ _ _ hi hj]
    by_cases e : i = j
    · rw [if_pos e, e]
    · rw [if_neg e, if_pos rfl]
  have aj : at_ (swapL es i j) j = at_ es i := by rw [at_swap _ _ _ _ hi hj, if_pos rfl]
  rw [ai, aj]
  have hk : KeysOnce (swapL es i j) := keysOnce_perm (swap_perm es i j hi hj).symm h.once
  have t1 := h.tidy.put (hkl (at_ es j).key) (.lit (.int .i64 i))
  have t2 := t1.put (hkl (at_ es i).key) (.lit (.int .i64 j))
  have h1 := (h.at_ j hj).1
  have h2 := (h.at_ i hi).1
  have h3 : Maps.has (D.put (kl (at_ es j).key) (.lit (.int .i64 i))) (kl (at_ es i).key) = true := by
    by_cases e : kl (at_ es i).key = kl (at_ es j).key
    · rw [e]; exact has_put_same h.tidy.isMap (hkl _) _
    · rw [has_put_other e]; exact h2
  have hkeep : ∀ k, Maps.has D k = true → Maps.has ((D.put (kl (at_ es j).key) (.lit (.int .i64 i))).put (kl (at_ es i).key) (.lit (.int .i64 j))) k = true := fun k hh => by
    by_cases e : k = kl (at_ es i).key
    · rw [e]; exact has_put_same t1.isMap (hkl _) _
    · rw [has_put_other e]
      by_cases e2 : k = kl (at_ es j).key
      · rw [e2]; exact has_put_same h.tidy.isMap (hkl _) _
      · rw [has_put_other e2]; exact hh
  refine ⟨t2, hk, ?_, ?_, ?_⟩
  · rw [size_put t1, if_pos h3, size_put h.tidy, if_pos h1, swapL_length]; exact h.size
  · intro m hm
    rw [swapL_length] at hm
    rw [at_swap _ _ _ _ hi hj]
    by_cases e : m = j
    · rw [if_pos e]
      exact ⟨hkeep _ h2, by rw [atKey_put_same t1.isMap (hkl _), e]⟩
    · rw [if_neg e]
      by_cases e2 : m = i
      · rw [if_pos e2]
        refine ⟨hkeep _ h1, ?_⟩
        rw [atKey_put_other (fun he => e (by rw [e2]; exact (keysOnce_at h.once hj hi (inj _ _ he)).symm)), atKey_put_same h.tidy.isMap (hkl _), e2]
      · rw [if_neg e2]
        refine ⟨hkeep _ (h.at_ m hm).1, ?_⟩
        rw [atKey_put_other (fun he => e2 (keysOnce_at h.once hm hi (inj _ _ he))), atKey_put_other (fun he => e (keysOnce_at h.once hm hj (inj _ _ he)))]
        exact (h.at_ m hm).2
  · intro k hh
    rw [swapL_length]
    have : Maps.has D (kl k) = true := by
      by_cases e : kl k = kl (at_ es i).key
      · rw [e]; exact h2
      · rw [has_put_other e] at hh
        by_cases e2 : kl k = kl (at_ es j).key
        · rw [e2]; exact h1
        · rw [has_put_other e2] at hh; exact hh
    obtain ⟨m, hm, he⟩ := h.only k this
    by_cases e : m = j
    · exact ⟨i, hi, by rw [ai, ← e]; exact he⟩
    · by_cases e2 : m = i
      · exact ⟨j, hj, by rw [aj, ← e2]; exact he⟩
      · exact ⟨m, hm, by rw [at_swap _ _ _ _ hi hj, if_neg e, if_neg e2]; exact he⟩

end Go.Proofs.YtagibmgbjhemkaaGreat
