/- A range over a function whose variable lies in a box. -/
import Derived.Test.YtdalghfhpekcfaaBase
import Derived.RangeFuncNested
namespace Go.Proofs.Ytdalghfhpekcfaa
open Go.RowKit

variable {F : Fence} {n : Nat} {P : Program}

theorem range_boxed {α : Type} {g : Operand} {ps : Array Tmp} {assign body : Code} {Q : Exit → Act → World → Prop} {a : Act} {w : World}
    (hro : F.round = none) (h1 : 1 ≤ n) {gf : Nat} {lb : Array Value} (hg : a.eval g = .func (.func gf) #[] lb) (hFg : F.fn gf) (eg : ∀ args w, (callFunc gf args).run P w = .ok (.enter gf args) w)
    {encs : α → Array Value} {Kp : World → World → Prop} {S Sp : List α → Prop} {N : Nat} {w0 : World} (hseq : SeqStopsK F (n - 1) P gf lb encs Kp S Sp N w0)
    (hKt : ∀ {A B C : World}, Kp A B → Kp B C → Kp A C) (hKb : ∀ (W : World) (l : Nat) (o o' : Obj), w.heap.size ≤ l → W.heap[l]? = some o → o.isCells = false → o.isWalk = false → Kp W (W.putObj l o')) (hb0 : Below w0.heap.size w0 w) (hps : ∀ x, (encs x).size = ps.size)
    (I : List α → World → Prop) (Ix : Code → List α → World → Prop) (hI : OwnFrom w.heap.size I) (hIx : ∀ c, OwnFrom w.heap.size (Ix c)) (h0 : I [] w) (sl : Nat) (ty : TypeId) (cs : α → Array Value)
    (hKa : ∀ pre (W : World) (o : Obj), I pre W → Kp W (W.alloc o))
    (hassign : ∀ (l : Nat) (x : α) (W : World) (K : Act → World → Prop), K { tmps := ((ps.zip (encs x)).foldl (fun t (p, v) => t.setIfInBounds p v) a.tmps).setIfInBounds sl (.pointer (some ⟨W.heap.size, 0, none⟩)), defers := [] } (W.alloc (.cells (cs x) ty)) →
      assign.wpIn (F.inRound l) (n - 1 - 1) P (Exit.then K (fun _ _ _ => False)) { tmps := (ps.zip (encs x)).foldl (fun t (p, v) => t.setIfInBounds p v) a.tmps, defers := [] } W)
    (hbody : ∀ (l : Nat) (pre : List α) (x : α) (rb : Nat) (W : World), I pre W → W.heap[rb]? = some (.cells (cs x) ty (0, 0)) → pre.length < N → body.wpIn (F.inRound l) (n - 1 - 1) P (ownPostK Kp I Ix (pre ++ [x]) W) { tmps := ((ps.zip (encs x)).foldl (fun t (p, v) => t.setIfInBounds p v) a.tmps).setIfInBounds sl (.pointer (some ⟨rb, 0, none⟩)), defers := [] } W)
    (hdone : ∀ (D : Nat) (xs : List α) (W : World), w.heap.size ≤ D → S xs → I xs W → W.heap[D]? = some (.deferred (some [])) → Q .normal { a with defers := { target := .collected D, args := #[] } :: a.defers } W)
    (hstop : ∀ (D : Nat) (c : Code) (pre : List α) (W : World), w.heap.size ≤ D → Sp pre → Ix c pre W → W.heap[D]? = some (.deferred (some [])) → c.wpIn F n P Q { a with defers := { target := .collected D, args := #[] } :: a.defers } W) :
    (Code.rangeFunc g ps assign body).wpIn F n P Q a w :=
  wpIn_rangeFunc_ownH hro h1 hg hFg eg hseq hKt hKb hb0 hps I Ix hI hIx h0
    (fun x a' W => ∃ rb, a' = { tmps := ((ps.zip (encs x)).foldl (fun t (p, v) => t.setIfInBounds p v) a.tmps).setIfInBounds sl (.pointer (some ⟨rb, 0, none⟩)), defers := [] } ∧ W.heap[rb]? = some (.cells (cs x) ty (0, 0)))
    (fun _ _ _ _ _ _ ⟨rb, e, hb⟩ hg hr => ⟨rb, e, (grownBy_keeps_cells hg (fun r e => (hr r e).2) hb rfl).trans hb⟩)
    (fun l pre x W K hi hK => hassign l x W K (hK _ _ ((KeepsOthers.alloc W _).from _) (hKa pre W _ hi) (hI.alloc _ hi) ⟨W.heap.size, rfl, World.alloc_heap_new W _⟩))
    (fun l pre x a' W _ _ hi ⟨rb, e, hb⟩ hl => by subst e; exact wpIn_mono (hbody l pre x rb W hi hb hl) ownPostG_of_ownPostK) hdone hstop

/-- The same where the body may break: what stands behind the range is asked once. -/
theorem range_boxed2 {α : Type} {g : Operand} {ps : Array Tmp} {assign body : Code} {Q : Exit → Act → World → Prop} {a : Act} {w : World}
    (hro : F.round = none) (h1 : 1 ≤ n) {gf : Nat} {lb : Array Value} (hg : a.eval g = .func (.func gf) #[] lb) (hFg : F.fn gf) (eg : ∀ args w, (callFunc gf args).run P w = .ok (.enter gf args) w)
    {encs : α → Array Value} {Kp : World → World → Prop} {S Sp : List α → Prop} {N : Nat} {w0 : World} (hseq : SeqStopsK F (n - 1) P gf lb encs Kp S Sp N w0)
    (hKt : ∀ {A B C : World}, Kp A B → Kp B C → Kp A C) (hKb : ∀ (W : World) (l : Nat) (o o' : Obj), w.heap.size ≤ l → W.heap[l]? = some o → o.isCells = false → o.isWalk = false → Kp W (W.putObj l o')) (hb0 : Below w0.heap.size w0 w) (hps : ∀ x, (encs x).size = ps.size)
    (I J : List α → World → Prop) (bad : List α → Prop) (id : Nat) (hI : OwnFrom w.heap.size I) (hJ : OwnFrom w.heap.size J) (h0 : I [] w) (sl : Nat) (ty : TypeId) (cs : α → Array Value)
    (hKa : ∀ pre (W : World) (o : Obj), I pre W → Kp W (W.alloc o)) (hbad : ∀ pre, Sp pre → ¬ bad pre) (hE : ∀ a' W', Q .normal a' W' → Q (.exit id) a' W')
    (hassign : ∀ (l : Nat) (x : α) (W : World) (K : Act → World → Prop), K { tmps := ((ps.zip (encs x)).foldl (fun t (p, v) => t.setIfInBounds p v) a.tmps).setIfInBounds sl (.pointer (some ⟨W.heap.size, 0, none⟩)), defers := [] } (W.alloc (.cells (cs x) ty)) →
      assign.wpIn (F.inRound l) (n - 1 - 1) P (Exit.then K (fun _ _ _ => False)) { tmps := (ps.zip (encs x)).foldl (fun t (p, v) => t.setIfInBounds p v) a.tmps, defers := [] } W)
    (hbody : ∀ (l : Nat) (pre : List α) (x : α) (rb : Nat) (W : World), I pre W → W.heap[rb]? = some (.cells (cs x) ty (0, 0)) → pre.length < N → body.wpIn (F.inRound l) (n - 1 - 1) P (ownPostK Kp I (fun c pre W => (c = .exit id ∧ J pre W) ∨ bad pre) (pre ++ [x]) W) { tmps := ((ps.zip (encs x)).foldl (fun t (p, v) => t.setIfInBounds p v) a.tmps).setIfInBounds sl (.pointer (some ⟨rb, 0, none⟩)), defers := [] } W)
    (hnext : ∀ (D : Nat) (pre : List α) (W : World), w.heap.size ≤ D → (S pre ∧ I pre W ∨ Sp pre ∧ J pre W) → W.heap[D]? = some (.deferred (some [])) → Q .normal { a with defers := { target := .collected D, args := #[] } :: a.defers } W) :
    (Code.rangeFunc g ps assign body).wpIn F n P Q a w :=
  range_boxed hro h1 hg hFg eg hseq hKt hKb hb0 hps I (fun c pre W => (c = .exit id ∧ J pre W) ∨ bad pre) hI
    (fun _ s _ _ _ hs hg hr => hs.imp (fun h => ⟨h.1, hJ s _ _ _ h.2 hg hr⟩) _root_.id) h0 sl ty cs hKa hassign hbody
    (fun D xs W h1 h2 h3 h4 => hnext D xs W h1 (.inl ⟨h2, h3⟩) h4)
    (fun D c pre W h1 h2 h3 h4 => by
      rcases h3 with ⟨rfl, h3⟩ | h3
      · exact wpIn_exit (hE _ _ (hnext D pre W h1 (.inr ⟨h2, h3⟩) h4))
      · exact absurd h3 (hbad pre h2))
end Go.Proofs.Ytdalghfhpekcfaa
