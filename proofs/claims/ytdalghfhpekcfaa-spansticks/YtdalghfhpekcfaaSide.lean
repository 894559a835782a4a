/- Rows whose blocks lie beside the sets. -/
import Derived.Test.YtdalghfhpekcfaaRefAsk
import Derived.Test.YtdalghfhpekcfaaRefDone
import Derived.Test.YtdalghfhpekcfaaPlayMath
namespace Go.Proofs.Ytdalghfhpekcfaa
open Go.RowKit Go.Shelf

/-- W has the blocks of G. -/
def KeepG (G : Nat → Option Obj) (W : World) : Prop := ∀ g o, G g = some o → W.heap[g]? = some o
/-- A row whose block is one of G's. -/
def RowG (G : Nat → Option Obj) (e : TypeId) (s : Nat) (v : Value) (n : Nat) (xs : List Value) : Prop :=
  xs.length = n * s ∧ ((v = .slice none 0 0 ∧ n = 0) ∨ ∃ g cap cur, v = .slice (some ⟨g, 0, none⟩) n cap ∧ G g = some (.cells cur e (0, 0)) ∧ n ≤ cap ∧ cap ≤ maxLen ∧ cur.size = cap * s ∧ cur.toList.take (n * s) = xs)
theorem RowG.row {G : Nat → Option Obj} {e : TypeId} {s : Nat} {v : Value} {n : Nat} {xs : List Value} {W : World} (h : RowG G e s v n xs) (hW : KeepG G W) : W.ownsRow 0 e s v n xs :=
  ⟨h.1, h.2.imp id fun ⟨g, cap, cur, h1, h2, h3⟩ => ⟨g, cap, cur, h1, Nat.zero_le _, hW g _ h2, h3⟩⟩
theorem RowG.move {G G' : Nat → Option Obj} {e : TypeId} {s : Nat} {v : Value} {n : Nat} {xs : List Value} (h : RowG G e s v n xs) (hs : ∀ g cs, G g = some (.cells cs e (0, 0)) → G' g = some (.cells cs e (0, 0))) : RowG G' e s v n xs :=
  ⟨h.1, h.2.imp id fun ⟨g, cap, cur, h1, h2, h3⟩ => ⟨g, cap, cur, h1, hs g _ h2, h3⟩⟩
theorem RowG.mono {G G' : Nat → Option Obj} {e : TypeId} {s : Nat} {v : Value} {n : Nat} {xs : List Value} (h : RowG G e s v n xs) (hs : ∀ g o, G g = some o → G' g = some o) : RowG G' e s v n xs := h.move fun g _ hg => hs g _ hg
theorem RowG.shape {G : Nat → Option Obj} {e : TypeId} {s : Nat} {v : Value} {n : Nat} {xs : List Value} (h : RowG G e s v n xs) : ∃ a c, v = .slice a n c := by
  rcases h.2 with ⟨rfl, h3⟩ | ⟨g, cap, cur, rfl, -⟩
  · exact ⟨none, 0, by rw [h3]⟩
  · exact ⟨_, _, rfl⟩

/-- G, and whatever lies in W from n on. -/
def SnapG (G : Nat → Option Obj) (n : Nat) (W : World) : Nat → Option Obj := fun k => if n ≤ k then W.heap[k]? else G k
theorem snapG_new {G : Nat → Option Obj} {n g : Nat} {W : World} {o : Obj} (hg : n ≤ g) (h : W.heap[g]? = some o) : SnapG G n W g = some o := by simp [SnapG, hg, h]
theorem snapG_sub {G : Nat → Option Obj} {n : Nat} {W : World} (hG : ∀ g o, G g = some o → g < n) : ∀ g o, G g = some o → SnapG G n W g = some o := fun g o h => by
  have := hG g o h
  unfold SnapG
  rw [if_neg (by omega)]
  exact h
theorem rowG_snap {G : Nat → Option Obj} {n m : Nat} {W : World} {e : TypeId} {s : Nat} {v : Value} {xs : List Value} (hr : W.ownsRow n e s v m xs) : RowG (SnapG G n W) e s v m xs :=
  ⟨hr.1, hr.2.imp id fun ⟨g, cap, cur, h1, h2, h3, h4⟩ => ⟨g, cap, cur, h1, snapG_new h2 h3, h4⟩⟩
theorem newR_own {B : Nat} {w0 w : World} {v : Value} {rs : List (Int × Int)} (h : NewR B w0 w v rs) : w.ownsRow B 47 2 v rs.length (enc .i64 rs) :=
  ⟨h.row.1, h.row.2.imp id fun ⟨g, cap, cur, e, _, rest⟩ => ⟨g, cap, cur, e, h.blk g (by rw [e]; rfl), rest⟩⟩

/-- Two lists of deeds and two sets that say one thing, behind n calls. -/
def Fair (most : Int) (n : Nat) (rs : Nat → List (Int × Int)) (ds : Nat → List Deed) : Prop :=
  ∃ E : List Int, E.length ≤ n ∧ ∀ k, k < 2 → Canon (rs k) ∧ Agree (ds k) (rs k) ∧ Fit most (ds k) ∧ (ds k).length ≤ 81 * n ∧ Edged E (rs k)

/-- f, but x at k. -/
def put2 {α : Type} (f : Nat → α) (k : Nat) (x : α) : Nat → α := fun j => if j = k then x else f j
theorem put2_self {α : Type} (f : Nat → α) (k : Nat) (x : α) : put2 f k x k = x := by simp [put2]
theorem put2_other {α : Type} (f : Nat → α) {k j : Nat} (x : α) (h : j ≠ k) : put2 f k x j = f j := by simp [put2, h]

theorem Fair.len {most : Int} {n : Nat} {rs : Nat → List (Int × Int)} {ds : Nat → List Deed} (h : Fair most n rs ds) {k : Nat} (hk : k < 2) : (rs k).length ≤ n ∧ (ds k).length ≤ 81 * n := by
  obtain ⟨E, h1, h2⟩ := h
  obtain ⟨a, b, c, d, e⟩ := h2 k hk
  exact ⟨Nat.le_trans (edged_len a e) h1, d⟩
theorem Fair.keep {most : Int} {n : Nat} {rs : Nat → List (Int × Int)} {ds : Nat → List Deed} (h : Fair most n rs ds) : Fair most (n + 1) rs ds := by
  obtain ⟨E, h1, h2⟩ := h
  exact ⟨E, by omega, fun k hk => by obtain ⟨a, b, c, d, e⟩ := h2 k hk; exact ⟨a, b, c, by omega, e⟩⟩
theorem fit_snoc {most : Int} {ds : List Deed} (h : Fit most ds) {d : Deed} (h1 : -9223372036854775808 ≤ d.2.1) (h2 : d.2.2 ≤ most) : Fit most (ds ++ [d]) := fun e he => by
  rcases List.mem_append.1 he with g | g
  · exact h e g
  · simp at g; subst g; exact ⟨h1, h2⟩
theorem Fair.add {most : Int} {n : Nat} {rs : Nat → List (Int × Int)} {ds : Nat → List Deed} (h : Fair most n rs ds) {k : Nat} (hk : k < 2) {rs' : List (Int × Int)} {a b : Int} (hC : Canon rs') (h1 : ∀ x, In rs' x ↔ In (rs k) x ∨ a ≤ x ∧ x ≤ b) (ha : -9223372036854775808 ≤ a) (hb : b ≤ most) : Fair most (n + 1) (put2 rs k rs') (put2 ds k (ds k ++ [(true, a, b)])) := by
  obtain ⟨E, g1, g2⟩ := h
  refine ⟨a :: E, by simp; omega, fun j hj => ?_⟩
  by_cases e : j = k
  · subst e
    rw [put2_self, put2_self]
    obtain ⟨x1, x2, x3, x4, x5⟩ := g2 j hj
    exact ⟨hC, x2.add h1, fit_snoc x3 ha hb, by simp; omega, x5.add h1⟩
  · rw [put2_other _ _ e, put2_other _ _ e]
    obtain ⟨x1, x2, x3, x4, x5⟩ := g2 j hj
    exact ⟨x1, x2, x3, by omega, x5.mono a⟩
theorem Fair.cut {most : Int} {n : Nat} {rs : Nat → List (Int × Int)} {ds : Nat → List Deed} (h : Fair most n rs ds) {k : Nat} (hk : k < 2) {rs' : List (Int × Int)} {a b : Int} (hC : Canon rs') (h1 : ∀ x, In rs' x ↔ In (rs k) x ∧ ¬ (a ≤ x ∧ x ≤ b)) (ha : -9223372036854775808 ≤ a) (hb : b ≤ most) : Fair most (n + 1) (put2 rs k rs') (put2 ds k (ds k ++ [(false, a, b)])) := by
  obtain ⟨E, g1, g2⟩ := h
  refine ⟨(b + 1) :: E, by simp; omega, fun j hj => ?_⟩
  by_cases e : j = k
  · subst e
    rw [put2_self, put2_self]
    obtain ⟨x1, x2, x3, x4, x5⟩ := g2 j hj
    exact ⟨hC, x2.cut h1, fit_snoc x3 ha hb, by simp; omega, x5.cut h1⟩
  · rw [put2_other _ _ e, put2_other _ _ e]
    obtain ⟨x1, x2, x3, x4, x5⟩ := g2 j hj
    exact ⟨x1, x2, x3, by omega, x5.mono (b + 1)⟩
theorem Fair.clone {most : Int} {n : Nat} {rs : Nat → List (Int × Int)} {ds : Nat → List Deed} (h : Fair most n rs ds) {k j : Nat} (hk : k < 2) : Fair most (n + 1) (put2 rs j (rs k)) (put2 ds j (ds k)) := by
  obtain ⟨E, g1, g2⟩ := h.keep
  refine ⟨E, g1, fun i hi => ?_⟩
  by_cases e : i = j
  · subst e
    rw [put2_self, put2_self]
    exact g2 k hk
  · rw [put2_other _ _ e, put2_other _ _ e]
    exact g2 i hi
theorem Fair.join {most : Int} {n : Nat} {rs : Nat → List (Int × Int)} {ds : Nat → List Deed} (h : Fair most n rs ds) {k j : Nat} (hk : k < 2) (hj : j < 2) {rs' : List (Int × Int)} (hn : n ≤ 80) (hC : Canon rs') (h1 : ∀ x, In rs' x ↔ In (rs k) x ∨ In (rs j) x) (hlo : ∀ r ∈ rs j, -9223372036854775808 ≤ r.1 ∧ r.2 ≤ most) : Fair most (n + 1) (put2 rs k rs') (put2 ds k (ds k ++ deedsOf (rs j))) := by
  have hl := (h.len hj).1
  obtain ⟨E, g1, g2⟩ := h
  refine ⟨E, by omega, fun i hi => ?_⟩
  by_cases e : i = k
  · subst e
    rw [put2_self, put2_self]
    obtain ⟨x1, x2, x3, x4, x5⟩ := g2 i hi
    refine ⟨hC, x2.join h1, fun d hd => ?_, by rw [List.length_append, deedsOf_length]; omega, x5.join (g2 j hj).2.2.2.2 h1⟩
    rcases List.mem_append.1 hd with g | g
    · exact x3 d g
    · simp only [deedsOf, List.mem_map] at g
      obtain ⟨r, hr, rfl⟩ := g
      exact hlo r hr
  · rw [put2_other _ _ e, put2_other _ _ e]
    obtain ⟨x1, x2, x3, x4, x5⟩ := g2 i hi
    exact ⟨x1, x2, x3, by omega, x5⟩
end Go.Proofs.Ytdalghfhpekcfaa
