/- fault. -/
import Derived.Test.YtijgeoegeeejcaaLs13
namespace Go.Proofs.Ytijgeoegeeejcaa
open Go.RowKit Go.Maps
def lowB (x : EdV) : Bool := decide (x.1 < 1)
def awayB (ys : List Int) (x : EdV) : Bool := !decide (x.2.1 ∈ ys) || !decide (x.2.2.1 ∈ ys)
def badB (x : EdV) : Bool := (kept x.2.2.2).isNone
/-- What is wrong with a graph's lists. -/
def faultC (ys : List Int) (es : List EdV) (s : Int) : Int :=
  if (!decide ys.Nodup || !decide (es.map (·.1)).Nodup) = true then 2 else if es.any lowB = true then 1 else if (!decide (s ∈ ys) || es.any (awayB ys)) = true then 5 else if es.any badB = true then 7 else 0
theorem lowS (w : World) : Asks w 47 #[] lowB := fun x W _ => by
  have HB := hide (below_new W (oEd x))
  obtain ⟨c0, -, -, -⟩ := cellsEd (heap_alloc_new W (oEd x))
  unfold lowB
  obtain ⟨a, b, c, d⟩ := x
  (try dsimp only at c0)
  unfold oEd at *
  show Calls _ _ #[_] _ _
  by_cases h : a < 1
  · rw [decide_eq_true h]
    go_enter Try.func47, Try.ntmps47
    go_wp2_with fail
    go_ret
    exact ⟨by first | rfl | simp [h], HB⟩
  · rw [decide_eq_false h]
    go_enter Try.func47, Try.ntmps47
    go_wp2_with fail
    go_ret
    exact ⟨by first | rfl | simp [h], HB⟩
theorem badS (w : World) : Asks w 49 #[] badB := fun x W _ => by
  have HB := hide (below_new W (oEd x))
  obtain ⟨-, -, -, c3⟩ := cellsEd (heap_alloc_new W (oEd x))
  have C1 := hide (admitS x.2.2.2)
  unfold badB
  unfold ansAd at C1
  obtain ⟨a, b, c, d⟩ := x
  (try dsimp only at c3 C1)
  unfold oEd at *
  show Calls _ _ #[_] _ _
  cases hk : kept d with
  | none =>
    rw [hk] at C1
    (try dsimp only at C1)
    go_enter Try.func49, Try.ntmps49
    go_wp2_with fail
    refine (unhide C1 _).mono ?_
    rintro e w1 ⟨rfl, rfl⟩
    clear C1
    go_wp2_with fail
    go_ret
    exact ⟨by simp, HB⟩
  | some z =>
    rw [hk] at C1
    (try dsimp only at C1)
    go_enter Try.func49, Try.ntmps49
    go_wp2_with fail
    refine (unhide C1 _).mono ?_
    rintro e w1 ⟨rfl, rfl⟩
    clear C1
    go_wp2_with fail
    go_ret
    exact ⟨by simp, HB⟩
/-- The closure that asks whether a number is no vertex: the box of the list is vb. -/
theorem noneS {w : World} {vb : Nat} {vv : Value} {ys : List Int} (hb : w.cell? ⟨vb, 0, none⟩ = some vv) (h : NRow w vv ys) (hl : ys.length ≤ 1000000) (hs : ys.Pairwise (· ≤ ·)) (x : Int) :
    Calls Try.prog 42 #[.int .i64 x, .pointer (some ⟨vb, 0, none⟩)] w fun e w' => e = .returned (.bool (!decide (x ∈ ys))) ∧ ∃ q, w' = w.drewN q := by
  have C1 := hide (amongS x h hl hs)
  obtain ⟨a, c, rfl, -⟩ := brow_shape h
  generalize decide (x ∈ ys) = r at *
  clear h hl hs
  go_enter Try.func42, Try.ntmps42
  go_wp2_with fail
  refine (unhide C1).mono ?_
  rintro e w1 ⟨rfl, q, rfl⟩
  clear C1
  go_wp2_with fail
  go_ret
  exact ⟨rfl, q, rfl⟩
theorem cell_lt13 {w : World} {b o : Nat} {v : Value} (h : w.cell? ⟨b, o, none⟩ = some v) : b < w.heap.size := by
  rcases Nat.lt_or_ge b w.heap.size with q | q
  · exact q
  · unfold World.cell? at h
    rw [Array.getElem?_eq_none q] at h; cases h
set_option maxHeartbeats 1000000 in
set_option maxRecDepth 100000 in
theorem awayS {w : World} {vb fb : Nat} {vv : Value} {ys : List Int} (hf : w.cell? ⟨fb, 0, none⟩ = some (.func (.func 42) #[] #[.pointer (some ⟨vb, 0, none⟩)])) (hb : w.cell? ⟨vb, 0, none⟩ = some vv) (h : NRow w vv ys) (hl : ys.length ≤ 1000000) (hs : ys.Pairwise (· ≤ ·)) :
    Asks w 48 #[.pointer (some ⟨fb, 0, none⟩)] (awayB ys) := fun x W hW => by
  have hB := hW.trans ((below_new W (oEd x)).mono hW.size)
  have HB := hide (below_new W (oEd x))
  obtain ⟨-, c1, c2, -⟩ := cellsEd (heap_alloc_new W (oEd x))
  have HC : Hid (∀ (z : Int) (q : Nat), Calls Try.prog 42 #[.int .i64 z, .pointer (some ⟨vb, 0, none⟩)] ((W.alloc (oEd x)).drewN q) fun e w' => e = .returned (.bool (!decide (z ∈ ys))) ∧ ∃ q, w' = (W.alloc (oEd x)).drewN q) := fun z q => by
    have hB2 := below_drewN hB q
    refine (noneS ((hB2.cell (p := ⟨vb, 0, none⟩) (cell_lt13 hb)).trans hb) (nrow_below h hB2) hl hs z).mono ?_
    rintro e w' ⟨rfl, q', rfl⟩
    exact ⟨rfl, q + q', World.drewN_drewN _ _ _⟩
  have hF : (W.alloc (oEd x)).cell? ⟨fb, 0, none⟩ = some (.func (.func 42) #[] #[.pointer (some ⟨vb, 0, none⟩)]) := (hB.cell (p := ⟨fb, 0, none⟩) (cell_lt13 hf)).trans hf
  have eg : ∀ args w, (callFunc 42 args).run Try.prog w = .ok (.enter 42 args) w := enters_of Try.func42 (by kernel_rfl) rfl
  unfold awayB
  obtain ⟨a, u, v, d⟩ := x
  (try dsimp only at c1 c2)
  have C1 := hide (unhide HC u)
  have C2 := hide (unhide HC v)
  show Calls _ _ #[_, _] _ _
  (try dsimp only)
  generalize decide (u ∈ ys) = r1 at *
  generalize decide (v ∈ ys) = r2 at *
  clear HC hB hW h hl hs hf hb
  unfold oEd at *
  have C0 := hide (unhide C1 0)
  rw [World.drewN_zero] at C0
  cases r1 with
  | true =>
    go_enter Try.func48, Try.ntmps48
    go_wp2_with fail
    refine (unhide C0).mono ?_
    rintro e w1 ⟨rfl, q, rfl⟩
    go_wp2_with fail
    refine (unhide C2 _).mono ?_
    rintro e w2 ⟨rfl, q2, rfl⟩
    clear C0 C1 C2
    go_wp2_with fail
    go_ret
    exact ⟨by first | rfl | simp, below_drewN (unhide HB) _⟩
  | false =>
    go_enter Try.func48, Try.ntmps48
    go_wp2_with fail
    refine (unhide C0).mono ?_
    rintro e w1 ⟨rfl, q, rfl⟩
    clear C0 C1 C2
    go_wp2_with fail
    go_ret
    exact ⟨by first | rfl | simp, below_drewN (unhide HB) _⟩
end Go.Proofs.Ytijgeoegeeejcaa
