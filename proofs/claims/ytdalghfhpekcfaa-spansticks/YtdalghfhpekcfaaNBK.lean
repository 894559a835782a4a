/- The closures that sort.Search is handed, notBelow and above. -/
import Derived.Test.YtdalghfhpekcfaaBase
namespace Go.Proofs.Ytdalghfhpekcfaa
open Go.RowKit Go.Shelf

set_option maxHeartbeats 400000 in
theorem nb1K (bs bx p g n c i : Nat) (x h : Int) (W : World) (hi : i < n) (hs : W.cell? ⟨bs, 0, none⟩ = some (.pointer (some ⟨p, 0, none⟩))) (hx : W.cell? ⟨bx, 0, none⟩ = some (.int .i8 x))
    (hp : W.cell? ⟨p, 0, none⟩ = some (.slice (some ⟨g, 0, none⟩) n c)) (hc : W.cell? ⟨g, i * 2 + 1, none⟩ = some (.int .i8 h)) :
    Calls Try.prog 99 (#[.int .i64 i] ++ #[.pointer (some ⟨bs, 0, none⟩), .pointer (some ⟨bx, 0, none⟩)]) W fun e w' => e = .returned (.bool (decide (x ≤ h))) ∧ ∃ q, w' = W.drewN q := by
  have hiz : (i : Int) < (n : Int) := by omega
  go_enter Try.func99, Try.ntmps99
  go_wp2
  go_quiet (fail)
  go_wp2
  go_ret
  exact ⟨rfl, _, rfl⟩

set_option maxHeartbeats 400000 in
theorem ab1K (bs bx p g n c i : Nat) (x h : Int) (W : World) (hi : i < n) (hs : W.cell? ⟨bs, 0, none⟩ = some (.pointer (some ⟨p, 0, none⟩))) (hx : W.cell? ⟨bx, 0, none⟩ = some (.int .i8 x))
    (hp : W.cell? ⟨p, 0, none⟩ = some (.slice (some ⟨g, 0, none⟩) n c)) (hc : W.cell? ⟨g, i * 2, none⟩ = some (.int .i8 h)) :
    Calls Try.prog 100 (#[.int .i64 i] ++ #[.pointer (some ⟨bs, 0, none⟩), .pointer (some ⟨bx, 0, none⟩)]) W fun e w' => e = .returned (.bool (decide (x < h))) ∧ ∃ q, w' = W.drewN q := by
  have hiz : (i : Int) < (n : Int) := by omega
  go_enter Try.func100, Try.ntmps100
  go_wp2
  go_quiet (fail)
  go_wp2
  go_ret
  exact ⟨rfl, _, rfl⟩

abbrev SetK := SetAt .i8 107 104

set_option maxHeartbeats 400000 in
theorem notBelowK {p : Nat} {v : Value} {rs : List (Int × Int)} (x : Int) (w : World) (hS : SetK w p v rs) (hC : Canon rs) (hn : rs.length ≤ 1099511627776) :
    Calls Try.prog 75 #[.pointer (some ⟨p, 0, none⟩), .int .i8 x] w fun e w' => ∃ r : Nat, e = .returned (.int .i64 r) ∧ r ≤ rs.length ∧ (∀ t, t < r → hi rs t < x) ∧ (∀ t, r ≤ t → t < rs.length → x ≤ hi rs t) ∧ Below w.heap.size w w' := by
  have hp := hS.cell
  have hb1 : Below w.heap.size w ((w.alloc (.cells #[.pointer (some ⟨p, 0, none⟩)] 72)).alloc (.cells #[.int .i8 x] 27)) := ((Below.refl _ _).alloc (Nat.le_refl _) _).alloc (by simp) _
  have c1 : ((w.alloc (.cells #[.pointer (some ⟨p, 0, none⟩)] 72)).alloc (.cells #[.int .i8 x] 27)).cell? ⟨w.heap.size, 0, none⟩ = some (.pointer (some ⟨p, 0, none⟩)) := cell_old _ (cell_box _ _ _)
  have c2 : ((w.alloc (.cells #[.pointer (some ⟨p, 0, none⟩)] 72)).alloc (.cells #[.int .i8 x] 27)).cell? ⟨w.heap.size + 1, 0, none⟩ = some (.int .i8 x) := by
    exact (congrArg _ (by simp)).trans (cell_box (w.alloc (.cells #[.pointer (some ⟨p, 0, none⟩)] 72)) (.int .i8 x) 27)
  have c3 : ((w.alloc (.cells #[.pointer (some ⟨p, 0, none⟩)] 72)).alloc (.cells #[.int .i8 x] 27)).cell? ⟨p, 0, none⟩ = some v := (hb1.cell (by exact hS.lt)).trans hp
  have HC := hide hC
  have HB := hide hb1
  rcases hS.two with ⟨rfl, rfl⟩ | ⟨g, c, rfl, hlc, -, hgl, hcl⟩
  · have HF := hide (search_any 99 #[.pointer (some ⟨w.heap.size, 0, none⟩), .pointer (some ⟨w.heap.size + 1, 0, none⟩)] 0 (fun _ => true) ((w.alloc (.cells #[.pointer (some ⟨p, 0, none⟩)] 72)).alloc (.cells #[.int .i8 x] 27)) (by omega) (enters_of Try.func99 (by kernel_rfl) rfl)
      (hide fun m i h => absurd h (Nat.not_lt_zero _)) (hide fun a b _ h => absurd h (Nat.not_lt_zero _)))
    clear hb1 c2 hS hC
    go_enter Try.func75, Try.ntmps75
    go_wp2_with fail
    refine (unhide HF).mono ?_
    rintro e w' ⟨r, rfl, hr, -, -, q, rfl⟩
    go_wp2_with fail
    go_ret
    exact ⟨r, rfl, hr, fun t ht => by omega, fun t h1 h2 => by simp at h2, below_drewN (unhide HB) q⟩
  · have HF := hide (search_any 99 #[.pointer (some ⟨w.heap.size, 0, none⟩), .pointer (some ⟨w.heap.size + 1, 0, none⟩)] rs.length (fun i => decide (x ≤ hi rs i)) ((w.alloc (.cells #[.pointer (some ⟨p, 0, none⟩)] 72)).alloc (.cells #[.int .i8 x] 27)) (by omega) (enters_of Try.func99 (by kernel_rfl) rfl)
      (hide fun m i h => by
        refine (nb1K w.heap.size (w.heap.size + 1) p g rs.length c i x (hi rs i) (((w.alloc (.cells #[.pointer (some ⟨p, 0, none⟩)] 72)).alloc (.cells #[.int .i8 x] 27)).drewN m) h c1 c2 c3 ((hb1.cell (by exact hgl)).trans (hcl i h).2)).mono ?_
        rintro e w' ⟨rfl, q, rfl⟩
        exact ⟨rfl, _, World.drewN_drewN _ _ _⟩)
      (hide fun a b h1 h2 h3 => by
        simp only [decide_eq_true_eq] at h3 ⊢
        rcases Nat.lt_or_ge a b with h4 | h4
        · have := hC.gap a b h4 h2; have := hC.run b h2; omega
        · have : a = b := by omega
          subst this; exact h3))
    clear hb1 c2 hS hC hcl
    go_enter Try.func75, Try.ntmps75
    go_wp2_with fail
    refine (unhide HF).mono ?_
    rintro e w' ⟨r, rfl, hr, h1, h2, q, rfl⟩
    have H1 := hide h1
    have H2 := hide h2
    clear h1 h2
    go_wp2_with fail
    go_ret
    exact ⟨r, rfl, hr, fun t ht => by have := unhide H1 t ht; simp at this; omega, fun t ht hl => by have := unhide H2 t ht hl; simpa using this, below_drewN (unhide HB) q⟩

set_option maxHeartbeats 400000 in
theorem aboveK {p : Nat} {v : Value} {rs : List (Int × Int)} (x : Int) (w : World) (hS : SetK w p v rs) (hC : Canon rs) (hn : rs.length ≤ 1099511627776) :
    Calls Try.prog 76 #[.pointer (some ⟨p, 0, none⟩), .int .i8 x] w fun e w' => ∃ r : Nat, e = .returned (.int .i64 r) ∧ r ≤ rs.length ∧ (∀ t, t < r → lo rs t ≤ x) ∧ (∀ t, r ≤ t → t < rs.length → x < lo rs t) ∧ Below w.heap.size w w' := by
  have hp := hS.cell
  have hb1 : Below w.heap.size w ((w.alloc (.cells #[.pointer (some ⟨p, 0, none⟩)] 72)).alloc (.cells #[.int .i8 x] 27)) := ((Below.refl _ _).alloc (Nat.le_refl _) _).alloc (by simp) _
  have c1 : ((w.alloc (.cells #[.pointer (some ⟨p, 0, none⟩)] 72)).alloc (.cells #[.int .i8 x] 27)).cell? ⟨w.heap.size, 0, none⟩ = some (.pointer (some ⟨p, 0, none⟩)) := cell_old _ (cell_box _ _ _)
  have c2 : ((w.alloc (.cells #[.pointer (some ⟨p, 0, none⟩)] 72)).alloc (.cells #[.int .i8 x] 27)).cell? ⟨w.heap.size + 1, 0, none⟩ = some (.int .i8 x) := by
    exact (congrArg _ (by simp)).trans (cell_box (w.alloc (.cells #[.pointer (some ⟨p, 0, none⟩)] 72)) (.int .i8 x) 27)
  have c3 : ((w.alloc (.cells #[.pointer (some ⟨p, 0, none⟩)] 72)).alloc (.cells #[.int .i8 x] 27)).cell? ⟨p, 0, none⟩ = some v := (hb1.cell (by exact hS.lt)).trans hp
  have HC := hide hC
  have HB := hide hb1
  rcases hS.two with ⟨rfl, rfl⟩ | ⟨g, c, rfl, hlc, -, hgl, hcl⟩
  · have HF := hide (search_any 100 #[.pointer (some ⟨w.heap.size, 0, none⟩), .pointer (some ⟨w.heap.size + 1, 0, none⟩)] 0 (fun _ => true) ((w.alloc (.cells #[.pointer (some ⟨p, 0, none⟩)] 72)).alloc (.cells #[.int .i8 x] 27)) (by omega) (enters_of Try.func100 (by kernel_rfl) rfl)
      (hide fun m i h => absurd h (Nat.not_lt_zero _)) (hide fun a b _ h => absurd h (Nat.not_lt_zero _)))
    clear hb1 c2 hS hC
    go_enter Try.func76, Try.ntmps76
    go_wp2_with fail
    refine (unhide HF).mono ?_
    rintro e w' ⟨r, rfl, hr, -, -, q, rfl⟩
    go_wp2_with fail
    go_ret
    exact ⟨r, rfl, hr, fun t ht => by omega, fun t h1 h2 => by simp at h2, below_drewN (unhide HB) q⟩
  · have HF := hide (search_any 100 #[.pointer (some ⟨w.heap.size, 0, none⟩), .pointer (some ⟨w.heap.size + 1, 0, none⟩)] rs.length (fun i => decide (x < lo rs i)) ((w.alloc (.cells #[.pointer (some ⟨p, 0, none⟩)] 72)).alloc (.cells #[.int .i8 x] 27)) (by omega) (enters_of Try.func100 (by kernel_rfl) rfl)
      (hide fun m i h => by
        refine (ab1K w.heap.size (w.heap.size + 1) p g rs.length c i x (lo rs i) (((w.alloc (.cells #[.pointer (some ⟨p, 0, none⟩)] 72)).alloc (.cells #[.int .i8 x] 27)).drewN m) h c1 c2 c3 ((hb1.cell (by exact hgl)).trans (hcl i h).1)).mono ?_
        rintro e w' ⟨rfl, q, rfl⟩
        exact ⟨rfl, _, World.drewN_drewN _ _ _⟩)
      (hide fun a b h1 h2 h3 => by
        simp only [decide_eq_true_eq] at h3 ⊢
        rcases Nat.lt_or_ge a b with h4 | h4
        · have := hC.gap a b h4 h2; have := hC.run a (by omega); omega
        · have : a = b := by omega
          subst this; exact h3))
    clear hb1 c2 hS hC hcl
    go_enter Try.func76, Try.ntmps76
    go_wp2_with fail
    refine (unhide HF).mono ?_
    rintro e w' ⟨r, rfl, hr, h1, h2, q, rfl⟩
    have H1 := hide h1
    have H2 := hide h2
    clear h1 h2
    go_wp2_with fail
    go_ret
    exact ⟨r, rfl, hr, fun t ht => by have := unhide H1 t ht; simp at this; omega, fun t ht hl => by have := unhide H2 t ht hl; simpa using this, below_drewN (unhide HB) q⟩

end Go.Proofs.Ytdalghfhpekcfaa
