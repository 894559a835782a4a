/- The closures that sort.Search is handed, notBelow and above. -/
import Derived.Test.YtdalghfhpekcfaaBase
namespace Go.Proofs.Ytdalghfhpekcfaa
open Go.RowKit Go.Shelf

set_option maxHeartbeats 400000 in
theorem nb1I (bs bx p g n c i : Nat) (x h : Int) (W : World) (hi : i < n) (hs : W.cell? ⟨bs, 0, none⟩ = some (.pointer (some ⟨p, 0, none⟩))) (hx : W.cell? ⟨bx, 0, none⟩ = some (.int .i64 x))
    (hp : W.cell? ⟨p, 0, none⟩ = some (.slice (some ⟨g, 0, none⟩) n c)) (hc : W.cell? ⟨g, i * 2 + 1, none⟩ = some (.int .i64 h)) :
    Calls Try.prog 91 (#[.int .i64 i] ++ #[.pointer (some ⟨bs, 0, none⟩), .pointer (some ⟨bx, 0, none⟩)]) W fun e w' => e = .returned (.bool (decide (x ≤ h))) ∧ ∃ q, w' = W.drewN q := by
  have hiz : (i : Int) < (n : Int) := by omega
  go_enter Try.func91, Try.ntmps91
  go_wp2
  go_quiet (fail)
  go_wp2
  go_ret
  exact ⟨rfl, _, rfl⟩

set_option maxHeartbeats 400000 in
theorem ab1I (bs bx p g n c i : Nat) (x h : Int) (W : World) (hi : i < n) (hs : W.cell? ⟨bs, 0, none⟩ = some (.pointer (some ⟨p, 0, none⟩))) (hx : W.cell? ⟨bx, 0, none⟩ = some (.int .i64 x))
    (hp : W.cell? ⟨p, 0, none⟩ = some (.slice (some ⟨g, 0, none⟩) n c)) (hc : W.cell? ⟨g, i * 2, none⟩ = some (.int .i64 h)) :
    Calls Try.prog 92 (#[.int .i64 i] ++ #[.pointer (some ⟨bs, 0, none⟩), .pointer (some ⟨bx, 0, none⟩)]) W fun e w' => e = .returned (.bool (decide (x < h))) ∧ ∃ q, w' = W.drewN q := by
  have hiz : (i : Int) < (n : Int) := by omega
  go_enter Try.func92, Try.ntmps92
  go_wp2
  go_quiet (fail)
  go_wp2
  go_ret
  exact ⟨rfl, _, rfl⟩

abbrev SetI := SetAt .i64 93 91

set_option maxHeartbeats 400000 in
theorem notBelowI {p : Nat} {v : Value} {rs : List (Int × Int)} (x : Int) (w : World) (hS : SetI w p v rs) (hC : Canon rs) (hn : rs.length ≤ 1099511627776) :
    Calls Try.prog 67 #[.pointer (some ⟨p, 0, none⟩), .int .i64 x] w fun e w' => ∃ r : Nat, e = .returned (.int .i64 r) ∧ r ≤ rs.length ∧ (∀ t, t < r → hi rs t < x) ∧ (∀ t, r ≤ t → t < rs.length → x ≤ hi rs t) ∧ Below w.heap.size w w' := by
  have hp := hS.cell
  have hb1 : Below w.heap.size w ((w.alloc (.cells #[.pointer (some ⟨p, 0, none⟩)] 52)).alloc (.cells #[.int .i64 x] 3)) := ((Below.refl _ _).alloc (Nat.le_refl _) _).alloc (by simp) _
  have c1 : ((w.alloc (.cells #[.pointer (some ⟨p, 0, none⟩)] 52)).alloc (.cells #[.int .i64 x] 3)).cell? ⟨w.heap.size, 0, none⟩ = some (.pointer (some ⟨p, 0, none⟩)) := cell_old _ (cell_box _ _ _)
  have c2 : ((w.alloc (.cells #[.pointer (some ⟨p, 0, none⟩)] 52)).alloc (.cells #[.int .i64 x] 3)).cell? ⟨w.heap.size + 1, 0, none⟩ = some (.int .i64 x) := by
    exact (congrArg _ (by simp)).trans (cell_box (w.alloc (.cells #[.pointer (some ⟨p, 0, none⟩)] 52)) (.int .i64 x) 3)
  have c3 : ((w.alloc (.cells #[.pointer (some ⟨p, 0, none⟩)] 52)).alloc (.cells #[.int .i64 x] 3)).cell? ⟨p, 0, none⟩ = some v := (hb1.cell (by exact hS.lt)).trans hp
  have HC := hide hC
  have HB := hide hb1
  rcases hS.two with ⟨rfl, rfl⟩ | ⟨g, c, rfl, hlc, -, hgl, hcl⟩
  · have HF := hide (search_any 91 #[.pointer (some ⟨w.heap.size, 0, none⟩), .pointer (some ⟨w.heap.size + 1, 0, none⟩)] 0 (fun _ => true) ((w.alloc (.cells #[.pointer (some ⟨p, 0, none⟩)] 52)).alloc (.cells #[.int .i64 x] 3)) (by omega) (enters_of Try.func91 (by kernel_rfl) rfl)
      (hide fun m i h => absurd h (Nat.not_lt_zero _)) (hide fun a b _ h => absurd h (Nat.not_lt_zero _)))
    clear hb1 c2 hS hC
    go_enter Try.func67, Try.ntmps67
    go_wp2_with fail
    refine (unhide HF).mono ?_
    rintro e w' ⟨r, rfl, hr, -, -, q, rfl⟩
    go_wp2_with fail
    go_ret
    exact ⟨r, rfl, hr, fun t ht => by omega, fun t h1 h2 => by simp at h2, below_drewN (unhide HB) q⟩
  · have HF := hide (search_any 91 #[.pointer (some ⟨w.heap.size, 0, none⟩), .pointer (some ⟨w.heap.size + 1, 0, none⟩)] rs.length (fun i => decide (x ≤ hi rs i)) ((w.alloc (.cells #[.pointer (some ⟨p, 0, none⟩)] 52)).alloc (.cells #[.int .i64 x] 3)) (by omega) (enters_of Try.func91 (by kernel_rfl) rfl)
      (hide fun m i h => by
        refine (nb1I w.heap.size (w.heap.size + 1) p g rs.length c i x (hi rs i) (((w.alloc (.cells #[.pointer (some ⟨p, 0, none⟩)] 52)).alloc (.cells #[.int .i64 x] 3)).drewN m) h c1 c2 c3 ((hb1.cell (by exact hgl)).trans (hcl i h).2)).mono ?_
        rintro e w' ⟨rfl, q, rfl⟩
        exact ⟨rfl, _, World.drewN_drewN _ _ _⟩)
      (hide fun a b h1 h2 h3 => by
        simp only [decide_eq_true_eq] at h3 ⊢
        rcases Nat.lt_or_ge a b with h4 | h4
        · have := hC.gap a b h4 h2; have := hC.run b h2; omega
        · have : a = b := by omega
          subst this; exact h3))
    clear hb1 c2 hS hC hcl
    go_enter Try.func67, Try.ntmps67
    go_wp2_with fail
    refine (unhide HF).mono ?_
    rintro e w' ⟨r, rfl, hr, h1, h2, q, rfl⟩
    have H1 := hide h1
    have H2 := hide h2
    clear h1 h2
    go_wp2_with fail
    go_ret
    exact ⟨r, rfl, hr, fun t ht => by have := unhide H1 t ht; simp at this; omega, fun t ht hl => by have := unhide H2 t ht hl; simpa using this, below_drewN (unhide HB) q⟩

set_option maxHeartbeats 400000 in
theorem aboveI {p : Nat} {v : Value} {rs : List (Int × Int)} (x : Int) (w : World) (hS : SetI w p v rs) (hC : Canon rs) (hn : rs.length ≤ 1099511627776) :
    Calls Try.prog 68 #[.pointer (some ⟨p, 0, none⟩), .int .i64 x] w fun e w' => ∃ r : Nat, e = .returned (.int .i64 r) ∧ r ≤ rs.length ∧ (∀ t, t < r → lo rs t ≤ x) ∧ (∀ t, r ≤ t → t < rs.length → x < lo rs t) ∧ Below w.heap.size w w' := by
  have hp := hS.cell
  have hb1 : Below w.heap.size w ((w.alloc (.cells #[.pointer (some ⟨p, 0, none⟩)] 52)).alloc (.cells #[.int .i64 x] 3)) := ((Below.refl _ _).alloc (Nat.le_refl _) _).alloc (by simp) _
  have c1 : ((w.alloc (.cells #[.pointer (some ⟨p, 0, none⟩)] 52)).alloc (.cells #[.int .i64 x] 3)).cell? ⟨w.heap.size, 0, none⟩ = some (.pointer (some ⟨p, 0, none⟩)) := cell_old _ (cell_box _ _ _)
  have c2 : ((w.alloc (.cells #[.pointer (some ⟨p, 0, none⟩)] 52)).alloc (.cells #[.int .i64 x] 3)).cell? ⟨w.heap.size + 1, 0, none⟩ = some (.int .i64 x) := by
    exact (congrArg _ (by simp)).trans (cell_box (w.alloc (.cells #[.pointer (some ⟨p, 0, none⟩)] 52)) (.int .i64 x) 3)
  have c3 : ((w.alloc (.cells #[.pointer (some ⟨p, 0, none⟩)] 52)).alloc (.cells #[.int .i64 x] 3)).cell? ⟨p, 0, none⟩ = some v := (hb1.cell (by exact hS.lt)).trans hp
  have HC := hide hC
  have HB := hide hb1
  rcases hS.two with ⟨rfl, rfl⟩ | ⟨g, c, rfl, hlc, -, hgl, hcl⟩
  · have HF := hide (search_any 92 #[.pointer (some ⟨w.heap.size, 0, none⟩), .pointer (some ⟨w.heap.size + 1, 0, none⟩)] 0 (fun _ => true) ((w.alloc (.cells #[.pointer (some ⟨p, 0, none⟩)] 52)).alloc (.cells #[.int .i64 x] 3)) (by omega) (enters_of Try.func92 (by kernel_rfl) rfl)
      (hide fun m i h => absurd h (Nat.not_lt_zero _)) (hide fun a b _ h => absurd h (Nat.not_lt_zero _)))
    clear hb1 c2 hS hC
    go_enter Try.func68, Try.ntmps68
    go_wp2_with fail
    refine (unhide HF).mono ?_
    rintro e w' ⟨r, rfl, hr, -, -, q, rfl⟩
    go_wp2_with fail
    go_ret
    exact ⟨r, rfl, hr, fun t ht => by omega, fun t h1 h2 => by simp at h2, below_drewN (unhide HB) q⟩
  · have HF := hide (search_any 92 #[.pointer (some ⟨w.heap.size, 0, none⟩), .pointer (some ⟨w.heap.size + 1, 0, none⟩)] rs.length (fun i => decide (x < lo rs i)) ((w.alloc (.cells #[.pointer (some ⟨p, 0, none⟩)] 52)).alloc (.cells #[.int .i64 x] 3)) (by omega) (enters_of Try.func92 (by kernel_rfl) rfl)
      (hide fun m i h => by
        refine (ab1I w.heap.size (w.heap.size + 1) p g rs.length c i x (lo rs i) (((w.alloc (.cells #[.pointer (some ⟨p, 0, none⟩)] 52)).alloc (.cells #[.int .i64 x] 3)).drewN m) h c1 c2 c3 ((hb1.cell (by exact hgl)).trans (hcl i h).1)).mono ?_
        rintro e w' ⟨rfl, q, rfl⟩
        exact ⟨rfl, _, World.drewN_drewN _ _ _⟩)
      (hide fun a b h1 h2 h3 => by
        simp only [decide_eq_true_eq] at h3 ⊢
        rcases Nat.lt_or_ge a b with h4 | h4
        · have := hC.gap a b h4 h2; have := hC.run a (by omega); omega
        · have : a = b := by omega
          subst this; exact h3))
    clear hb1 c2 hS hC hcl
    go_enter Try.func68, Try.ntmps68
    go_wp2_with fail
    refine (unhide HF).mono ?_
    rintro e w' ⟨r, rfl, hr, h1, h2, q, rfl⟩
    have H1 := hide h1
    have H2 := hide h2
    clear h1 h2
    go_wp2_with fail
    go_ret
    exact ⟨r, rfl, hr, fun t ht => by have := unhide H1 t ht; simp at this; omega, fun t ht hl => by have := unhide H2 t ht hl; simpa using this, below_drewN (unhide HB) q⟩

end Go.Proofs.Ytdalghfhpekcfaa
