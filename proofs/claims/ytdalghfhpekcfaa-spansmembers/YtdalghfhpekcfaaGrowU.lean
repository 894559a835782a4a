/- Holds at a run of the set, in the form that a statement of open order wants: what is laid is laid behind. -/
import Derived.Test.YtdalghfhpekcfaaLiveU
import Derived.Shelf.SlSortCmp.QuietGrown
namespace Go.Proofs.Ytdalghfhpekcfaa
open Go.RowKit Go.Shelf

theorem grow_two (w : World) (a b : Obj) (q : Nat) : ((w.alloc a).alloc b).drewN q = Go.Sort.grow (w.drewN q) #[a, b] := by
  unfold Go.Sort.grow World.drewN World.alloc
  simp only [World.mk.injEq, and_true]
  apply Array.ext'
  simp

set_option maxHeartbeats 400000 in
theorem notBelowGU {p : Nat} {v : Value} {rs : List (Int × Int)} (x : Int) (w : World) (hS : SetU w p v rs) (hC : Canon rs) (hn : rs.length ≤ 1099511627776) :
    Calls Try.prog 60 #[.pointer (some ⟨p, 0, none⟩), .int .u8 x] w fun e w' => ∃ r : Nat, e = .returned (.int .i64 r) ∧ r ≤ rs.length ∧ (∀ t, t < r → hi rs t < x) ∧ (∀ t, r ≤ t → t < rs.length → x ≤ hi rs t) ∧ ∃ q os, w' = Go.Sort.grow (w.drewN q) os := by
  have hp := hS.cell
  have hb1 : Below w.heap.size w ((w.alloc (.cells #[.pointer (some ⟨p, 0, none⟩)] 28)).alloc (.cells #[.int .u8 x] 5)) := ((Below.refl _ _).alloc (Nat.le_refl _) _).alloc (by simp) _
  have c1 : ((w.alloc (.cells #[.pointer (some ⟨p, 0, none⟩)] 28)).alloc (.cells #[.int .u8 x] 5)).cell? ⟨w.heap.size, 0, none⟩ = some (.pointer (some ⟨p, 0, none⟩)) := cell_old _ (cell_box _ _ _)
  have c2 : ((w.alloc (.cells #[.pointer (some ⟨p, 0, none⟩)] 28)).alloc (.cells #[.int .u8 x] 5)).cell? ⟨w.heap.size + 1, 0, none⟩ = some (.int .u8 x) := by
    exact (congrArg _ (by simp)).trans (cell_box (w.alloc (.cells #[.pointer (some ⟨p, 0, none⟩)] 28)) (.int .u8 x) 5)
  have c3 : ((w.alloc (.cells #[.pointer (some ⟨p, 0, none⟩)] 28)).alloc (.cells #[.int .u8 x] 5)).cell? ⟨p, 0, none⟩ = some v := (hb1.cell (by exact hS.lt)).trans hp
  have HC := hide hC
  have HB := hide hb1
  rcases hS.two with ⟨rfl, rfl⟩ | ⟨g, c, rfl, hlc, -, hgl, hcl⟩
  · have HF := hide (search_any 83 #[.pointer (some ⟨w.heap.size, 0, none⟩), .pointer (some ⟨w.heap.size + 1, 0, none⟩)] 0 (fun _ => true) ((w.alloc (.cells #[.pointer (some ⟨p, 0, none⟩)] 28)).alloc (.cells #[.int .u8 x] 5)) (by omega) (enters_of Try.func83 (by kernel_rfl) rfl)
      (hide fun m i h => absurd h (Nat.not_lt_zero _)) (hide fun a b _ h => absurd h (Nat.not_lt_zero _)))
    clear hb1 c2 hS hC
    go_enter Try.func60, Try.ntmps60
    go_wp2_with fail
    refine (unhide HF).mono ?_
    rintro e w' ⟨r, rfl, hr, -, -, q, rfl⟩
    go_wp2_with fail
    go_ret
    exact ⟨r, rfl, hr, fun t ht => by omega, fun t h1 h2 => by simp at h2, q, #[.cells #[.pointer (some ⟨p, 0, none⟩)] 28, .cells #[.int .u8 x] 5], grow_two _ _ _ _⟩
  · have HF := hide (search_any 83 #[.pointer (some ⟨w.heap.size, 0, none⟩), .pointer (some ⟨w.heap.size + 1, 0, none⟩)] rs.length (fun i => decide (x ≤ hi rs i)) ((w.alloc (.cells #[.pointer (some ⟨p, 0, none⟩)] 28)).alloc (.cells #[.int .u8 x] 5)) (by omega) (enters_of Try.func83 (by kernel_rfl) rfl)
      (hide fun m i h => by
        refine (nb1U w.heap.size (w.heap.size + 1) p g rs.length c i x (hi rs i) (((w.alloc (.cells #[.pointer (some ⟨p, 0, none⟩)] 28)).alloc (.cells #[.int .u8 x] 5)).drewN m) h c1 c2 c3 ((hb1.cell (by exact hgl)).trans (hcl i h).2)).mono ?_
        rintro e w' ⟨rfl, q, rfl⟩
        exact ⟨rfl, _, World.drewN_drewN _ _ _⟩)
      (hide fun a b h1 h2 h3 => by
        simp only [decide_eq_true_eq] at h3 ⊢
        rcases Nat.lt_or_ge a b with h4 | h4
        · have := hC.gap a b h4 h2; have := hC.run b h2; omega
        · have : a = b := by omega
          subst this; exact h3))
    clear hb1 c2 hS hC hcl
    go_enter Try.func60, Try.ntmps60
    go_wp2_with fail
    refine (unhide HF).mono ?_
    rintro e w' ⟨r, rfl, hr, h1, h2, q, rfl⟩
    have H1 := hide h1
    have H2 := hide h2
    clear h1 h2
    go_wp2_with fail
    go_ret
    exact ⟨r, rfl, hr, fun t ht => by have := unhide H1 t ht; simp at this; omega, fun t ht hl => by have := unhide H2 t ht hl; simpa using this, q, #[.cells #[.pointer (some ⟨p, 0, none⟩)] 28, .cells #[.int .u8 x] 5], grow_two _ _ _ _⟩

set_option maxHeartbeats 400000 in
theorem holdsRunGU {p : Nat} {v : Value} {rs : List (Int × Int)} (i : Nat) (w : World) (hS : SetU w p v rs) (hC : Canon rs) (hn : rs.length ≤ 1099511627776) (hi1 : i < rs.length) :
    Calls Try.prog 17 #[.pointer (some ⟨p, 0, none⟩), .int .u8 (lo rs i), .int .u8 (hi rs i)] w fun e w' => e = .returned (.bool true) ∧ ∃ q os, w' = Go.Sort.grow (w.drewN q) os := by
  have HC := hide hC
  have HS := hide hS
  have HN := hide (notBelowGU (lo rs i) w hS hC hn)
  have hab : ¬ hi rs i < lo rs i := by have := hC.run i hi1; omega
  obtain ⟨rfl, rfl⟩ | ⟨g, c, rfl, hlc, -, hgl, hcl⟩ := hS.two
  · simp at hi1
  · have HL := hide (hcl i hi1)
    have hri := hC.run i hi1
    have HI : Hid (∀ r : Nat, r ≤ rs.length → (∀ t, t < r → hi rs t < lo rs i) → (∀ t, r ≤ t → t < rs.length → lo rs i ≤ hi rs t) → r = i) := fun r h0 h1 h2 => by
      rcases Nat.lt_trichotomy r i with h | h | h
      · have := h2 r (Nat.le_refl _) (by omega); have := hC.gap r i h hi1; omega
      · exact h
      · have := h1 i h; omega
    generalize lo rs i = y at *
    generalize hi rs i = z at *
    clear hS hC hcl
    go_enter Try.func17, Try.ntmps17
    go_wp2_with fail
    refine (unhide HN).mono ?_
    rintro e w' ⟨r, rfl, hr, h1, h2, q, os, rfl⟩
    obtain rfl := unhide HI r hr h1 h2
    have hgs : Below w.heap.size w (Go.Sort.grow (w.drewN q) os) := ⟨rfl, rfl, rfl, by simp [Go.Sort.grow], fun k hk => by
      show (w.heap ++ os)[k]? = _
      rw [Array.getElem?_append_left hk]⟩
    have hp := ((unhide HS).below hgs).cell
    have c1 := (hgs.cell (p := ⟨g, r * 2, none⟩) (by exact hgl)).trans (unhide HL).1
    have c2 := (hgs.cell (p := ⟨g, r * 2 + 1, none⟩) (by exact hgl)).trans (unhide HL).2
    have hlz : (r : Int) < (rs.length : Int) := by omega
    have HW : Hid (∃ q' os', Go.Sort.grow (w.drewN q) os = Go.Sort.grow (w.drewN q') os') := ⟨q, os, rfl⟩
    clear hgs h1 h2
    generalize Go.Sort.grow (w.drewN q) os = W at *
    have hyy : y ≤ y := Int.le_refl _
    have hzz : z ≤ z := Int.le_refl _
    go_wp2_with fail
    go_ret
    exact ⟨by simp, unhide HW⟩

end Go.Proofs.Ytdalghfhpekcfaa
