/- The walk of bramblelaw02.SpansMembers. -/
import Derived.Test.YtdalghfhpekcfaaFilled
import Derived.Test.YtdalghfhpekcfaaGrowU
import Derived.Test.YtdalghfhpekcfaaAwake
import Derived.BigQuiet
namespace Go.Proofs.Ytdalghfhpekcfaa
open Go.RowKit Go.Shelf

/-- What the place k says of x. -/
theorem in_at {rs : List (Int × Int)} (hC : Canon rs) {x : Int} {k : Nat} (h1 : ∀ t, t < k → hi rs t < x) (h2 : k = rs.length ∨ k < rs.length ∧ x ≤ hi rs k) : In rs x ↔ k < rs.length ∧ lo rs k ≤ x := by
  constructor
  · rintro ⟨i, g1, g2, g3⟩
    rcases Nat.lt_trichotomy i k with h | rfl | h
    · have := h1 i h; omega
    · exact ⟨g1, g2⟩
    · rcases h2 with h2 | h2
      · omega
      · have := hC.gap k i h g1; omega
  · rintro ⟨g1, g2⟩
    rcases h2 with h2 | h2
    · omega
    · exact ⟨k, g1, g2, h2.2⟩

theorem next_at {rs : List (Int × Int)} {x : Int} {k : Nat} (h1 : ∀ t, t < k → hi rs t < x) (h2 : k = rs.length ∨ k < rs.length ∧ x ≤ hi rs k) {e : Ending} {kd : IntKind} (h : SaysNext kd e rs x) :
    (k = rs.length ∧ e = .returned (.tuple #[.int kd 0, .bool false])) ∨ (k < rs.length ∧ e = .returned (.tuple #[.int kd (max x (lo rs k)), .bool true])) := by
  obtain ⟨y, ok, rfl, ⟨rfl, rfl, h⟩ | ⟨rfl, r, g1, g2, g3, rfl⟩⟩ := h
  · rcases h2 with h2 | h2
    · exact .inl ⟨h2, rfl⟩
    · have := h k h2.1; omega
  · have : r = k := by
      rcases Nat.lt_trichotomy r k with h | h | h
      · have := h1 r h; omega
      · exact h
      · have := g2 k h; rcases h2 with h2 | h2 <;> omega
    subst this
    exact .inr ⟨g1, rfl⟩

theorem below_grow (w : World) (q : Nat) (os : Array Obj) : Below w.heap.size w (Go.Sort.grow (w.drewN q) os) := ⟨rfl, rfl, rfl, by simp [Go.Sort.grow], fun k hk => by
  show (w.heap ++ os)[k]? = _
  rw [Array.getElem?_append_left hk]⟩

set_option maxHeartbeats 4000000 in
set_option maxRecDepth 100000 in
theorem members_some (sv : Value) (w : World) (HFL : Hid (Calls Try.prog 13 #[sv] w fun e w' => ∃ p rs, e = .returned (.pointer (some ⟨p, 0, none⟩)) ∧ rs.length ≤ 40 ∧ LiveU w.heap.size w p rs w')) :
    Calls Try.prog 6 #[sv] w fun e w' => e = .returned (.bool true) ∧ Below w.heap.size w w' := by
  go_enter Try.func6, Try.ntmps6
  go_wp2_with fail
  refine (unhide HFL).mono ?_
  rintro e w1 ⟨p, rs, rfl, hrs, L1⟩
  have HL1 := hide L1
  clear L1 HFL
  go_wp2_with fail
  refine (awake_any w1).mono ?_
  rintro e w2 ⟨rfl, hb2⟩
  have HC := hide (runsLU ((unhide HL1).step hb2) (by omega))
  clear hb2 HL1
  go_wp2_with fail
  refine (unhide HC).mono ?_
  rintro e w3 ⟨v', rfl, hown, L3, -⟩
  have hfit := L3.fits
  have HCan := hide L3.canon
  have HL3 := hide L3
  have hown0 := owns_weaken (unhide hown)
  rcases Nat.eq_zero_or_pos rs.length with h0 | hpos
  · obtain rfl : rs = [] := List.length_eq_zero_iff.1 h0
    obtain ⟨a, c, rfl⟩ : ∃ a c, v' = .slice a 0 c := by
      rcases hown0.2 with ⟨rfl, -⟩ | ⟨g, cap, cur, rfl, -⟩
      · exact ⟨_, _, rfl⟩
      · exact ⟨_, _, rfl⟩
    have HNX : Hid (∀ x, ¬ In [] x) := fun x h => by simp [In] at h
    clear hown hown0 hfit L3 h0 HCan
    go_wp2_with fail
    go_loopw [5, 6] (fun s5 s6 wr => ∃ (x : Nat), x ≤ 256 ∧ s5 = .int .i64 0 ∧ s6 = .int .i64 x ∧ LiveU w.heap.size w p [] wr) (fun _ s6 _ => 256 - (intOf s6).toNat)
    case atStart => exact ⟨0, by omega, rfl, rfl, unhide HL3⟩
    case round =>
      obtain ⟨x, hx, rfl, rfl, L⟩ := hrel
      by_cases hlt : x < 256
      · have hltz : (x : Int) < 256 := by omega
        have hwx : IntKind.wrap .u8 (x : Int) = (x : Int) := wrap_u8 (by omega) (by omega)
        have CN := hide (nextLU (x : Int) L (by simp))
        clear L
        go_wp2_with fail
        refine wp_loop_rounds 1 ?_
        rw [rounds_succ]
        go_wp2_with fail
        refine (unhide CN).mono ?_
        rintro e w4 ⟨hs, L4, -⟩
        obtain rfl : e = .returned (.tuple #[.int .u8 0, .bool false]) := by
          rcases next_at (k := 0) (fun t ht => absurd ht (Nat.not_lt_zero _)) (.inl rfl) hs with ⟨-, h⟩ | ⟨h, -⟩
          · exact h
          · simp at h
        have CH := hide (hasLU (x : Int) L4 (by simp))
        clear hs L4 CN
        go_wp2_with fail
        refine (unhide CH).mono ?_
        rintro e w5 ⟨hs, L5, -⟩
        obtain rfl := says_false hs (unhide HNX _)
        have CO := hide (holdsLU (x : Int) (x : Int) L5 (by simp))
        clear hs L5 CH
        go_wp2_with fail
        refine (unhide CO).mono ?_
        rintro e w6 ⟨hs, L6, -⟩
        obtain rfl := says_false hs (fun h => h.elim (fun h => by omega) (unhide HNX _))
        have CM := hide (meetsLU (x : Int) (x : Int) L6 (by simp))
        clear hs L6 CO
        go_wp2_with fail
        refine (unhide CM).mono ?_
        rintro e w7 ⟨hs, L7, -⟩
        obtain rfl := says_false hs (fun h => unhide HNX _ h.2)
        have HL7 := hide L7
        clear hs L7 CM
        go_wp2_with fail
        go_roundw
        case rel => exact ⟨x + 1, by omega, rfl, by go_num, unhide HL7⟩
        case measure => simp [intOf]; omega
      · obtain rfl : x = 256 := by omega
        have HBB := hide L.below
        clear L
        go_wp2_with fail
        refine wp_loop_rounds 1 ?_
        rw [rounds_succ]
        go_wp2_with fail
        go_ret
        exact ⟨rfl, unhide HBB⟩
  · obtain ⟨g, cap, cur, rfl, hnc, -, -, -, hgl, -⟩ := owns_rowed hown0 hpos
    have HCL := hide (owns_cells hown0)
    have HF : Hid (∀ i, i < rs.length → (0 ≤ lo rs i ∧ lo rs i ≤ hi rs i) ∧ hi rs i ≤ 255) := fun i hi1 => ⟨⟨(hfit i hi1).1, L3.canon.run i hi1⟩, (hfit i hi1).2⟩
    clear hown hown0 hfit L3
    generalize hN : rs.length = n at *
    go_wp2_with fail
    go_loopw [5, 6] (fun s5 s6 wr => ∃ (k x : Nat), k ≤ n ∧ x ≤ 256 ∧ s5 = .int .i64 k ∧ s6 = .int .i64 x ∧ Hid (∀ t, t < k → hi rs t < x) ∧ LiveU w.heap.size w p rs wr ∧ Below w3.heap.size w3 wr) (fun _ s6 _ => 256 - (intOf s6).toNat)
    case atStart => exact ⟨0, 0, Nat.zero_le _, by omega, rfl, rfl, fun t ht => absurd ht (Nat.not_lt_zero _), unhide HL3, Below.refl _ _⟩
    case round =>
      obtain ⟨k0, x, hk0, hx, rfl, rfl, K0, L, hB⟩ := hrel
      by_cases hlt : x < 256
      · have hltz : (x : Int) < 256 := by omega
        have HCL2 : Hid (∀ i, i < n → wr.cell? ⟨g, i * 2, none⟩ = some (.int .u8 (lo rs i)) ∧ wr.cell? ⟨g, i * 2 + 1, none⟩ = some (.int .u8 (hi rs i))) := fun i hi1 => ⟨(hB.cell (by exact hgl)).trans (unhide HCL i hi1).1, (hB.cell (by exact hgl)).trans (unhide HCL i hi1).2⟩
        have HL := hide L
        have HB := hide hB
        clear L hB
        go_wp2_with fail
        go_loopw [5] (fun s5 wq => ∃ k : Nat, k ≤ n ∧ s5 = .int .i64 k ∧ Hid (∀ t, t < k → hi rs t < x) ∧ wr = wq) (fun s5 _ => n - (intOf s5).toNat)
        case atStart => exact ⟨k0, hk0, rfl, K0, rfl⟩
        case round =>
          obtain ⟨k, hk, rfl, K, hwq⟩ := hrel
          subst hwq
          have hwx : IntKind.wrap .u8 (x : Int) = (x : Int) := wrap_u8 (by omega) (by omega)
          by_cases hkn : k < n
          · have hknz : (k : Int) < (n : Int) := by omega
            have c1 := (unhide HCL2 k hkn).1
            have c2 := (unhide HCL2 k hkn).2
            have hfk := unhide HF k hkn
            generalize hz : lo rs k = z at c1 hfk
            generalize hy : hi rs k = y at c2 hfk
            have HZ := hide hz
            have HYE := hide hy
            clear hz hy
            have hwz : IntKind.i64.wrap z = z := wrap_i64 (by omega) (by omega)
            have hwy : IntKind.i64.wrap y = y := wrap_i64 (by omega) (by omega)
            by_cases hyx : y < (x : Int)
            · go_wp2_with fail
              go_roundw
              case rel => exact ⟨k + 1, by omega, by go_num, fun t ht => by
                rcases Nat.lt_or_ge t k with h | h
                · exact unhide K t h
                · have : t = k := by omega
                  subst this; rw [unhide HYE]; exact hyx, trivial⟩
              case measure => simp [intOf]; omega
            · have HY : Hid ((x : Int) ≤ hi rs k) := by show _ ≤ _; rw [unhide HYE]; omega
              by_cases hzx : z ≤ (x : Int)
              · have HNI : Hid (In rs x) := (in_at (unhide HCan) (unhide K) (.inr ⟨by omega, unhide HY⟩)).2 ⟨by omega, by rw [unhide HZ]; exact hzx⟩
                have CN := hide (nextLU (x : Int) (unhide HL) (by omega))
                go_wp2_with fail
                refine (unhide CN).mono ?_
                rintro e w4 ⟨hs, L4, b4⟩
                obtain rfl : e = .returned (.tuple #[.int .u8 (max (x : Int) z), .bool true]) := by
                  rcases next_at (unhide K) (.inr ⟨by omega, unhide HY⟩) hs with ⟨h, -⟩ | ⟨-, h⟩
                  · omega
                  · rw [h, unhide HZ]
                have hmx : max (x : Int) z = (x : Int) := by omega
                rw [hmx]
                have CH := hide (hasLU (x : Int) L4 (by omega))
                have HB4 := hide ((unhide HB).trans (b4.mono (unhide HB).size))
                clear hs L4 b4 CN
                go_wp2_with fail
                refine (unhide CH).mono ?_
                rintro e w5 ⟨hs, L5, b5⟩
                obtain rfl := says_true hs (unhide HNI)
                have CO := hide (holdsLU (x : Int) (x : Int) L5 (by omega))
                have HB5 := hide ((unhide HB4).trans (b5.mono (unhide HB4).size))
                clear hs L5 b5 CH HB4
                go_wp2_with fail
                refine (unhide CO).mono ?_
                rintro e w6 ⟨hs, L6, b6⟩
                obtain rfl := says_true hs (.inr (unhide HNI))
                have CM := hide (meetsLU (x : Int) (x : Int) L6 (by omega))
                have HB6 := hide ((unhide HB5).trans (b6.mono (unhide HB5).size))
                clear hs L6 b6 CO HB5
                go_wp2_with fail
                refine (unhide CM).mono ?_
                rintro e w7 ⟨hs, L7, b7⟩
                obtain rfl := says_true hs (⟨Int.le_refl _, unhide HNI⟩)
                have HB7 := hide ((unhide HB6).trans (b7.mono (unhide HB6).size))
                have HL7 := hide L7
                have c7 : w7.cell? ⟨g, k * 2, none⟩ = some (.int .u8 z) := by rw [← unhide HZ]; exact ((unhide HB7).cell (by exact hgl)).trans (unhide HCL k hkn).1
                clear hs L7 b7 CM HB6
                go_wp2_with fail
                go_roundw
                case rel => exact ⟨k, x + 1, hk, by omega, rfl, by go_num, fun t ht => by have := unhide K t ht; omega, unhide HL7, unhide HB7⟩
                case measure => simp [intOf]; omega
              · have HNI : Hid (¬ In rs x) := fun h => by have := (in_at (unhide HCan) (unhide K) (.inr ⟨by omega, unhide HY⟩)).1 h; rw [unhide HZ] at this; omega
                have CN := hide (nextLU (x : Int) (unhide HL) (by omega))
                go_wp2_with fail
                refine (unhide CN).mono ?_
                rintro e w4 ⟨hs, L4, b4⟩
                obtain rfl : e = .returned (.tuple #[.int .u8 (max (x : Int) z), .bool true]) := by
                  rcases next_at (unhide K) (.inr ⟨by omega, unhide HY⟩) hs with ⟨h, -⟩ | ⟨-, h⟩
                  · omega
                  · rw [h, unhide HZ]
                have hmx : max (x : Int) z = z := by omega
                rw [hmx]
                have CH := hide (hasLU (x : Int) L4 (by omega))
                have HB4 := hide ((unhide HB).trans (b4.mono (unhide HB).size))
                clear hs L4 b4 CN
                go_wp2_with fail
                refine (unhide CH).mono ?_
                rintro e w5 ⟨hs, L5, b5⟩
                obtain rfl := says_false hs (unhide HNI)
                have CO := hide (holdsLU (x : Int) (x : Int) L5 (by omega))
                have HB5 := hide ((unhide HB4).trans (b5.mono (unhide HB4).size))
                clear hs L5 b5 CH HB4
                go_wp2_with fail
                refine (unhide CO).mono ?_
                rintro e w6 ⟨hs, L6, b6⟩
                obtain rfl := says_false hs (fun h => h.elim (fun h => by omega) (unhide HNI))
                have CM := hide (meetsLU (x : Int) (x : Int) L6 (by omega))
                have HB6 := hide ((unhide HB5).trans (b6.mono (unhide HB5).size))
                clear hs L6 b6 CO HB5
                go_wp2_with fail
                refine (unhide CM).mono ?_
                rintro e w7 ⟨hs, L7, b7⟩
                obtain rfl := says_false hs (fun h => unhide HNI h.2)
                have HB7 := hide ((unhide HB6).trans (b7.mono (unhide HB6).size))
                have HL7 := hide L7
                have c7 : w7.cell? ⟨g, k * 2, none⟩ = some (.int .u8 z) := by rw [← unhide HZ]; exact ((unhide HB7).cell (by exact hgl)).trans (unhide HCL k hkn).1
                clear hs L7 b7 CM HB6
                go_wp2_with fail
                go_roundw
                case rel => exact ⟨k, x + 1, hk, by omega, rfl, by go_num, fun t ht => by have := unhide K t ht; omega, unhide HL7, unhide HB7⟩
                case measure => simp [intOf]; omega
          · have hknz : ¬ (k : Int) < (n : Int) := by omega
            obtain rfl : k = n := by omega
            have HNI : Hid (¬ In rs x) := fun h => by have := (in_at (unhide HCan) (unhide K) (.inl hN.symm)).1 h; omega
            have CN := hide (nextLU (x : Int) (unhide HL) (by omega))
            go_wp2_with fail
            refine (unhide CN).mono ?_
            rintro e w4 ⟨hs, L4, b4⟩
            obtain rfl : e = .returned (.tuple #[.int .u8 0, .bool false]) := by
              rcases next_at (unhide K) (.inl hN.symm) hs with ⟨-, h⟩ | ⟨h, -⟩
              · exact h
              · omega
            have CH := hide (hasLU (x : Int) L4 (by omega))
            have HB4 := hide ((unhide HB).trans (b4.mono (unhide HB).size))
            clear hs L4 b4 CN
            go_wp2_with fail
            refine (unhide CH).mono ?_
            rintro e w5 ⟨hs, L5, b5⟩
            obtain rfl := says_false hs (unhide HNI)
            have CO := hide (holdsLU (x : Int) (x : Int) L5 (by omega))
            have HB5 := hide ((unhide HB4).trans (b5.mono (unhide HB4).size))
            clear hs L5 b5 CH HB4
            go_wp2_with fail
            refine (unhide CO).mono ?_
            rintro e w6 ⟨hs, L6, b6⟩
            obtain rfl := says_false hs (fun h => h.elim (fun h => by omega) (unhide HNI))
            have CM := hide (meetsLU (x : Int) (x : Int) L6 (by omega))
            have HB6 := hide ((unhide HB5).trans (b6.mono (unhide HB5).size))
            clear hs L6 b6 CO HB5
            go_wp2_with fail
            refine (unhide CM).mono ?_
            rintro e w7 ⟨hs, L7, b7⟩
            obtain rfl := says_false hs (fun h => unhide HNI h.2)
            have HB7 := hide ((unhide HB6).trans (b7.mono (unhide HB6).size))
            have HL7 := hide L7
            clear hs L7 b7 CM HB6
            go_wp2_with fail
            go_roundw
            case rel => exact ⟨k, x + 1, hk, by omega, rfl, by go_num, fun t ht => by have := unhide K t ht; omega, unhide HL7, unhide HB7⟩
            case measure => simp [intOf]; omega
      · obtain rfl : x = 256 := by omega
        have HL := hide L
        have HB := hide hB
        clear L hB K0
        go_wp2_with fail
        go_loopw [113] (fun s113 wq => ∃ i : Nat, i ≤ n ∧ s113 = .int .i64 i ∧ LiveU w.heap.size w p rs wq ∧ Below w3.heap.size w3 wq) (fun s _ => n - (intOf s).toNat)
        case atStart => exact ⟨0, Nat.zero_le _, rfl, unhide HL, unhide HB⟩
        case round =>
          obtain ⟨i, hin, rfl, L, hB⟩ := hrel
          by_cases hlt : i < n
          · have hltz : (i : Int) < (n : Int) := by omega
            have c1 : wr.cell? ⟨g, i * 2, none⟩ = some (.int .u8 (lo rs i)) := (hB.cell (by exact hgl)).trans (unhide HCL i hlt).1
            have c2 : wr.cell? ⟨g, i * 2 + 1, none⟩ = some (.int .u8 (hi rs i)) := (hB.cell (by exact hgl)).trans (unhide HCL i hlt).2
            have hfi := unhide HF i hlt
            have hWb : Below wr.heap.size wr (wr.alloc (.cells #[.int .u8 (lo rs i), .int .u8 (hi rs i)] 33)) := (Below.refl _ _).alloc (Nat.le_refl _) _
            have d1 : (wr.alloc (.cells #[.int .u8 (lo rs i), .int .u8 (hi rs i)] 33)).cell? ⟨wr.heap.size, 0, none⟩ = some (.int .u8 (lo rs i)) := by rw [World.cell?_alloc_at _ _ _ _ (by simp)]; rfl
            have d2 : (wr.alloc (.cells #[.int .u8 (lo rs i), .int .u8 (hi rs i)] 33)).cell? ⟨wr.heap.size, 1, none⟩ = some (.int .u8 (hi rs i)) := by rw [World.cell?_alloc_at _ _ _ _ (by simp)]; rfl
            have d3 : ∀ j, i = j + 1 → (wr.alloc (.cells #[.int .u8 (lo rs i), .int .u8 (hi rs i)] 33)).cell? ⟨g, j * 2 + 1, none⟩ = some (.int .u8 (hi rs j)) := fun j hj => cell_old _ ((hB.cell (by exact hgl)).trans (unhide HCL j (by omega)).2)
            have hgap : ∀ j : Nat, i = j + 1 → hi rs j + 1 < lo rs i := fun j hj => (unhide HCan).gap j i (by omega) (by omega)
            have hfj : ∀ j : Nat, i = j + 1 → 0 ≤ hi rs j ∧ hi rs j ≤ 255 := fun j hj => by have := unhide HF j (by omega); omega
            obtain ⟨vset, hvset, -⟩ := L.set
            have hWs : wr.heap.size < (wr.alloc (.cells #[.int .u8 (lo rs i), .int .u8 (hi rs i)] 33)).heap.size := World.block_lt_of_cell? _ _ d1
            have CO : Hid (∀ q os, Calls Try.prog 17 #[.pointer (some ⟨p, 0, none⟩), .int .u8 (lo rs i), .int .u8 (hi rs i)] (Go.Sort.grow ((wr.alloc (.cells #[.int .u8 (lo rs i), .int .u8 (hi rs i)] 33)).drewN q) os) fun e w' => e = .returned (.bool true) ∧ ∃ q' os', w' = Go.Sort.grow ((Go.Sort.grow ((wr.alloc (.cells #[.int .u8 (lo rs i), .int .u8 (hi rs i)] 33)).drewN q) os).drewN q') os') := fun q os =>
              holdsRunGU i _ (hvset.below (hWb.trans ((below_grow _ q os).mono (by omega)))) (unhide HCan) (by omega) (by omega)
            have HLIVE : Hid (∀ q os, LiveU w.heap.size w p rs (Go.Sort.grow ((wr.alloc (.cells #[.int .u8 (lo rs i), .int .u8 (hi rs i)] 33)).drewN q) os) ∧ Below w3.heap.size w3 (Go.Sort.grow ((wr.alloc (.cells #[.int .u8 (lo rs i), .int .u8 (hi rs i)] 33)).drewN q) os)) := fun q os => by
              have hW := hWb.trans ((below_grow (wr.alloc (.cells #[.int .u8 (lo rs i), .int .u8 (hi rs i)] 33)) q os).mono (by omega))
              exact ⟨L.step hW, hB.trans (hW.mono hB.size)⟩
            have m1 := fun q os => cell_grown (World.block_lt_of_cell? _ _ d1) d1 q os
            have m2 := fun q os => cell_grown (World.block_lt_of_cell? _ _ d2) d2 q os
            have m3 : Hid (∀ j, i = j + 1 → ∀ q os, (Go.Sort.grow ((wr.alloc (.cells #[.int .u8 (lo rs i), .int .u8 (hi rs i)] 33)).drewN q) os).cell? ⟨g, j * 2 + 1, none⟩ = some (.int .u8 (hi rs j))) := fun j hj q os => cell_grown (World.block_lt_of_cell? _ _ (d3 j hj)) (d3 j hj) q os
            have mixed : Try.prog.follows .mixedOrders = true := by kernel_rfl
            clear hWb hvset hWs d1 d2 d3 L hB
            generalize lo rs i = z at *
            generalize hi rs i = y at *
            have hwz : IntKind.i64.wrap z = z := wrap_i64 (by omega) (by omega)
            have hzy : decide (y < z) = false := by simp; omega
            rcases Nat.eq_zero_or_pos i with hi0 | hi0
            · subst hi0
              clear hgap hfj m3
              simp only [Nat.zero_mul, Nat.zero_add] at *
              go_upto_region 20 with fail
              generalize wr.alloc (.cells #[.int .u8 z, .int .u8 y] 33) = W at *
              go_cut [149] from 114 (fun s149 wq => s149 = .bool false ∧ Hid (LiveU w.heap.size w p rs wq ∧ Below w3.heap.size w3 wq))
              case first =>
                refine wp_region_quiet_grown (by assumption) (by kernel_rfl) ?_
                repeat (first | go_big_quiet_skip | quiet_step ((go_at_call 17; exact Calls.grown_of (unhide CO _ _))))
                refine wpQuiet_nil ?_
                intro _ hw'
                obtain ⟨⟨nq, osq⟩, hw''⟩ := hw'
                subst hw''
                go_wp2_with fail
                go_meet
                case rel => exact ⟨rfl, unhide HLIVE nq osq⟩
              case rest =>
                obtain ⟨rfl, HLL⟩ := hcut
                clear m1 m2 CO HLIVE
                go_wp2_with fail
                go_roundw
                case rel => exact ⟨0 + 1, by omega, by go_num, (unhide HLL).1, (unhide HLL).2⟩
                case measure => simp [intOf]; omega
            · obtain ⟨j, hj⟩ : ∃ j, i = j + 1 := ⟨i - 1, by omega⟩
              have m4 := unhide m3 j hj
              have hg1 := hgap j hj
              have hg2 := hfj j hj
              generalize hi rs j = u at *
              have hwj : IntKind.i64.wrap ((i : Int) - 1) = (j : Int) := by rw [IntKind.wrap_i64]; omega
              have hjz : (j : Int) < (n : Int) := by omega
              have hipos : decide ((0 : Int) < (i : Int)) = true := by simp; omega
              have hipos2 : decide (0 < i) = true := by simp; omega
              have hwu : IntKind.i64.wrap u = u := wrap_i64 (by omega) (by omega)
              have hwu1 : IntKind.i64.wrap (u + 1) = u + 1 := wrap_i64 (by omega) (by omega)
              have hfin : decide (z ≤ u + 1) = false := by simp; omega
              have HHJ := hide hj
              clear hgap hfj m3 hj hi0
              go_upto_region 20 with fail
              generalize wr.alloc (.cells #[.int .u8 z, .int .u8 y] 33) = W at *
              go_cut [149] from 114 (fun s149 wq => s149 = .bool false ∧ Hid (LiveU w.heap.size w p rs wq ∧ Below w3.heap.size w3 wq))
              case first =>
                go_quiet_grown ((go_at_call 17; exact Calls.grown_of (unhide CO _ _)))
                go_wp2_with fail
                go_meet
                case rel => exact ⟨rfl, unhide HLIVE nq osq⟩
              case rest =>
                obtain ⟨rfl, HLL⟩ := hcut
                clear m1 m2 CO HLIVE
                go_wp2_with fail
                go_roundw
                case rel => exact ⟨i + 1, by omega, by go_num, (unhide HLL).1, (unhide HLL).2⟩
                case measure => simp [intOf]; omega
          · obtain rfl : i = n := by omega
            have HBB := hide L.below
            clear L hB
            go_wp2_with fail
            go_ret
            exact ⟨rfl, unhide HBB⟩
end Go.Proofs.Ytdalghfhpekcfaa
