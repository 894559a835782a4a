/- The walk of bramblelaw02.SpansWays. -/
import Derived.Test.YtdalghfhpekcfaaHerdU
import Derived.Test.YtdalghfhpekcfaaFilled
import Derived.Test.YtdalghfhpekcfaaAwake
namespace Go.Proofs.Ytdalghfhpekcfaa
open Go.RowKit Go.Shelf

/-- The four sets of the statement, and a block or two beside them. -/
structure Four' (w : World) (ps pt pu : Nat) (a b u : List (Int × Int)) (G : Nat → Option Obj) (wr : World) : Prop where
  herd : ∃ F, HerdU w.heap.size w F G wr ∧ F ps = some a ∧ F pt = some b ∧ F pu = some u
  apart : pu ≠ ps ∧ pu ≠ pt

/-- u's numbers when t runs of b are cut. -/
structure CutOff (a b u : List (Int × Int)) (t : Nat) : Prop where
  canon : Canon u
  tell : ∀ x, In u x ↔ (In a x ∨ In b x) ∧ ¬ In (b.take t) x
  len : u.length ≤ 80 + t

theorem not_taken {b : List (Int × Int)} (hb : Canon b) {t : Nat} (ht : t < b.length) {x : Int} (h1 : lo b t ≤ x) : ¬ In (b.take t) x := by
  rintro ⟨i, g1, g2, g3⟩
  rw [List.length_take] at g1
  have e : hi (b.take t) i = hi b i := by simp [hi, List.getD_eq_getElem?_getD, show i < t by omega]
  rw [e] at g3
  have := hb.gap i t (by omega) ht
  omega

theorem CutOff.whole {a b u : List (Int × Int)} {t : Nat} (h : CutOff a b u t) (hb : Canon b) (ht : t < b.length) : ∃ i, i < u.length ∧ lo u i ≤ lo b t ∧ hi b t ≤ hi u i :=
  in_run h.canon (hb.run t ht) fun x h1 h2 => (h.tell x).2 ⟨.inr ⟨t, ht, h1, h2⟩, not_taken hb ht h1⟩

theorem CutOff.next {a b u u' : List (Int × Int)} {t : Nat} (h : CutOff a b u t) (ht : t < b.length) (hC : Canon u') (h1 : ∀ x, In u' x ↔ In u x ∧ ¬ (lo b t ≤ x ∧ x ≤ hi b t)) (h2 : u'.length ≤ u.length + 1) : CutOff a b u' (t + 1) := by
  refine ⟨hC, fun x => ?_, by have := h.len; omega⟩
  rw [h1, h.tell, in_take_succ ht]
  constructor
  · rintro ⟨⟨k1, k2⟩, k3⟩
    exact ⟨k1, fun k => k.elim k2 k3⟩
  · rintro ⟨k1, k2⟩
    exact ⟨⟨k1, fun k => k2 (.inl k)⟩, fun k => k2 (.inr k)⟩

theorem no_meet {u' : List (Int × Int)} {u : List (Int × Int)} {y z : Int} (hC : Canon u') (h1 : ∀ x, In u' x ↔ In u x ∧ ¬ (y ≤ x ∧ x ≤ z)) : ¬ (y ≤ z ∧ ∃ i, i < u'.length ∧ lo u' i ≤ z ∧ y ≤ hi u' i) := by
  rintro ⟨k0, i, k1, k2, k3⟩
  have := hC.run i k1
  have := ((h1 (max y (lo u' i))).1 ⟨i, k1, by omega, by omega⟩).2
  omega

/-- A row of runs, by its block alone. -/
theorem row_again {w w' : World} {g c : Nat} {n : Nat} {rs : List (Int × Int)} (h : w.ownsRow 0 33 2 (.slice (some ⟨g, 0, none⟩) n c) n (enc .u8 rs)) (hg : w'.heap[g]? = w.heap[g]?) : w'.ownsRow 0 33 2 (.slice (some ⟨g, 0, none⟩) n c) n (enc .u8 rs) := by
  refine ⟨h.1, ?_⟩
  rcases h.2 with hn | ⟨g2, cap, cur, e, hb, hgg, rest⟩
  · exact .inl hn
  · cases e
    exact .inr ⟨g, _, cur, rfl, hb, hg.trans hgg, rest⟩

theorem box_cells {W : World} {g : Nat} {y z : Int} (h : W.heap[g]? = some (.cells #[.int .u8 y, .int .u8 z] 33 (0, 0))) : W.cell? ⟨g, 0, none⟩ = some (.int .u8 y) ∧ W.cell? ⟨g, 1, none⟩ = some (.int .u8 z) :=
  ⟨(cell_of_row W g 0 _ 33 (0, 0) h).trans rfl, (cell_of_row W g 1 _ 33 (0, 0) h).trans rfl⟩

theorem and_not {r1 r3 : Bool} {φ : Prop} (h : r1 = true ↔ φ ∧ ¬ r3 = true) (hφ : φ) : r1 = !r3 := by cases r1 <;> cases r3 <;> simp_all
theorem and_none {r1 : Bool} {φ : Prop} (h : r1 = true ↔ false = true ∧ φ) : r1 = false := by cases r1 <;> simp_all

abbrev FilledU (sv : Value) (w : World) : Prop := Calls Try.prog 13 #[sv] w fun e w' => ∃ p rs, e = .returned (.pointer (some ⟨p, 0, none⟩)) ∧ rs.length ≤ 40 ∧ LiveU w.heap.size w p rs w'

set_option maxHeartbeats 4000000 in
set_option maxRecDepth 100000 in
theorem ways_any (sv tv : Value) (w : World) (HF1 : Hid (FilledU sv w)) (HF2 : Hid (∀ w', Below w.heap.size w w' → FilledU tv w')) :
    Calls Try.prog 7 #[sv, tv] w fun e w' => e = .returned (.bool true) ∧ Below w.heap.size w w' := by
  have H0 := hide (herd_none w)
  go_enter Try.func7, Try.ntmps7
  go_wp2_with fail
  refine ((unhide H0).filled (unhide HF1)).mono ?_
  rintro e w1 ⟨ps, a, rfl, H1⟩
  have C2 := hide ((unhide H1).2.2.filled (unhide HF2 w1 (unhide H1).2.2.below))
  clear H0 HF1 HF2
  go_wp2_with fail
  refine (unhide C2).mono ?_
  rintro e w2 ⟨pt, b, rfl, H2⟩
  have H3 : Hid (a.length ≤ 40 ∧ b.length ≤ 40 ∧ ∃ F, HerdU w.heap.size w F (fun _ => none) w2 ∧ F ps = some a ∧ F pt = some b) := by
    obtain ⟨m1, m2, m3⟩ := unhide H1
    obtain ⟨k1, k2, k3⟩ := unhide H2
    have := m3.lt (at_self _ _ _)
    exact ⟨m1, k1, _, k3, by rw [at_other _ _ (by omega)]; exact at_self _ _ _, at_self _ _ _⟩
  clear C2 H1 H2
  go_wp2_with fail
  refine (awake_any w2).mono ?_
  rintro e w3 ⟨rfl, hb3⟩
  obtain ⟨F3, h3, fs3, ft3⟩ := (unhide H3).2.2
  have hn : a.length ≤ 40 ∧ b.length ≤ 40 := ⟨(unhide H3).1, (unhide H3).2.1⟩
  have HN := hide hn
  have H4 := hide (And.intro (h3.step hb3) (And.intro fs3 ft3))
  have C4 := hide ((unhide H4).1.clone fs3 (by omega))
  clear H3 h3 hb3 hn fs3 ft3
  go_wp2_with fail
  refine (unhide C4).mono ?_
  rintro e w4 ⟨pu, rfl, H5⟩
  have H6 : Hid (∃ F, HerdU w.heap.size w F (fun _ => none) w4 ∧ F ps = some a ∧ F pt = some b ∧ F pu = some a ∧ pu ≠ ps ∧ pu ≠ pt) := by
    obtain ⟨m1, m2, m3⟩ := unhide H4
    obtain ⟨k1, k2⟩ := unhide H5
    have := m1.lt m2
    have := m1.lt m3
    exact ⟨_, k2, by rw [at_other _ _ (by omega)]; exact m2, by rw [at_other _ _ (by omega)]; exact m3, at_self _ _ _, by omega, by omega⟩
  obtain ⟨F6, h6, g1, g2, g3, g4, g5⟩ := unhide H6
  have HAp := hide (And.intro g4 g5)
  have C6 := hide (h6.clone g2 (by have := unhide HN; omega))
  have H7 := hide (And.intro h6 (And.intro g1 (And.intro g2 g3)))
  clear H4 H5 H6 C4 h6 g1 g2 g3 g4 g5
  go_wp2_with fail
  refine (unhide C6).mono ?_
  rintro e w5 ⟨pv, rfl, H8⟩
  have H9 : Hid (∃ F, HerdU w.heap.size w F (fun _ => none) w5 ∧ F ps = some a ∧ F pt = some b ∧ F pu = some a ∧ F pv = some b ∧ pv ≠ ps ∧ pv ≠ pt ∧ pv ≠ pu) := by
    obtain ⟨m1, m2, m3, m4⟩ := unhide H7
    obtain ⟨k1, k2⟩ := unhide H8
    have := m1.lt m2
    have := m1.lt m3
    have := m1.lt m4
    exact ⟨_, k2, by rw [at_other _ _ (by omega)]; exact m2, by rw [at_other _ _ (by omega)]; exact m3, by rw [at_other _ _ (by omega)]; exact m4, at_self _ _ _, by omega, by omega, by omega⟩
  obtain ⟨F9, h9, g1, g2, g3, g4, g5, g6, g7⟩ := unhide H9
  have C9 := hide (h9.join g3 g2 (by have := unhide HN; omega) (by have := unhide HN; omega))
  have HF9 := hide (And.intro g1 (And.intro g2 (And.intro g3 g4)))
  have HAq := hide (And.intro g5 (And.intro g6 g7))
  clear H7 H8 H9 C6 h9 g1 g2 g3 g4 g5 g6 g7
  go_wp2_with fail
  refine (unhide C9).mono ?_
  rintro e w6 ⟨r6, u, rfl, H10⟩
  have H11 : Hid (∃ F, HerdU w.heap.size w F (fun _ => none) w6 ∧ F ps = some a ∧ F pt = some b ∧ F pu = some u ∧ F pv = some b) := by
    obtain ⟨m1, m2, m3, m4⟩ := unhide H10
    obtain ⟨k1, k2, k3, k4⟩ := unhide HF9
    obtain ⟨a1, a2⟩ := unhide HAp
    obtain ⟨b1, b2, b3⟩ := unhide HAq
    exact ⟨_, m4, by rw [at_other _ _ (fun e => a1 e.symm)]; exact k1, by rw [at_other _ _ (fun e => a2 e.symm)]; exact k2, at_self _ _ _, by rw [at_other _ _ b3]; exact k4⟩
  have HU : Hid (Canon u ∧ (∀ x, In u x ↔ In a x ∨ In b x) ∧ u.length ≤ 80) := by
    obtain ⟨m1, m2, m3, m4⟩ := unhide H10
    exact ⟨m1, m2, by have := unhide HN; omega⟩
  obtain ⟨F11, h11, g1, g2, g3, g4⟩ := unhide H11
  have C11 := hide (h11.join g4 g1 (by have := unhide HN; omega) (by have := unhide HN; omega))
  have HF11 := hide (And.intro g1 (And.intro g2 (And.intro g3 g4)))
  clear H10 H11 C9 h11 g1 g2 g3 g4 HF9
  go_wp2_with fail
  refine (unhide C11).mono ?_
  rintro e w7 ⟨r7, v, rfl, H12⟩
  have H13 : Hid (∃ F, HerdU w.heap.size w F (fun _ => none) w7 ∧ F ps = some a ∧ F pt = some b ∧ F pu = some u ∧ F pv = some v) := by
    obtain ⟨m1, m2, m3, m4⟩ := unhide H12
    obtain ⟨k1, k2, k3, k4⟩ := unhide HF11
    obtain ⟨b1, b2, b3⟩ := unhide HAq
    exact ⟨_, m4, by rw [at_other _ _ (fun e => b1 e.symm)]; exact k1, by rw [at_other _ _ (fun e => b2 e.symm)]; exact k2, by rw [at_other _ _ (fun e => b3 e.symm)]; exact k3, at_self _ _ _⟩
  have HE : Hid (u = v) := by
    obtain ⟨m1, m2, m3, m4⟩ := unhide H12
    obtain ⟨k1, k2, k3⟩ := unhide HU
    exact canon_ext u v k1 m1 (fun x => by rw [k2, m2]; exact Or.comm)
  obtain ⟨F13, h13, g1, g2, g3, g4⟩ := unhide H13
  have C13 := hide (h13.same g3 g4 (by have := (unhide HU).2.2; omega))
  have HF13 := hide (And.intro g1 (And.intro g2 g3))
  clear H12 H13 C11 h13 g1 g2 g3 g4 HF11 HAq
  go_wp2_with fail
  refine (unhide C13).mono ?_
  rintro e w8 ⟨hs, h14⟩
  obtain rfl := says_true hs (unhide HE)
  have C14 := hide (h14.runs (unhide HF13).2.1 (by have := unhide HN; omega))
  have H14 := hide h14
  clear C13 HE hs h14
  go_wp2_with fail
  refine (unhide C14).mono ?_
  rintro e w9 ⟨vr, rfl, H15⟩
  clear C14
  have HCB : Hid (Canon b ∧ Fits 0 255 b) := by
    obtain ⟨V, k1, k2⟩ := (unhide H14).sets
    exact ⟨(k1 pt b (unhide HF13).2.1).2.1, (k1 pt b (unhide HF13).2.1).2.2.1⟩
  have HC0 : Hid (CutOff a b u 0) := by
    obtain ⟨k1, k2, k3⟩ := unhide HU
    exact ⟨k1, fun x => by rw [k2]; simp [In], by omega⟩
  rcases Nat.eq_zero_or_pos b.length with hb0 | hbp
  · obtain ⟨pr, cr, rfl⟩ := row_shape (owns_weaken (unhide H15).1)
    have HFo : Hid (Four' w ps pt pu a b u (fun _ => none) w9) := ⟨⟨F13, (unhide H14).step (unhide H15).2, (unhide HF13).1, (unhide HF13).2.1, (unhide HF13).2.2⟩, unhide HAp⟩
    clear H14 H15 HU
    rw [hb0]
    go_wp2_with fail
    go_loopw [49] (fun s49 wr => ∃ (t : Nat) (ut : List (Int × Int)), t ≤ 0 ∧ s49 = .int .i64 t ∧ Hid (CutOff a b ut t ∧ Four' w ps pt pu a b ut (fun _ => none) wr)) (fun s49 _ => 0 - (intOf s49).toNat)
    case atStart => exact ⟨0, u, Nat.zero_le _, rfl, unhide HC0, unhide HFo⟩
    case round =>
      clear HC0 HFo
      obtain ⟨t, ut, ht, rfl, HI⟩ := hrel
      rename World => wr
      · obtain rfl : t = 0 := by omega
        rw [show ((0 : Nat) : Int) = 0 from rfl]
        have HT : Hid (∀ x, In ut x ↔ In a x ∧ ¬ In b x) := fun x => by
          have e : b.take 0 = b := by rw [List.length_eq_zero_iff.1 hb0]; rfl
          have := (unhide HI).1.tell x
          rw [e] at this
          rw [this]
          constructor
          · rintro ⟨k1, k2⟩
            exact ⟨k1.elim id (fun k => absurd k k2), k2⟩
          · rintro ⟨k1, k2⟩
            exact ⟨.inl k1, k2⟩
        have HL : Hid (a.length ≤ 40 ∧ b.length ≤ 40 ∧ ut.length ≤ 200) := by
          have := (unhide HI).1.len
          have := unhide HN
          have := hb0
          exact ⟨by omega, by omega, by omega⟩
        have HFo := hide (unhide HI).2
        clear HI
        go_wp2_with fail
        go_loopw [11] (fun s11 wz => ∃ x : Nat, x ≤ 256 ∧ s11 = .int .i64 x ∧ Hid (Four' w ps pt pu a b ut (fun _ => none) wz)) (fun s11 _ => 256 - (intOf s11).toNat)
        case atStart => exact ⟨0, by omega, rfl, unhide HFo⟩
        case round =>
          clear HFo
          obtain ⟨x, hx, rfl, HI⟩ := hrel
          rename World => wz
          by_cases hlt : x < 256
          · have hltz : (x : Int) < 256 := by omega
            have hwx : IntKind.wrap .u8 (x : Int) = (x : Int) := wrap_u8 (by omega) (by omega)
            obtain ⟨⟨F, hH, fs, ft, fu⟩, hap⟩ := unhide HI
            have HK := hide (And.intro hH (And.intro fs (And.intro ft fu)))
            have HX := hide hap
            have C1 := hide (hH.has (x : Int) fu (by have := unhide HL; omega))
            clear HI hH fs ft fu hap
            go_wp2_with fail
            refine (unhide C1).mono ?_
            rintro e q1 ⟨⟨r1, rfl, hr1⟩, hb1⟩
            have h2 := (unhide HK).1.step hb1
            have C2 := hide (h2.has (x : Int) (unhide HK).2.1 (by have := unhide HL; omega))
            have H2 := hide h2
            have R1 := hide hr1
            clear C1 hb1 h2 hr1
            go_wp2_with fail
            refine (unhide C2).mono ?_
            rintro e q2 ⟨⟨r2, rfl, hr2⟩, hb2⟩
            have h3 := (unhide H2).step hb2
            have C3 := hide (h3.has (x : Int) (unhide HK).2.2.1 (by have := unhide HL; omega))
            have H3 := hide h3
            have R2 := hide hr2
            clear C2 hb2 h3 hr2 H2
            cases r2 with
            | true =>
              go_wp2_with fail
              refine (unhide C3).mono ?_
              rintro e q3 ⟨⟨r3, rfl, hr3⟩, hb3⟩
              have h4 := (unhide H3).step hb3
              have H4 : Hid (Four' w ps pt pu a b ut (fun _ => none) q3) := ⟨⟨F, h4, (unhide HK).2.1, (unhide HK).2.2.1, (unhide HK).2.2.2⟩, unhide HX⟩
              obtain rfl : r1 = !r3 := by
                have e1 := unhide HT (x : Int)
                rw [← unhide R1, ← unhide R2, ← hr3] at e1
                exact and_not e1 (by first | exact trivial | rfl)
              clear C3 hb3 h4 hr3 R1 R2 H3
              cases r3 with
              | true =>
                go_wp2_with fail
                go_roundw
                case rel => exact ⟨x + 1, by omega, by go_num, unhide H4⟩
                case measure => simp [intOf]; omega
              | false =>
                go_wp2_with fail
                go_roundw
                case rel => exact ⟨x + 1, by omega, by go_num, unhide H4⟩
                case measure => simp [intOf]; omega
            | false =>
              have H4 : Hid (Four' w ps pt pu a b ut (fun _ => none) q2) := ⟨⟨F, unhide H3, (unhide HK).2.1, (unhide HK).2.2.1, (unhide HK).2.2.2⟩, unhide HX⟩
              obtain rfl : r1 = false := by
                have e1 := unhide HT (x : Int)
                rw [← unhide R1, ← unhide R2] at e1
                exact and_none e1
              clear C3 R1 R2 H3
              go_wp2_with fail
              go_roundw
              case rel => exact ⟨x + 1, by omega, by go_num, unhide H4⟩
              case measure => simp [intOf]; omega
          · obtain rfl : x = 256 := by omega
            have HB : Hid (Below w.heap.size w wz) := by
              obtain ⟨⟨F, hH, -⟩, -⟩ := unhide HI
              exact hH.below
            go_wp2_with fail
            go_ret
            exact ⟨rfl, unhide HB⟩
  · obtain ⟨g, cr, cur, rfl, -, -, -, -, hgl, hR⟩ := owns_rowed (owns_weaken (unhide H15).1) hbp
    obtain ⟨G, hG⟩ : ∃ G : Nat → Option Obj, G = fun k => if k = g then some (.cells cur.toArray 33 (0, 0)) else none := ⟨_, rfl⟩
    have HG : Hid (G g = some (.cells cur.toArray 33 (0, 0))) := by show _ = _; rw [hG]; simp
    have HFo : Hid (Four' w ps pt pu a b u G w9) := ⟨⟨F13, by rw [hG]; exact (unhide H14).side (unhide H15).2 ((unhide H15).1.lt g rfl).1 hR.heap, (unhide HF13).1, (unhide HF13).2.1, (unhide HF13).2.2⟩, unhide HAp⟩
    have HCell : Hid (∀ w' : World, w'.heap[g]? = some (.cells cur.toArray 33 (0, 0)) → ∀ t, t < b.length → w'.cell? ⟨g, t * 2, none⟩ = some (.int .u8 (lo b t)) ∧ w'.cell? ⟨g, t * 2 + 1, none⟩ = some (.int .u8 (hi b t))) := fun w' hw t ht => owns_cells (row_again (owns_weaken (unhide H15).1) (hw.trans hR.heap.symm)) t ht
    clear H14 H15 HU hR hG
    have HLB : Hid (b.length = b.length) := rfl
    generalize hlb : b.length = lb at HCell HN ⊢
    have HLB2 := hide hlb
    clear hlb HLB
    have hlbn : lb ≤ 40 := (unhide HN).2
    go_wp2_with fail
    go_loopw [49] (fun s49 wr => ∃ (t : Nat) (ut : List (Int × Int)), t ≤ lb ∧ s49 = .int .i64 t ∧ Hid (CutOff a b ut t ∧ Four' w ps pt pu a b ut G wr)) (fun s49 _ => lb - (intOf s49).toNat)
    case atStart => exact ⟨0, u, Nat.zero_le _, rfl, unhide HC0, unhide HFo⟩
    case round =>
      clear HC0 HFo
      obtain ⟨t, ut, ht, rfl, HI⟩ := hrel
      rename World => wr
      by_cases hlt : t < lb
      · have hltz : (t : Int) < (lb : Int) := by omega
        have htb : t < b.length := by have := unhide HLB2; omega
        obtain ⟨⟨F, hH, fs, ft, fu⟩, hap⟩ := (unhide HI).2
        obtain ⟨x1, x2⟩ := unhide HCell wr (hH.kept g _ (unhide HG)) t hlt
        have hbox := hH.side (w' := wr.alloc (.cells #[.int .u8 (lo b t), .int .u8 (hi b t)] 33)) ((Below.refl _ _).alloc (Nat.le_refl _) _) (Nat.le_refl _) (heap_alloc_new wr _)
        have HK := hide (And.intro hbox (And.intro fs (And.intro ft fu)))
        have hlen : ut.length ≤ 200 := by have := (unhide HI).1.len; have := unhide HN; omega
        have HLen := hide hlen
        have C1 := hide (hbox.holds (lo b t) (hi b t) fu (by omega))
        have HBY : Hid ((0 ≤ lo b t ∧ lo b t ≤ 255) ∧ 0 ≤ hi b t ∧ hi b t ≤ 255) := by
          have := (unhide HCB).2 t htb
          have := (unhide HCB).1.run t htb
          exact ⟨⟨by omega, by omega⟩, by omega, by omega⟩
        have HWH := hide ((unhide HI).1.whole (unhide HCB).1 htb)
        have HNX : Hid (∀ u', Canon u' → (∀ x, In u' x ↔ In ut x ∧ ¬ (lo b t ≤ x ∧ x ≤ hi b t)) → u'.length ≤ ut.length + 1 → CutOff a b u' (t + 1)) := fun u' k1 k2 k3 => (unhide HI).1.next htb k1 k2 k3
        have HLTH : Hid (∀ (k : Nat) (o : Obj), G k = some o → k < wr.heap.size) := fun k o hk => hH.ltG hk
        clear HI hH fs ft fu hbox hlen htb hap
        generalize lo b t = y at *
        generalize hi b t = z at *
        go_wp2_with fail
        refine (unhide C1).mono ?_
        rintro e q1 ⟨hs, hb1⟩
        obtain rfl := says_true hs (.inr (unhide HWH))
        have h2 := (unhide HK).1.step hb1
        obtain ⟨y1, y2⟩ := box_cells (y := y) (z := z) (h2.kept wr.heap.size _ (by exact if_pos rfl))
        have C2 := hide (h2.cut y z (unhide HK).2.2.2 (by have := unhide HLen; omega) HBY)
        clear C1 hs hb1 h2 HWH x1 x2
        go_wp2_with fail
        refine (unhide C2).mono ?_
        rintro e q2 ⟨r2, u2, rfl, H2⟩
        obtain ⟨m1, m2, m3, m4⟩ := unhide H2
        obtain ⟨z1, z2⟩ := box_cells (y := y) (z := z) (m4.kept wr.heap.size _ (by exact if_pos rfl))
        have C3 := hide (m4.meets y z (at_self _ _ _) (by have := unhide HLen; omega))
        clear C2 y1 y2 m1 m2 m3 m4
        go_wp2_with fail
        refine (unhide C3).mono ?_
        rintro e q3 ⟨hs, hb3⟩
        obtain rfl := says_false hs (no_meet (unhide H2).1 (unhide H2).2.1)
        have HEND : Hid (CutOff a b u2 (t + 1) ∧ Four' w ps pt pu a b u2 G q3) := by
          obtain ⟨m1, m2, m3, m4⟩ := unhide H2
          obtain ⟨-, fs, ft, fu⟩ := unhide HK
          obtain ⟨a1, a2⟩ := unhide HAp
          refine ⟨unhide HNX u2 m1 m2 m3, ⟨_, (m4.step hb3).forget (fun k o hk => ?_), by rw [at_other _ _ (fun e => a1 e.symm)]; exact fs, by rw [at_other _ _ (fun e => a2 e.symm)]; exact ft, at_self _ _ _⟩, unhide HAp⟩
          have : k < wr.heap.size := unhide HLTH k o hk
          rw [if_neg (by omega)]
          exact hk
        clear C3 hs hb3 H2 HNX z1 z2
        go_wp2_with fail
        go_roundw
        case rel => exact ⟨t + 1, u2, by omega, by go_num, unhide HEND⟩
        case measure => simp [intOf]; omega
      · have hltz : ¬ (t : Int) < (lb : Int) := by omega
        obtain rfl : t = lb := by omega
        have HT : Hid (∀ x, In ut x ↔ In a x ∧ ¬ In b x) := fun x => by
          have e : b.take t = b := by rw [← unhide HLB2]; exact List.take_length
          have := (unhide HI).1.tell x
          rw [e] at this
          rw [this]
          constructor
          · rintro ⟨k1, k2⟩
            exact ⟨k1.elim id (fun k => absurd k k2), k2⟩
          · rintro ⟨k1, k2⟩
            exact ⟨.inl k1, k2⟩
        have HL : Hid (a.length ≤ 40 ∧ b.length ≤ 40 ∧ ut.length ≤ 200) := by
          have := (unhide HI).1.len
          have := unhide HN
          have := unhide HLB2
          exact ⟨by omega, by omega, by omega⟩
        have HFo := hide (unhide HI).2
        clear HI
        go_wp2_with fail
        go_loopw [11] (fun s11 wz => ∃ x : Nat, x ≤ 256 ∧ s11 = .int .i64 x ∧ Hid (Four' w ps pt pu a b ut G wz)) (fun s11 _ => 256 - (intOf s11).toNat)
        case atStart => exact ⟨0, by omega, rfl, unhide HFo⟩
        case round =>
          clear HFo
          obtain ⟨x, hx, rfl, HI⟩ := hrel
          rename World => wz
          by_cases hlt : x < 256
          · have hltz : (x : Int) < 256 := by omega
            have hwx : IntKind.wrap .u8 (x : Int) = (x : Int) := wrap_u8 (by omega) (by omega)
            obtain ⟨⟨F, hH, fs, ft, fu⟩, hap⟩ := unhide HI
            have HK := hide (And.intro hH (And.intro fs (And.intro ft fu)))
            have HX := hide hap
            have C1 := hide (hH.has (x : Int) fu (by have := unhide HL; omega))
            clear HI hH fs ft fu hap
            go_wp2_with fail
            refine (unhide C1).mono ?_
            rintro e q1 ⟨⟨r1, rfl, hr1⟩, hb1⟩
            have h2 := (unhide HK).1.step hb1
            have C2 := hide (h2.has (x : Int) (unhide HK).2.1 (by have := unhide HL; omega))
            have H2 := hide h2
            have R1 := hide hr1
            clear C1 hb1 h2 hr1
            go_wp2_with fail
            refine (unhide C2).mono ?_
            rintro e q2 ⟨⟨r2, rfl, hr2⟩, hb2⟩
            have h3 := (unhide H2).step hb2
            have C3 := hide (h3.has (x : Int) (unhide HK).2.2.1 (by have := unhide HL; omega))
            have H3 := hide h3
            have R2 := hide hr2
            clear C2 hb2 h3 hr2 H2
            cases r2 with
            | true =>
              go_wp2_with fail
              refine (unhide C3).mono ?_
              rintro e q3 ⟨⟨r3, rfl, hr3⟩, hb3⟩
              have h4 := (unhide H3).step hb3
              have H4 : Hid (Four' w ps pt pu a b ut G q3) := ⟨⟨F, h4, (unhide HK).2.1, (unhide HK).2.2.1, (unhide HK).2.2.2⟩, unhide HX⟩
              obtain rfl : r1 = !r3 := by
                have e1 := unhide HT (x : Int)
                rw [← unhide R1, ← unhide R2, ← hr3] at e1
                exact and_not e1 (by first | exact trivial | rfl)
              clear C3 hb3 h4 hr3 R1 R2 H3
              cases r3 with
              | true =>
                go_wp2_with fail
                go_roundw
                case rel => exact ⟨x + 1, by omega, by go_num, unhide H4⟩
                case measure => simp [intOf]; omega
              | false =>
                go_wp2_with fail
                go_roundw
                case rel => exact ⟨x + 1, by omega, by go_num, unhide H4⟩
                case measure => simp [intOf]; omega
            | false =>
              have H4 : Hid (Four' w ps pt pu a b ut G q2) := ⟨⟨F, unhide H3, (unhide HK).2.1, (unhide HK).2.2.1, (unhide HK).2.2.2⟩, unhide HX⟩
              obtain rfl : r1 = false := by
                have e1 := unhide HT (x : Int)
                rw [← unhide R1, ← unhide R2] at e1
                exact and_none e1
              clear C3 R1 R2 H3
              go_wp2_with fail
              go_roundw
              case rel => exact ⟨x + 1, by omega, by go_num, unhide H4⟩
              case measure => simp [intOf]; omega
          · obtain rfl : x = 256 := by omega
            have HB : Hid (Below w.heap.size w wz) := by
              obtain ⟨⟨F, hH, -⟩, -⟩ := unhide HI
              exact hH.below
            go_wp2_with fail
            go_ret
            exact ⟨rfl, unhide HB⟩
end Go.Proofs.Ytdalghfhpekcfaa
