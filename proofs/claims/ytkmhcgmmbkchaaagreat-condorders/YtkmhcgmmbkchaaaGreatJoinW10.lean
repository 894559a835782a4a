/- joinAll, walked. -/
import Derived.Test.YtkmhcgmmbkchaaaGreatPJoinN
import Derived.Test.YtkmhcgmmbkchaaaGreatPMath
import Derived.Test.YtkmhcgmmbkchaaaGreatTail
namespace Go.Proofs.YtkmhcgmmbkchaaaGreat

section
open Go.RowKit Go.Maps
set_option maxHeartbeats 2000000 in
set_option maxRecDepth 100000 in
theorem joinNoN {p m : Nat} {S : List (Part Int)} (a b : Int) (w : World) (h : PAtN w p m S) (ha : okN a) (hb : okN b) (hno : fOf S a = none ∨ fOf S b = none ∨ fOf S a = fOf S b) :
    Calls Tryz.prog 75 #[.pointer (some ⟨p, 0, none⟩), (Value.int .i64) a, (Value.int .i64) b] w fun e w' => e = .returned (.bool false) ∧ ∃ q, w' = w.drewN q := by
  have c1 := h.cell
  have hl := h.drew.look a ha
  have hl2 := h.drew.look b hb
  have HEQ : Hid (∀ q, fOf S a = some q → (binOp .eql 95 (.pointer (some ⟨q, 0, none⟩)) (.pointer (some ⟨q, 0, none⟩))).run Tryz.prog w.drew = .ok (.bool true) w.drew) := fun q h1 => by
    obtain ⟨x, hx, -, rfl⟩ := fOf_mem h1
    have := h.drew.eql hx hx
    simpa using this
  clear h
  cases hfa : fOf S a with
  | none =>
    rw [hfa] at hl
    simp only [ptr] at hl
    cases hfb : fOf S b with
    | none =>
      rw [hfb] at hl2
      simp only [ptr] at hl2
      clear hno HEQ
      go_enter Tryz.func75, Tryz.ntmps75
      go_upto_region 1 with fail
      go_region
      all_goals
        go_wp2_with fail
        go_ret
        exact ⟨rfl, 1, rfl⟩
    | some y =>
      rw [hfb] at hl2
      simp only [ptr] at hl2
      clear hno HEQ
      go_enter Tryz.func75, Tryz.ntmps75
      go_upto_region 1 with fail
      go_region
      all_goals
        go_wp2_with fail
        go_ret
        exact ⟨rfl, 1, rfl⟩
  | some x =>
    rw [hfa] at hl
    simp only [ptr] at hl
    cases hfb : fOf S b with
    | none =>
      rw [hfb] at hl2
      simp only [ptr] at hl2
      clear hno HEQ
      go_enter Tryz.func75, Tryz.ntmps75
      go_upto_region 1 with fail
      go_region
      all_goals
        go_wp2_with fail
        go_ret
        exact ⟨rfl, 1, rfl⟩
    | some y =>
      obtain rfl : x = y := by
        rcases hno with e | e | e
        · rw [hfa] at e; cases e
        · rw [hfb] at e; cases e
        · rw [hfa, hfb] at e; injection e
      rw [hfb] at hl2
      simp only [ptr] at hl2
      have heq := unhide HEQ x hfa
      clear hno HEQ
      go_enter Tryz.func75, Tryz.ntmps75
      go_upto_region 1 with fail
      go_region
      all_goals
        go_wp2_with fail
        go_ret
        exact ⟨rfl, 1, rfl⟩

set_option maxHeartbeats 4000000 in
set_option maxRecDepth 100000 in
theorem joinGeN {p m : Nat} {S : List (Part Int)} {x y : Part Int} (a b : Int) (w : World) (h : PAtN w p m S) (hx : x ∈ S) (hy : y ∈ S) (ha : a ∈ x.ks) (hb : b ∈ y.ks) (hne : x.q ≠ y.q) (hn : tot S < 1099511627776) (hlen : y.ks.length ≤ x.ks.length) :
    Calls Tryz.prog 75 #[.pointer (some ⟨p, 0, none⟩), (Value.int .i64) a, (Value.int .i64) b] w fun e w' => e = .returned (.bool true) ∧ Hid (JoinedN w p m S x y w') := by
  have c1 := h.cell
  have hl := h.drew.look a (h.fam.keys x hx a ha)
  have hl2 := h.drew.look b (h.fam.keys y hy b hb)
  rw [fOf_some h.fam hx ha] at hl
  rw [fOf_some h.fam hy hb] at hl2
  simp only [ptr] at hl hl2
  have heq := h.drew.eql hx hy
  rw [decide_eq_false hne] at heq
  obtain ⟨gx, cx, ex, -⟩ := (h.rows x hx).some_ (h.fam.some_ x hx)
  obtain ⟨gy, cy, ey, -⟩ := (h.rows y hy).some_ (h.fam.some_ y hy)
  have dx := (h.rows x hx).cell.1
  have dy := (h.rows y hy).cell.1
  have hap : Apart x y := (h.fam.of hx hy).resolve_left (fun e => hne (by rw [e]))
  have rla := (h.rows x hx).row
  have rsm := (h.rows y hy).row
  rw [ex] at rla
  rw [ey] at rsm
  have htot : x.ks.length + y.ks.length < 1099511627776 := by
    have t1 := tot_without h.fam hx
    have t2 := tot_without (h.fam.pout x) (mem_pout.2 ⟨hy, fun e => hap.1 e.symm⟩)
    omega
  have hgg : gx ≠ gy := fun e => hap.2.1 gx (by rw [ex]; rfl) (by rw [ey, e]; rfl)
  have CM : Hid (∀ q, Calls Tryz.prog 93 #[.slice (some ⟨gx, 0, none⟩) x.ks.length cx, .slice (some ⟨gy, 0, none⟩) y.ks.length cy] (w.drewN q) fun e w5 => ∃ g c, e = .returned (.slice (some ⟨g, 0, none⟩) (x.ks.length + y.ks.length) c) ∧ w5.cell? ⟨x.q, 0, none⟩ = some x.v ∧ w5.frozen? ⟨x.q, 0, none⟩ = false ∧ Hid (∃ z, JMidN w p m S x y z 0 (w5.setCell ⟨x.q, 0, none⟩ (.slice (some ⟨g, 0, none⟩) (x.ks.length + y.ks.length) c)))) := fun q =>
    (mergeN x.ks y.ks (w.drewN q) rla rsm hgg (h.fam.some_ x hx) (h.fam.rise x hx) (h.fam.rise y hy) hap.2.2 htot).mono fun e w5 hh => by
      obtain ⟨g, c, he, hM⟩ := hh
      obtain ⟨s1, s2, z, -, s3⟩ := JMidN.start h hx hy hap.1 (by rw [ex]; rfl) (unhide hM)
      exact ⟨g, c, he, s1, s2, z, s3⟩
  have HS : Hid (∀ z j wr, JMidN w p m S x y z j wr → wr.cell? ⟨y.q, 0, none⟩ = some y.v ∧ ∀ i, i < y.ks.length → wr.cell? ⟨gy, i, none⟩ = some ((Value.int .i64) (y.ks.getD i (0 : Int)))) := fun z j wr hJ => by
    refine ⟨hJ.rowS.cell.1, fun i hi => ?_⟩
    have := hJ.rowS.row
    rw [ey] at this
    exact rowCellN this hi
  have HNX : Hid (∀ z j wr, JMidN w p m S x y z j wr → j < y.ks.length → wr.cell? ⟨p, 0, none⟩ = some (.map (some m)) ∧ ∃ w', (Instr.mapUpdate 83 (.map (some m)) ((Value.int .i64) (y.ks.getD j (0 : Int))) (.pointer (some ⟨x.q, 0, none⟩))).run Tryz.prog wr = .ok () w' ∧ JMidN w p m S x y z (j + 1) w') := fun z j wr hJ hj => hJ.next h hy hj hn
  have HDN : Hid (∀ z wr, JMidN w p m S x y z y.ks.length wr → JoinedN w p m S x y wr) := fun z wr hJ => hJ.done h hx hy hap.1
  have hlz : ¬ (x.ks.length : Int) < (y.ks.length : Int) := by omega
  rw [ex] at dx
  rw [ey] at dy
  rw [ex] at CM
  rw [ey] at HS
  have hqq : ¬ x.q = y.q := hne
  have hqq2 : ¬ y.q = x.q := fun e => hne e.symm
  generalize x.q = qx at *
  generalize y.q = qy at *
  have HL : Hid (y.ks.length < 1099511627776) := by show y.ks.length < 1099511627776; omega
  generalize hLx : x.ks.length = Lx at *
  generalize hLy : y.ks.length = Ly at *
  generalize hLL : Lx + Ly = LL at *
  clear h hap rla rsm htot hgg ex ey hne hn hlen hLx hLy hLL
  go_enter Tryz.func75, Tryz.ntmps75
  go_upto_region 1 with fail
  go_region
  all_goals
    go_upto_region 4 with fail
    go_region
    all_goals
      go_upto_region 6 with fail
      go_region_with ((go_at_call 93; refine (unhide CM 3).mono ?_; rintro e w5 ⟨g, c, rfl, f1, f2, HZ⟩))
      all_goals
        obtain ⟨z, hJ⟩ := unhide HZ
        have f3 := (unhide HS z 0 _ hJ).1
        have HJ := hide hJ
        clear hJ HZ CM
        go_wp2_with fail
        go_loopw [64] (fun s64 wr => ∃ j : Nat, j ≤ Ly ∧ s64 = .int .i64 j ∧ Hid (∃ z, JMidN w p m S x y z j wr)) (fun s64 _ => Ly - (intOf s64).toNat)
        case atStart => exact ⟨0, Nat.zero_le _, rfl, ⟨z, unhide HJ⟩⟩
        case round =>
          obtain ⟨j, hj, rfl, HM⟩ := hrel
          obtain ⟨z2, hJ2⟩ := unhide HM
          by_cases hlt : j < Ly
          · have hltz : (j : Int) < (Ly : Int) := by omega
            obtain ⟨k1, w7, hr7, hJ3⟩ := unhide HNX z2 j wr hJ2 hlt
            have k2 := (unhide HS z2 j wr hJ2).2 j hlt
            have hjw : IntKind.i64.wrap ((j : Int) + 1) = ((j + 1 : Nat) : Int) := by rw [IntKind.wrap_i64]; have := unhide HL; omega
            have HJ3 := hide hJ3
            generalize y.ks.getD j (0 : Int) = kj at *
            clear HM hJ2 hJ3 HNX HS HDN HJ
            go_wp2_with fail
            go_roundw
            case rel => exact ⟨j + 1, by omega, rfl, ⟨z2, unhide HJ3⟩⟩
            case measure => simp [intOf]; omega
          · have hltz : ¬ (j : Int) < (Ly : Int) := by omega
            obtain rfl : j = Ly := by omega
            have HR := hide (unhide HDN z2 wr hJ2)
            clear HM hJ2 HNX HS HDN HJ
            go_wp2_with fail
            go_ret
            exact ⟨rfl, unhide HR⟩

set_option maxHeartbeats 4000000 in
set_option maxRecDepth 100000 in
theorem joinLtN {p m : Nat} {S : List (Part Int)} {x y : Part Int} (a b : Int) (w : World) (h : PAtN w p m S) (hx : x ∈ S) (hy : y ∈ S) (ha : a ∈ x.ks) (hb : b ∈ y.ks) (hne : x.q ≠ y.q) (hn : tot S < 1099511627776) (hlen : x.ks.length < y.ks.length) :
    Calls Tryz.prog 75 #[.pointer (some ⟨p, 0, none⟩), (Value.int .i64) a, (Value.int .i64) b] w fun e w' => e = .returned (.bool true) ∧ Hid (JoinedN w p m S y x w') := by
  have c1 := h.cell
  have hl := h.drew.look a (h.fam.keys x hx a ha)
  have hl2 := h.drew.look b (h.fam.keys y hy b hb)
  rw [fOf_some h.fam hx ha] at hl
  rw [fOf_some h.fam hy hb] at hl2
  simp only [ptr] at hl hl2
  have heq := h.drew.eql hx hy
  rw [decide_eq_false hne] at heq
  obtain ⟨gx, cx, ex, -⟩ := (h.rows x hx).some_ (h.fam.some_ x hx)
  obtain ⟨gy, cy, ey, -⟩ := (h.rows y hy).some_ (h.fam.some_ y hy)
  have dx := (h.rows x hx).cell.1
  have dy := (h.rows y hy).cell.1
  have hap : Apart y x := (h.fam.of hy hx).resolve_left (fun e => hne (by rw [e]))
  have rla := (h.rows y hy).row
  have rsm := (h.rows x hx).row
  rw [ey] at rla
  rw [ex] at rsm
  have htot : y.ks.length + x.ks.length < 1099511627776 := by
    have t1 := tot_without h.fam hy
    have t2 := tot_without (h.fam.pout y) (mem_pout.2 ⟨hx, fun e => hap.1 e.symm⟩)
    omega
  have hgg : gy ≠ gx := fun e => hap.2.1 gy (by rw [ey]; rfl) (by rw [ex, e]; rfl)
  have CM : Hid (∀ q, Calls Tryz.prog 93 #[.slice (some ⟨gy, 0, none⟩) y.ks.length cy, .slice (some ⟨gx, 0, none⟩) x.ks.length cx] (w.drewN q) fun e w5 => ∃ g c, e = .returned (.slice (some ⟨g, 0, none⟩) (y.ks.length + x.ks.length) c) ∧ w5.cell? ⟨y.q, 0, none⟩ = some y.v ∧ w5.frozen? ⟨y.q, 0, none⟩ = false ∧ Hid (∃ z, JMidN w p m S y x z 0 (w5.setCell ⟨y.q, 0, none⟩ (.slice (some ⟨g, 0, none⟩) (y.ks.length + x.ks.length) c)))) := fun q =>
    (mergeN y.ks x.ks (w.drewN q) rla rsm hgg (h.fam.some_ y hy) (h.fam.rise y hy) (h.fam.rise x hx) hap.2.2 htot).mono fun e w5 hh => by
      obtain ⟨g, c, he, hM⟩ := hh
      obtain ⟨s1, s2, z, -, s3⟩ := JMidN.start h hy hx hap.1 (by rw [ey]; rfl) (unhide hM)
      exact ⟨g, c, he, s1, s2, z, s3⟩
  have HS : Hid (∀ z j wr, JMidN w p m S y x z j wr → wr.cell? ⟨x.q, 0, none⟩ = some x.v ∧ ∀ i, i < x.ks.length → wr.cell? ⟨gx, i, none⟩ = some ((Value.int .i64) (x.ks.getD i (0 : Int)))) := fun z j wr hJ => by
    refine ⟨hJ.rowS.cell.1, fun i hi => ?_⟩
    have := hJ.rowS.row
    rw [ex] at this
    exact rowCellN this hi
  have HNX : Hid (∀ z j wr, JMidN w p m S y x z j wr → j < x.ks.length → wr.cell? ⟨p, 0, none⟩ = some (.map (some m)) ∧ ∃ w', (Instr.mapUpdate 83 (.map (some m)) ((Value.int .i64) (x.ks.getD j (0 : Int))) (.pointer (some ⟨y.q, 0, none⟩))).run Tryz.prog wr = .ok () w' ∧ JMidN w p m S y x z (j + 1) w') := fun z j wr hJ hj => hJ.next h hx hj hn
  have HDN : Hid (∀ z wr, JMidN w p m S y x z x.ks.length wr → JoinedN w p m S y x wr) := fun z wr hJ => hJ.done h hy hx hap.1
  have hlz : (x.ks.length : Int) < (y.ks.length : Int) := by omega
  rw [ex] at dx
  rw [ey] at dy
  rw [ey] at CM
  rw [ex] at HS
  have hqq : ¬ x.q = y.q := hne
  have hqq2 : ¬ y.q = x.q := fun e => hne e.symm
  generalize x.q = qx at *
  generalize y.q = qy at *
  have HL : Hid (x.ks.length < 1099511627776) := by show x.ks.length < 1099511627776; omega
  generalize hLx : x.ks.length = Lx at *
  generalize hLy : y.ks.length = Ly at *
  generalize hLL : Ly + Lx = LL at *
  clear h hap rla rsm htot hgg ex ey hne hn hlen hLx hLy hLL
  go_enter Tryz.func75, Tryz.ntmps75
  go_upto_region 1 with fail
  go_region
  all_goals
    go_upto_region 4 with fail
    go_region
    all_goals
      go_upto_region 6 with fail
      go_region_with ((go_at_call 93; refine (unhide CM 3).mono ?_; rintro e w5 ⟨g, c, rfl, f1, f2, HZ⟩))
      all_goals
        obtain ⟨z, hJ⟩ := unhide HZ
        have f3 := (unhide HS z 0 _ hJ).1
        have HJ := hide hJ
        clear hJ HZ CM
        go_wp2_with fail
        go_loopw [64] (fun s64 wr => ∃ j : Nat, j ≤ Lx ∧ s64 = .int .i64 j ∧ Hid (∃ z, JMidN w p m S y x z j wr)) (fun s64 _ => Lx - (intOf s64).toNat)
        case atStart => exact ⟨0, Nat.zero_le _, rfl, ⟨z, unhide HJ⟩⟩
        case round =>
          obtain ⟨j, hj, rfl, HM⟩ := hrel
          obtain ⟨z2, hJ2⟩ := unhide HM
          by_cases hlt : j < Lx
          · have hltz : (j : Int) < (Lx : Int) := by omega
            obtain ⟨k1, w7, hr7, hJ3⟩ := unhide HNX z2 j wr hJ2 hlt
            have k2 := (unhide HS z2 j wr hJ2).2 j hlt
            have hjw : IntKind.i64.wrap ((j : Int) + 1) = ((j + 1 : Nat) : Int) := by rw [IntKind.wrap_i64]; have := unhide HL; omega
            have HJ3 := hide hJ3
            generalize x.ks.getD j (0 : Int) = kj at *
            clear HM hJ2 hJ3 HNX HS HDN HJ
            go_wp2_with fail
            go_roundw
            case rel => exact ⟨j + 1, by omega, rfl, ⟨z2, unhide HJ3⟩⟩
            case measure => simp [intOf]; omega
          · have hltz : ¬ (j : Int) < (Lx : Int) := by omega
            obtain rfl : j = Lx := by omega
            have HR := hide (unhide HDN z2 wr hJ2)
            clear HM hJ2 HNX HS HDN HJ
            go_wp2_with fail
            go_ret
            exact ⟨rfl, unhide HR⟩
end

section
open Go.RowKit Go.Maps
/-- Its blocks lie from B on; below B all is as in w0. -/
structure LiveN (B : Nat) (w0 : World) (p : Nat) (S : List (Part Int)) (w : World) : Prop where
  below : Below B w0 w
  room : B ≤ w.heap.size
  on : ∃ m, PAtN w p m S ∧ ∀ k, FootN p m S k → B ≤ k

theorem LiveN.fam {B : Nat} {w0 w : World} {p : Nat} {S : List (Part Int)} (h : LiveN B w0 p S w) : Fam ltN okN S := by
  obtain ⟨m, h1, -⟩ := h.on
  exact h1.fam

theorem LiveN.step {B : Nat} {w0 w w' : World} {p : Nat} {S : List (Part Int)} (h : LiveN B w0 p S w) (hb : Below w.heap.size w w') : LiveN B w0 p S w' := by
  obtain ⟨m, h1, h2⟩ := h.on
  exact ⟨h.below.trans (hb.mono h.room), Nat.le_trans h.room hb.size, m, h1.below hb, h2⟩

theorem LiveN.turn {B : Nat} {w0 w w' : World} {p m : Nat} {S S' : List (Part Int)} (h : LiveN B w0 p S w) (h2 : ∀ k, FootN p m S k → B ≤ k) (g1 : PAtN w' p m S') (g2 : Turned (FootN p m S) w w') (g3 : ∀ j, FootN p m S' j → FootN p m S j ∨ w.heap.size ≤ j) : LiveN B w0 p S' w' :=
  ⟨h.below.trans (g2.below h.room h2), Nat.le_trans h.room g2.size, m, g1, fun k hk => (g3 k hk).elim (h2 k) (fun e => Nat.le_trans h.room e)⟩

theorem newLN (w : World) : Calls Tryz.prog 21 #[] w fun e w' => ∃ p, e = .returned (.pointer (some ⟨p, 0, none⟩)) ∧ LiveN w.heap.size w p [] w' :=
  (newN w).mono fun e w' hh => by
    obtain ⟨p, m, he, hx⟩ := hh
    obtain ⟨h1, h2, h3, h4⟩ := unhide hx
    refine ⟨p, he, h2, h2.size, m, h1, fun k hk => ?_⟩
    rcases hk with rfl | rfl | ⟨x, hx, -⟩
    · exact h3
    · exact h4
    · cases hx

section
variable {B : Nat} {w0 w : World} {p : Nat} {S : List (Part Int)}

theorem addLN (k : Int) (h : LiveN B w0 p S w) (hk : okN k) (hno : ∀ z ∈ S, k ∉ z.ks) (hn : tot S < 1099511627776) : Calls Tryz.prog 33 #[.pointer (some ⟨p, 0, none⟩), (Value.int .i64) k] w fun e w' => e = .returned (.bool true) ∧ ∃ x : Part Int, x.ks = [k] ∧ LiveN B w0 p (S ++ [x]) w' := by
  obtain ⟨m, h1, h2⟩ := h.on
  refine (addN k w h1 hk hno hn).mono fun e w' hh => ⟨hh.1, ?_⟩
  obtain ⟨x, g0, g1, g2, g3⟩ := unhide hh.2
  exact ⟨x, g0, h.turn h2 g1 g2 g3⟩

theorem addInLN {x : Part Int} (k : Int) (h : LiveN B w0 p S w) (hx : x ∈ S) (hk : k ∈ x.ks) : Calls Tryz.prog 33 #[.pointer (some ⟨p, 0, none⟩), (Value.int .i64) k] w fun e w' => e = .returned (.bool false) ∧ w' = w := by
  obtain ⟨m, h1, h2⟩ := h.on
  exact addInN k w h1 hx hk

theorem joinNoLN (a b : Int) (h : LiveN B w0 p S w) (ha : okN a) (hb : okN b) (hno : fOf S a = none ∨ fOf S b = none ∨ fOf S a = fOf S b) : Calls Tryz.prog 75 #[.pointer (some ⟨p, 0, none⟩), (Value.int .i64) a, (Value.int .i64) b] w fun e w' => e = .returned (.bool false) ∧ LiveN B w0 p S w' := by
  obtain ⟨m, h1, h2⟩ := h.on
  refine (joinNoN a b w h1 ha hb hno).mono fun e w' hh => ⟨hh.1, ?_⟩
  obtain ⟨q, rfl⟩ := hh.2
  exact h.step (below_drewN (Below.refl _ _) q)

/-- Two parts become one. -/
theorem joinLN {x y : Part Int} (a b : Int) (h : LiveN B w0 p S w) (hx : x ∈ S) (hy : y ∈ S) (ha : a ∈ x.ks) (hb : b ∈ y.ks) (hne : x.q ≠ y.q) (hn : tot S < 1099511627776) : Calls Tryz.prog 75 #[.pointer (some ⟨p, 0, none⟩), (Value.int .i64) a, (Value.int .i64) b] w fun e w' => e = .returned (.bool true) ∧
    ∃ (z : Part Int) (R : List (Part Int)), (∀ k, k ∈ z.ks ↔ k ∈ x.ks ∨ k ∈ y.ks) ∧ z.ks.length = x.ks.length + y.ks.length ∧ (R = pout y (pout x S) ∨ R = pout x (pout y S)) ∧ LiveN B w0 p (R ++ [z]) w' := by
  obtain ⟨m, h1, h2⟩ := h.on
  rcases Nat.lt_or_ge x.ks.length y.ks.length with hl | hl
  · refine (joinLtN a b w h1 hx hy ha hb hne hn hl).mono fun e w' hh => ⟨hh.1, ?_⟩
    obtain ⟨z, g0, g1, g2, g3, g4⟩ := unhide hh.2
    exact ⟨z, _, fun k => (g0 k).trans Or.comm, by omega, .inr rfl, h.turn h2 g2 g3 g4⟩
  · refine (joinGeN a b w h1 hx hy ha hb hne hn hl).mono fun e w' hh => ⟨hh.1, ?_⟩
    obtain ⟨z, g0, g1, g2, g3, g4⟩ := unhide hh.2
    exact ⟨z, _, g0, g1, .inl rfl, h.turn h2 g2 g3 g4⟩

theorem dropNoLN (k : Int) (h : LiveN B w0 p S w) (hk : okN k) (hno : ∀ x ∈ S, k ∉ x.ks) : Calls Tryz.prog 51 #[.pointer (some ⟨p, 0, none⟩), (Value.int .i64) k] w fun e w' => e = .returned (.bool false) ∧ w' = w := by
  obtain ⟨m, h1, h2⟩ := h.on
  exact dropNoN k w h1 hk hno
theorem dropLN {x : Part Int} (k : Int) (h : LiveN B w0 p S w) (hx : x ∈ S) (hk : k ∈ x.ks) (hn : tot S < 1099511627776) : Calls Tryz.prog 51 #[.pointer (some ⟨p, 0, none⟩), (Value.int .i64) k] w fun e w' => e = .returned (.bool true) ∧
    ∃ T : List (Part Int), (∀ y ∈ T, ∀ j, j ∈ y.ks ↔ j ∈ x.ks ∧ j ≠ k) ∧ (T = [] ∧ x.ks = [k] ∨ ∃ y, T = [y] ∧ y.q = x.q) ∧ tot (pout x S ++ T) + 1 = tot S ∧ LiveN B w0 p (pout x S ++ T) w' := by
  obtain ⟨m, h1, h2⟩ := h.on
  refine (dropN k w h1 hx hk hn).mono fun e w' hh => ⟨hh.1, ?_⟩
  obtain ⟨T, g0, g1, g2, g3, g4, g5⟩ := unhide hh.2
  exact ⟨T, g1, g2, g5, h.turn h2 g0 g3 g4⟩

theorem burstNoLN (k : Int) (h : LiveN B w0 p S w) (hk : okN k) (hno : ∀ x ∈ S, k ∉ x.ks) : Calls Tryz.prog 65 #[.pointer (some ⟨p, 0, none⟩), (Value.int .i64) k] w fun e w' => e = .returned (.bool false) ∧ w' = w := by
  obtain ⟨m, h1, h2⟩ := h.on
  exact burstNoN k w h1 hk hno
theorem burstLN {x : Part Int} (k : Int) (h : LiveN B w0 p S w) (hx : x ∈ S) (hk : k ∈ x.ks) (hn : tot S < 1099511627776) : Calls Tryz.prog 65 #[.pointer (some ⟨p, 0, none⟩), (Value.int .i64) k] w fun e w' => e = .returned (.bool true) ∧
    ∃ T, T.map (·.ks) = x.ks.map (fun k => [k]) ∧ LiveN B w0 p (pout x S ++ T) w' := by
  obtain ⟨m, h1, h2⟩ := h.on
  refine (burstN k w h1 hx hk hn).mono fun e w' hh => ⟨hh.1, ?_⟩
  obtain ⟨T, g0, g1, g2, g3⟩ := unhide hh.2
  exact ⟨T, g0, h.turn h2 g1 g2 g3⟩

theorem headLN {x : Part Int} (k : Int) (h : LiveN B w0 p S w) (hx : x ∈ S) (hk : k ∈ x.ks) : Calls Tryz.prog 45 #[.pointer (some ⟨p, 0, none⟩), (Value.int .i64) k] w fun e w' => e = .returned (.tuple #[(Value.int .i64) (x.ks.headD (0 : Int)), .bool true]) ∧ w' = w := by
  obtain ⟨m, h1, h2⟩ := h.on
  exact headN k w h1 hx hk
theorem sameLN (a b : Int) (h : LiveN B w0 p S w) (ha : okN a) (hb : okN b) : Calls Tryz.prog 46 #[.pointer (some ⟨p, 0, none⟩), (Value.int .i64) a, (Value.int .i64) b] w fun e w' => e = .returned (.bool ((fOf S a).isSome && fOf S a == fOf S b)) ∧ w' = w := by
  obtain ⟨m, h1, h2⟩ := h.on
  exact sameN a b w h1 ha hb
theorem membersLN {x : Part Int} (k : Int) (h : LiveN B w0 p S w) (hx : x ∈ S) (hk : k ∈ x.ks) (hn : tot S < 1099511627776) : Calls Tryz.prog 32 #[.pointer (some ⟨p, 0, none⟩), (Value.int .i64) k] w fun e w' => ∃ v', e = .returned v' ∧ Hid (w'.ownsRow w.heap.size 3 1 v' x.ks.length (x.ks.map (Value.int .i64)) ∧ Below w.heap.size w w') := by
  obtain ⟨m, h1, h2⟩ := h.on
  exact membersN k w h1 hx hk hn
theorem headsLN (h : LiveN B w0 p S w) (hn : tot S < 1099511627776) : Calls Tryz.prog 39 #[.pointer (some ⟨p, 0, none⟩)] w fun e w' => ∃ v ys, e = .returned v ∧
    Hid (Rising ltN ys ∧ (∀ k, k ∈ ys ↔ ∃ x ∈ S, x.ks.headD (0 : Int) = k) ∧ w'.ownsRow w.heap.size 3 1 v ys.length (ys.map (Value.int .i64)) ∧ Below w.heap.size w w') := by
  obtain ⟨m, h1, h2⟩ := h.on
  exact headsN w h1 hn

/-! ### whatever is asked -/

theorem tot_singlesN {T : List (Part Int)} {l : List Int} (h : T.map (·.ks) = l.map (fun k => [k])) : tot T = l.length := by
  have e : T.map (fun z => z.ks.length) = (T.map (·.ks)).map List.length := by rw [List.map_map]; rfl
  unfold tot
  rw [e, h, List.map_map]
  clear h e
  induction l with
  | nil => rfl
  | cons a l ih =>
    rw [List.map_cons, List.sum_cons, ih, List.length_cons]
    show 1 + l.length = _
    omega

theorem addAnyN {n : Nat} (k : Int) (h : LiveN B w0 p S w) (hk : okN k) (hS : tot S ≤ n) (hn : n < 1099511627776) : Calls Tryz.prog 33 #[.pointer (some ⟨p, 0, none⟩), (Value.int .i64) k] w fun e w' => ∃ b, e = .returned (.bool b) ∧ Hid (∃ S', LiveN B w0 p S' w' ∧ tot S' ≤ n + 1 ∧ fOf S' k ≠ none) := by
  cases hf : fOf S k with
  | none =>
    refine (addLN k h hk (fOf_none.1 hf) (by omega)).mono fun e w' hh => ⟨true, hh.1, ?_⟩
    obtain ⟨x, h1, h2⟩ := hh.2
    refine ⟨_, h2, by rw [tot_append, tot_one, h1]; simp; omega, ?_⟩
    rw [fOf_some h2.fam (x := x) (by simp) (by rw [h1]; simp)]
    simp
  | some q =>
    obtain ⟨x, hx, hkx, -⟩ := fOf_mem hf
    exact (addInLN k h hx hkx).mono fun e w' hh => ⟨false, hh.1, S, by rw [hh.2]; exact h, by omega, by rw [hf]; simp⟩

theorem dropAnyN {n : Nat} (k : Int) (h : LiveN B w0 p S w) (hk : okN k) (hS : tot S ≤ n) (hn : n < 1099511627776) : Calls Tryz.prog 51 #[.pointer (some ⟨p, 0, none⟩), (Value.int .i64) k] w fun e w' => ∃ b, e = .returned (.bool b) ∧ Hid (∃ S', LiveN B w0 p S' w' ∧ tot S' ≤ n) := by
  cases hf : fOf S k with
  | none => exact (dropNoLN k h hk (fOf_none.1 hf)).mono fun e w' hh => ⟨false, hh.1, S, by rw [hh.2]; exact h, hS⟩
  | some q =>
    obtain ⟨x, hx, hkx, -⟩ := fOf_mem hf
    refine (dropLN k h hx hkx (by omega)).mono fun e w' hh => ⟨true, hh.1, ?_⟩
    obtain ⟨T, -, -, h3, h4⟩ := hh.2
    exact ⟨_, h4, by omega⟩

theorem burstAnyN {n : Nat} (k : Int) (h : LiveN B w0 p S w) (hk : okN k) (hS : tot S ≤ n) (hn : n < 1099511627776) : Calls Tryz.prog 65 #[.pointer (some ⟨p, 0, none⟩), (Value.int .i64) k] w fun e w' => ∃ b, e = .returned (.bool b) ∧ Hid (∃ S', LiveN B w0 p S' w' ∧ tot S' ≤ n) := by
  cases hf : fOf S k with
  | none => exact (burstNoLN k h hk (fOf_none.1 hf)).mono fun e w' hh => ⟨false, hh.1, S, by rw [hh.2]; exact h, hS⟩
  | some q =>
    obtain ⟨x, hx, hkx, -⟩ := fOf_mem hf
    refine (burstLN k h hx hkx (by omega)).mono fun e w' hh => ⟨true, hh.1, ?_⟩
    obtain ⟨T, h3, h4⟩ := hh.2
    exact ⟨_, h4, by rw [tot_append, tot_singlesN h3]; have := tot_without h.fam hx; omega⟩

theorem joinAnyN {n : Nat} (a b : Int) (h : LiveN B w0 p S w) (ha : okN a) (hb : okN b) (hS : tot S ≤ n) (hn : n < 1099511627776) : Calls Tryz.prog 75 #[.pointer (some ⟨p, 0, none⟩), (Value.int .i64) a, (Value.int .i64) b] w fun e w' => ∃ b, e = .returned (.bool b) ∧ Hid (∃ S', LiveN B w0 p S' w' ∧ tot S' ≤ n) := by
  by_cases hno : fOf S a = none ∨ fOf S b = none ∨ fOf S a = fOf S b
  · exact (joinNoLN a b h ha hb hno).mono fun e w' hh => ⟨false, hh.1, S, hh.2, hS⟩
  · cases hfa : fOf S a with
    | none => exact absurd (.inl hfa) hno
    | some q1 =>
      cases hfb : fOf S b with
      | none => exact absurd (.inr (.inl hfb)) hno
      | some q2 =>
        obtain ⟨x, hx, hax, rfl⟩ := fOf_mem hfa
        obtain ⟨y, hy, hby, rfl⟩ := fOf_mem hfb
        have hq : x.q ≠ y.q := fun e => hno (.inr (.inr (by rw [hfa, hfb, e])))
        refine (joinLN a b h hx hy hax hby hq (by omega)).mono fun e w' hh => ⟨true, hh.1, ?_⟩
        obtain ⟨z, R, h1, h2, h3, h4⟩ := hh.2
        refine ⟨_, h4, ?_⟩
        rw [tot_append, tot_one, h2]
        have t1 := tot_without h.fam hx
        have t2 := tot_without (h.fam.pout x) (mem_pout.2 ⟨hy, fun e => hq e.symm⟩)
        have t3 := tot_without h.fam hy
        have t4 := tot_without (h.fam.pout y) (mem_pout.2 ⟨hx, hq⟩)
        rcases h3 with rfl | rfl <;> omega
end
end

section
open Go.RowKit Go.Maps
/-- Both stand in one part. -/
def SP (S : List (Part Int)) (x y : Int) : Prop := ∃ z ∈ S, x ∈ z.ks ∧ y ∈ z.ks
/-- The same, and all that stand with one of these. -/
def JP (S : List (Part Int)) (ks : List Int) (x y : Int) : Prop := SP S x y ∨ ((∃ k ∈ ks, SP S x k) ∧ ∃ k ∈ ks, SP S y k)
theorem SP.symm {S : List (Part Int)} {x y : Int} (h : SP S x y) : SP S y x := let ⟨z, hz, h1, h2⟩ := h; ⟨z, hz, h2, h1⟩
theorem jp_one {S : List (Part Int)} (hS : Fam ltN okN S) (x0 x y : Int) : JP S [x0] x y ↔ SP S x y := by
  refine ⟨fun h => ?_, .inl⟩
  rcases h with h | ⟨⟨k, hk, z, hz, h1, h2⟩, k', hk', z', hz', h1', h2'⟩
  · exact h
  · rw [List.mem_singleton.1 hk] at h2
    rw [List.mem_singleton.1 hk'] at h2'
    rcases hS.of hz hz' with rfl | ha
    · exact ⟨z, hz, h1, h1'⟩
    · exact absurd h2' (ha.2.2 _ h2)
theorem jp_step {S S1 : List (Part Int)} {x0 b : Int} {xs : List Int} (h0 : SP S x0 x0) (h1 : ∀ x y, SP S1 x y ↔ JP S (x0 :: xs) x y) (x y : Int) : JP S1 [x0, b] x y ↔ JP S (x0 :: (xs ++ [b])) x y := by
  have e1 : ∀ x, SP S1 x x0 ↔ ∃ k ∈ x0 :: xs, SP S x k := fun x => by
    rw [h1]
    refine ⟨fun h => h.elim (fun h => ⟨x0, List.mem_cons_self, h⟩) (fun h => h.1), fun h => .inr ⟨h, x0, List.mem_cons_self, h0⟩⟩
  have e2 : ∀ x, (∃ k ∈ [x0, b], SP S1 x k) ↔ ∃ k ∈ x0 :: (xs ++ [b]), SP S x k := fun x => by
    constructor
    · rintro ⟨k, hk, hs⟩
      rcases List.mem_cons.1 hk with rfl | hk
      · obtain ⟨k', hk', h⟩ := (e1 x).1 hs
        exact ⟨k', by simp only [List.mem_cons, List.mem_append] at hk' ⊢; rcases hk' with h | h <;> simp [h], h⟩
      · obtain rfl := List.mem_singleton.1 hk
        rcases (h1 _ _).1 hs with h | ⟨⟨k', hk', h⟩, -⟩
        · exact ⟨k, by simp, h⟩
        · exact ⟨k', by simp only [List.mem_cons, List.mem_append] at hk' ⊢; rcases hk' with h | h <;> simp [h], h⟩
    · rintro ⟨k, hk, h⟩
      rcases List.mem_cons.1 hk with rfl | hk
      · exact ⟨k, List.mem_cons_self, (e1 x).2 ⟨k, List.mem_cons_self, h⟩⟩
      · rcases List.mem_append.1 hk with hk | hk
        · exact ⟨x0, List.mem_cons_self, (e1 x).2 ⟨k, List.mem_cons_of_mem _ hk, h⟩⟩
        · obtain rfl := List.mem_singleton.1 hk
          exact ⟨k, by simp, (h1 _ _).2 (.inl h)⟩
  unfold JP
  rw [e2 x, e2 y, h1]
  unfold JP
  refine ⟨fun h => ?_, fun h => h.imp .inl id⟩
  have up : ∀ x, (∃ k ∈ x0 :: xs, SP S x k) → ∃ k ∈ x0 :: (xs ++ [b]), SP S x k := fun x ⟨k, hk, h⟩ =>
    ⟨k, by simp only [List.mem_cons, List.mem_append] at hk ⊢; rcases hk with h | h <;> simp [h], h⟩
  rcases h with (h | ⟨h, h'⟩) | h
  · exact .inl h
  · exact .inr ⟨up x h, up y h'⟩
  · exact .inr h
/-- Parts behind calls that change them. -/
structure PNext (w : World) (p m : Nat) (S S' : List (Part Int)) (w' : World) : Prop where
  at_ : PAtN w' p m S'
  tur : Turned (FootN p m S) w w'
  foot : ∀ j, FootN p m S' j → FootN p m S j ∨ w.heap.size ≤ j
  tot_ : tot S' = tot S
theorem PNext.refl {w : World} {p m : Nat} {S : List (Part Int)} (h : PAtN w p m S) : PNext w p m S S w := ⟨h, Turned.refl _ _, fun _ h => .inl h, rfl⟩
theorem PNext.drewN {w w' : World} {p m : Nat} {S S' : List (Part Int)} (h : PNext w p m S S' w') (q : Nat) : PNext w p m S S' (w'.drewN q) := ⟨h.at_.drewN q, h.tur.drewN q, h.foot, h.tot_⟩
theorem PNext.trans {w w1 w2 : World} {p m : Nat} {S S1 S2 : List (Part Int)} (h : PNext w p m S S1 w1) (k : PNext w1 p m S1 S2 w2) : PNext w p m S S2 w2 := by
  refine ⟨k.at_, ⟨k.tur.os.trans h.tur.os, k.tur.tape.trans h.tur.tape, k.tur.output.trans h.tur.output, Nat.le_trans h.tur.size k.tur.size, fun b hb hn => ?_⟩, fun j hj => ?_, k.tot_.trans h.tot_⟩
  · rw [k.tur.block b (Nat.lt_of_lt_of_le hb h.tur.size) (fun hf => (h.foot b hf).elim hn (fun e => by omega)), h.tur.block b hb hn]
  · exact (k.foot j hj).elim (h.foot j) (fun e => .inr (Nat.le_trans h.tur.size e))
theorem sp_pout {S : List (Part Int)} (hS : Fam ltN okN S) {a b : Int} {x y z : Part Int} (hx : x ∈ S) (hy : y ∈ S) (ha : a ∈ x.ks) (hb : b ∈ y.ks) (hz : ∀ k, k ∈ z.ks ↔ k ∈ x.ks ∨ k ∈ y.ks) (s t : Int) : SP (pout y (pout x S) ++ [z]) s t ↔ JP S [a, b] s t := by
  have hin : ∀ {s c : Int} {u : Part Int}, u ∈ S → c ∈ u.ks → SP S s c → s ∈ u.ks := fun {s c u} hu hc ⟨v, hv, h1, h2⟩ => by
    rcases hS.of hu hv with rfl | h
    · exact h1
    · exact absurd h2 (h.2.2 _ hc)
  have h2 : ∀ s, (∃ k ∈ [a, b], SP S s k) ↔ s ∈ z.ks := fun s => by
    rw [hz]
    constructor
    · rintro ⟨k, hk, h⟩
      rcases List.mem_cons.1 hk with rfl | hk
      · exact .inl (hin hx ha h)
      · obtain rfl := List.mem_singleton.1 hk
        exact .inr (hin hy hb h)
    · rintro (h | h)
      · exact ⟨a, by simp, x, hx, h, ha⟩
      · exact ⟨b, by simp, y, hy, h, hb⟩
  unfold JP
  rw [h2, h2]
  constructor
  · rintro ⟨u, hu, k1, k2⟩
    rcases List.mem_append.1 hu with hu | hu
    · exact .inl ⟨u, (mem_pout.1 (mem_pout.1 hu).1).1, k1, k2⟩
    · rw [List.mem_singleton.1 hu] at k1 k2
      exact .inr ⟨k1, k2⟩
  · rintro (⟨u, hu, k1, k2⟩ | ⟨k1, k2⟩)
    · by_cases e1 : u.q = x.q
      · rcases hS.of hu hx with rfl | h
        · exact ⟨z, by simp, (hz _).2 (.inl k1), (hz _).2 (.inl k2)⟩
        · exact absurd e1 h.1
      · by_cases e2 : u.q = y.q
        · rcases hS.of hu hy with rfl | h
          · exact ⟨z, by simp, (hz _).2 (.inr k1), (hz _).2 (.inr k2)⟩
          · exact absurd e2 h.1
        · exact ⟨u, List.mem_append_left _ (mem_pout.2 ⟨mem_pout.2 ⟨hu, e1⟩, e2⟩), k1, k2⟩
    · exact ⟨z, by simp, k1, k2⟩
theorem tot_joined {S : List (Part Int)} (hS : Fam ltN okN S) {x y z : Part Int} (hx : x ∈ S) (hy : y ∈ S) (hq : x.q ≠ y.q) (hl : z.ks.length = x.ks.length + y.ks.length) : tot (pout y (pout x S) ++ [z]) = tot S := by
  have t1 := tot_without hS hx
  have t2 := tot_without (hS.pout x) (mem_pout.2 ⟨hy, fun e => hq e.symm⟩)
  rw [tot_append, tot_one]
  omega
/-- One Join of two things that are there, whatever their parts. -/
theorem joinS {p m : Nat} {S : List (Part Int)} {a b : Int} {w : World} (h : PAtN w p m S) (ha : SP S a a) (hb : SP S b b) (hn : tot S < 1099511627776) :
    Calls Tryz.prog 75 #[.pointer (some ⟨p, 0, none⟩), .int .i64 a, .int .i64 b] w fun e w' => ∃ t, e = .returned (.bool t) ∧ Hid (∃ S', PNext w p m S S' w' ∧ ∀ x y, SP S' x y ↔ JP S [a, b] x y) := by
  obtain ⟨x, hx, ax, -⟩ := ha
  obtain ⟨y, hy, by_, -⟩ := hb
  by_cases hq : x.q = y.q
  · rcases h.fam.of hx hy with rfl | hap
    · have f1 := fOf_some h.fam hx ax
      have f2 := fOf_some h.fam hx by_
      refine (joinNoN a b w h (h.fam.keys x hx a ax) (h.fam.keys x hx b by_) (.inr (.inr (f1.trans f2.symm)))).mono fun e w' hh => ⟨false, hh.1, ?_⟩
      obtain ⟨q, rfl⟩ := hh.2
      refine ⟨S, (PNext.refl h).drewN q, fun s t => ⟨.inl, fun hj => ?_⟩⟩
      have hin : ∀ {s : Int}, (∃ k ∈ [a, b], SP S s k) → s ∈ x.ks := fun {s} ⟨k, hk, v, hv, h1, h2⟩ => by
        have hkx : k ∈ x.ks := by
          rcases List.mem_cons.1 hk with rfl | hk
          · exact ax
          · obtain rfl := List.mem_singleton.1 hk
            exact by_
        rcases h.fam.of hx hv with rfl | hap
        · exact h1
        · exact absurd h2 (hap.2.2 _ hkx)
      exact hj.elim id (fun hj => ⟨x, hx, hin hj.1, hin hj.2⟩)
    · exact absurd hq hap.1
  · rcases Nat.lt_or_ge x.ks.length y.ks.length with hl | hl
    · refine (joinLtN a b w h hx hy ax by_ hq hn hl).mono fun e w' hh => ⟨true, hh.1, ?_⟩
      obtain ⟨z, g0, g1, g2, g3, g4⟩ := unhide hh.2
      refine ⟨_, ⟨g2, g3, g4, tot_joined h.fam hy hx (fun e => hq e.symm) g1⟩, fun s t => ?_⟩
      rw [sp_pout h.fam hy hx by_ ax g0 s t]
      unfold JP
      have e : ∀ s, (∃ k ∈ [b, a], SP S s k) ↔ ∃ k ∈ [a, b], SP S s k := fun s => by
        constructor <;> rintro ⟨k, hk, h⟩ <;> refine ⟨k, ?_, h⟩ <;> simp only [List.mem_cons, List.not_mem_nil, or_false] at hk ⊢ <;> exact hk.symm
      rw [e s, e t]
    · refine (joinGeN a b w h hx hy ax by_ hq hn hl).mono fun e w' hh => ⟨true, hh.1, ?_⟩
      obtain ⟨z, g0, g1, g2, g3, g4⟩ := unhide hh.2
      exact ⟨_, ⟨g2, g3, g4, tot_joined h.fam hx hy hq g1⟩, fun s t => sp_pout h.fam hx hy ax by_ g0 s t⟩
end

section
open Go.RowKit Go.Maps
/-- What joinAll leaves. -/
def JAns (w : World) (p m : Nat) (S : List (Part Int)) (ks : List Int) (w' : World) : Prop := ∃ S', PNext w p m S S' w' ∧ ∀ x y, SP S' x y ↔ JP S ks x y
theorem JAns.step {w w1 w2 : World} {p m : Nat} {S S1 S2 : List (Part Int)} {x0 b : Int} {xs : List Int} (h0 : SP S x0 x0) (h1 : PNext w p m S S1 w1) (h2 : ∀ x y, SP S1 x y ↔ JP S (x0 :: xs) x y) (h3 : PNext w1 p m S1 S2 w2) (h4 : ∀ x y, SP S2 x y ↔ JP S1 [x0, b] x y) : JAns w p m S (x0 :: (xs ++ [b])) w2 :=
  ⟨S2, h1.trans h3, fun x y => (h4 x y).trans (jp_step h0 h2 x y)⟩
set_option maxHeartbeats 4000000 in
set_option maxRecDepth 100000 in
theorem kjoinAllS {c p m ma ml me : Nat} {lk : Int} {S : List (Part Int)} {w : World} {v : Value} {x0 : Int} {xs : List Int} (hb : w.heap[c]? = some (oC p ma ml me lk)) (hP : PAtN w p m S) (hr : NRow w v (x0 :: xs)) (hc : ¬ FootN p m S c) (hv : ∀ b, v.ownBlock = some b → ¬ FootN p m S b) (hin : ∀ k ∈ x0 :: xs, SP S k k) (hn : tot S < 1099511627776) (hlen : xs.length ≤ 1000000000) :
    Calls Tryz.prog 60 #[.pointer (some ⟨c, 0, none⟩), v] w fun r w' => r = .returned (.tuple #[]) ∧ Hid (JAns w p m S (x0 :: xs) w') := by
  rcases nrow_shape hr with ⟨-, h0⟩ | ⟨g, cp, rfl⟩
  · cases h0
  obtain ⟨-, hcap, hmax, ⟨cur, hcur, -⟩, hcell⟩ := nrow_some hr
  have hg : ¬ FootN p m S g := hv g rfl
  have hcl : c < w.heap.size := (Array.getElem?_eq_some_iff.1 hb).1
  have hgl : g < w.heap.size := (Array.getElem?_eq_some_iff.1 hcur).1
  obtain ⟨n, hxn⟩ : ∃ n, n = xs.length := ⟨_, rfl⟩
  have hk1 : (x0 :: xs).length = n + 1 := by simp [hxn]
  rw [hk1] at hcap hcell ⊢
  have HST : Hid (∀ W S', PNext w p m S S' W → W.heap[c]? = some (oC p ma ml me lk) ∧ ∀ j, j < n + 1 → W.cell? ⟨g, j, none⟩ = some (.int .i64 ((x0 :: xs).getD j 0))) := fun W S' hN => by
    have e2 := hN.tur.block g hgl hg
    refine ⟨(hN.tur.block c hcl hc).trans hb, fun j hj => ?_⟩
    rw [← hcell j hj]
    simp only [World.cell?, e2]
  have HSTEP : Hid (∀ W S' j, j < n → PNext w p m S S' W → (∀ x y, SP S' x y ↔ JP S (x0 :: xs.take j) x y) → ∀ q, Calls Tryz.prog 75 #[.pointer (some ⟨p, 0, none⟩), .int .i64 x0, .int .i64 ((x0 :: xs).getD (j + 1) 0)] (W.drewN q) fun e w' => ∃ t, e = .returned (.bool t) ∧ Hid (JAns w p m S (x0 :: xs.take (j + 1)) w')) := fun W S' j hj hN hS q => by
    have hjx : j < xs.length := by omega
    have e1 : (x0 :: xs).getD (j + 1) 0 = xs[j] := by simp [List.getD, hjx]
    have e2 : xs.take (j + 1) = xs.take j ++ [xs[j]] := by rw [List.take_add_one, List.getElem?_eq_getElem hjx]; rfl
    rw [e1, e2]
    have hx0 := hin x0 List.mem_cons_self
    have hxj := hin xs[j] (List.mem_cons_of_mem _ (List.getElem_mem hjx))
    have hN' := hN.drewN q
    refine (joinS hN'.at_ ((hS _ _).2 (.inl hx0)) ((hS _ _).2 (.inl hxj)) (by rw [hN.tot_]; exact hn)).mono fun e w' hh => ?_
    obtain ⟨t, he, hA⟩ := hh
    obtain ⟨S2, h3, h4⟩ := unhide hA
    exact ⟨t, he, JAns.step hx0 hN' hS h3 h4⟩
  have HM0 : Hid (∃ S', PNext w p m S S' w ∧ ∀ x y, SP S' x y ↔ JP S (x0 :: xs.take 0) x y) := ⟨S, PNext.refl hP, fun x y => by rw [List.take_zero]; exact (jp_one hP.fam x0 x y).symm⟩
  have HALL : Hid (xs.take n = xs) := by show xs.take n = xs; rw [hxn]; exact List.take_length
  have HN : Hid (n ≤ 1000000000 ∧ n + 1 ≤ cp) := ⟨by omega, hcap⟩
  have z1 : (1 : Int) ≤ ((n + 1 : Nat) : Int) := by omega
  have z2 : ((n + 1 : Nat) : Int) ≤ (cp : Int) := by omega
  have z3 : (0 : Int) < ((n + 1 : Nat) : Int) := by omega
  clear hb hP hr hc hv hin hn hlen hcap hmax hcur hcell hg hcl hgl hk1 hxn
  rcases Nat.eq_zero_or_pos n with hz | hz
  · subst hz
    have HR : Hid (JAns w p m S (x0 :: xs) w) := by have := unhide HM0; rw [unhide HALL] at this; exact this
    clear HST HSTEP HM0 HALL HN
    go_enter Tryz.func60, Tryz.ntmps60
    go_upto_region 1 with fail
    all_goals
      refine wp_loop_rounds 1 ?_
      rw [rounds_succ]
      go_wp2_with fail
      go_end0
      exact ⟨rfl, unhide HR⟩
  have z4 : ¬ cp = 1 := by omega
  clear hz
  go_enter Tryz.func60, Tryz.ntmps60
  go_upto_region 1 with fail
  go_loopw [9] (fun s9 wr => ∃ j : Nat, j ≤ n ∧ s9 = .int .i64 j ∧ Hid (JAns w p m S (x0 :: xs.take j) wr)) (fun s9 _ => n - (intOf s9).toNat)
  case atStart => exact ⟨0, Nat.zero_le _, rfl, unhide HM0⟩
  case round =>
    obtain ⟨j, hj, rfl, HJ⟩ := hrel
    obtain ⟨S', hN, hS⟩ := unhide HJ
    clear HM0
    by_cases hlt : j < n
    · have hltz : (j : Int) < (n : Int) := by omega
      obtain ⟨k0, k1⟩ := unhide HST wr S' hN
      obtain ⟨c1, -⟩ := cellsC k0
      have k2 := k1 0 (by omega)
      have k3 := k1 (j + 1) (by omega)
      replace k2 : wr.cell? ⟨g, 0, none⟩ = some (.int .i64 x0) := k2
      have CJ := hide (unhide HSTEP wr S' j hlt hN hS)
      have zw : Hid (wrap64 ((j : Int) + 1) = ((j + 1 : Nat) : Int)) := by have := unhide HN; show wrap64 ((j : Int) + 1) = ((j + 1 : Nat) : Int); unfold wrap64; omega
      generalize (x0 :: xs).getD (j + 1) 0 = xj at *
      rw [Nat.add_comm j 1] at k3
      clear HJ hN hS k0 k1 HSTEP
      go_upto_region 3 with fail
      clear k3
      refine wp_region_noPanic ?_
      refine regionL [] (fun y => y.cell? ⟨c, 0, none⟩ = some (.pointer (some ⟨p, 0, none⟩)) ∧ y.cell? ⟨g, 0, none⟩ = some (.int .i64 x0)) (by kernel_rfl) ⟨c1, k2⟩ (fun hHeld => ?_)
      refine takeL (i := 0) (v := ?t2v0) (some 13) rfl rfl (by kernel_rfl) (by kernel_rfl) (by kernel_rfl) (by kernel_rfl) (by kernel_rfl) (fun _ _ _ h => h) (Or.inl ⟨by rfl, ?t2h0⟩) (by assumption) ?t2r0
      case t2h0 => (intro y hSu; (try dsimp only at hSu); go_simp; first | done | with_reducible rfl)
      (try simp only [Act.put, List.setIfInBounds_toArray, List.set_cons_zero, List.set_cons_succ])
      refine takeL (i := 1) (v := ?t2v1) (some 14) rfl rfl (by kernel_rfl) (by kernel_rfl) (by kernel_rfl) (by kernel_rfl) (by kernel_rfl) (fun _ _ _ h => h) (Or.inl ⟨by rfl, ?t2h1⟩) (by assumption) ?t2r1
      case t2h1 => (intro y hSu; (try dsimp only at hSu); go_simp; first | done | with_reducible rfl)
      (try simp only [Act.put, List.setIfInBounds_toArray, List.set_cons_zero, List.set_cons_succ])
      refine takeL (i := 2) (v := ?t2v2) (some 15) rfl rfl (by kernel_rfl) (by kernel_rfl) (by kernel_rfl) (by kernel_rfl) (by kernel_rfl) (fun _ _ _ h => h) (Or.inl ⟨by rfl, ?t2h2⟩) (by assumption) ?t2r2
      case t2h2 => (intro y hSu; (try dsimp only at hSu); go_simp; first | done | with_reducible rfl)
      (try simp only [Act.put, List.setIfInBounds_toArray, List.set_cons_zero, List.set_cons_succ])
      refine takeL (i := 3) (v := ?t2v3) (some 16) rfl rfl (by kernel_rfl) (by kernel_rfl) (by kernel_rfl) (by kernel_rfl) (by kernel_rfl) (fun _ _ _ h => h) (Or.inl ⟨by rfl, ?t2h3⟩) (by assumption) ?t2r3
      case t2h3 => (intro y hSu; (try dsimp only at hSu); go_simp; first | done | with_reducible rfl)
      (try simp only [Act.put, List.setIfInBounds_toArray, List.set_cons_zero, List.set_cons_succ])
      refine takeL (i := 4) (v := ?t2v4) (some 17) rfl rfl (by kernel_rfl) (by kernel_rfl) (by kernel_rfl) (by kernel_rfl) (by kernel_rfl) (fun _ _ _ h => h) (Or.inl ⟨by rfl, ?t2h4⟩) (by assumption) ?t2r4
      case t2h4 => (intro y hSu; (try dsimp only at hSu); go_simp; first | done | with_reducible rfl)
      (try simp only [Act.put, List.setIfInBounds_toArray, List.set_cons_zero, List.set_cons_succ])
      refine takeL (i := 5) (v := ?t2v5) (some 18) rfl rfl (by kernel_rfl) (by kernel_rfl) (by kernel_rfl) (by kernel_rfl) (by kernel_rfl) (fun _ _ _ h => h) (Or.inl ⟨by rfl, ?t2h5⟩) (by assumption) ?t2r5
      case t2h5 => (intro y hSu; (try dsimp only at hSu); go_simp; first | done | with_reducible rfl)
      (try simp only [Act.put, List.setIfInBounds_toArray, List.set_cons_zero, List.set_cons_succ])
      refine takeL (i := 6) (v := ?t2v6) (some 19) rfl rfl (by kernel_rfl) (by kernel_rfl) (by kernel_rfl) (by kernel_rfl) (by kernel_rfl) (fun _ _ _ h => h) (Or.inl ⟨by rfl, ?t2h6⟩) (by assumption) ?t2r6
      case t2h6 => (intro y hSu; (try dsimp only at hSu); go_simp; first | done | with_reducible rfl)
      (try simp only [Act.put, List.setIfInBounds_toArray, List.set_cons_zero, List.set_cons_succ])
      refine takeL (i := 7) (v := ?t2v7) (some 20) rfl rfl (by kernel_rfl) (by kernel_rfl) (by kernel_rfl) (by kernel_rfl) (by kernel_rfl) (fun _ _ _ h => h) (Or.inl ⟨by rfl, ?t2h7⟩) (by assumption) ?t2r7
      case t2h7 => (intro y hSu; (try dsimp only at hSu); go_simp; first | done | with_reducible rfl)
      (try simp only [Act.put, List.setIfInBounds_toArray, List.set_cons_zero, List.set_cons_succ])
      refine readyL (i := 8) (by kernel_rfl) rfl (fun K hK => ?_)
      go_simp
      refine (unhide CJ 1).mono ?_
      rintro e w5 ⟨t, rfl, HA⟩
      have HE : Hid (w5.cell? ⟨c, 0, none⟩ = some (.pointer (some ⟨p, 0, none⟩)) ∧ w5.cell? ⟨g, 0, none⟩ = some (.int .i64 x0)) := by
        obtain ⟨S2, hN2, -⟩ := unhide HA
        obtain ⟨k0, k1⟩ := unhide HST w5 S2 hN2
        exact ⟨(cellsC k0).1, k1 0 (by omega)⟩
      clear HST CJ
      (try dsimp only)
      refine hK.out _ _ (fun _ => (unhide HE)) ?_
      clear hK K
      (try simp only [Act.put, List.setIfInBounds_toArray, List.set_cons_zero, List.set_cons_succ])
      have hH4 := (unhide HE)
      refine doneL (by kernel_rfl) ?_ _
      refine NoPanic.normal ?_
      go_wp2_with fail
      (try rw [unhide zw])
      exact ⟨⟨j + 1, by omega, rfl, unhide HA⟩, by simp [intOf]; omega⟩
    · have hltz : ¬ (j : Int) < (n : Int) := by omega
      obtain rfl : j = n := by omega
      have HR : Hid (JAns w p m S (x0 :: xs) wr) := by have := unhide HJ; rw [unhide HALL] at this; exact this
      clear HJ hN hS HST HSTEP
      go_wp2_with fail
      go_end0
      exact ⟨rfl, unhide HR⟩
end

end Go.Proofs.YtkmhcgmmbkchaaaGreat
