/- Join: the walks. -/
import Derived.Test.YtfhidghjmookhaaJoinN
namespace Go.Proofs.Ytfhidghjmookhaa
open Go.RowKit Go.Maps

set_option maxHeartbeats 2000000 in
set_option maxRecDepth 100000 in
theorem joinNoN {p m : Nat} {S : List (Part Int)} (a b : Int) (w : World) (h : PAtN w p m S) (ha : okN a) (hb : okN b) (hno : fOf S a = none ∨ fOf S b = none ∨ fOf S a = fOf S b) :
    Calls Try.prog 27 #[.pointer (some ⟨p, 0, none⟩), (Value.int .i64) a, (Value.int .i64) b] w fun e w' => e = .returned (.bool false) ∧ ∃ q, w' = w.drewN q := by
  have c1 := h.cell
  have hl := h.drew.look a ha
  have hl2 := h.drew.look b hb
  have HEQ : Hid (∀ q, fOf S a = some q → (binOp .eql 65 (.pointer (some ⟨q, 0, none⟩)) (.pointer (some ⟨q, 0, none⟩))).run Try.prog w.drew = .ok (.bool true) w.drew) := fun q h1 => by
    obtain ⟨x, hx, -, rfl⟩ := fOf_mem h1
    have := h.drew.eql hx hx
    simpa using this
  clear h
  cases hfa : fOf S a with
  | none =>
    rw [hfa] at hl
    simp only [ptr] at hl
    cases hfb : fOf S b with
    | none =>
      rw [hfb] at hl2
      simp only [ptr] at hl2
      clear hno HEQ
      go_enter Try.func27, Try.ntmps27
      go_upto_region 1 with fail
      go_region
      all_goals
        go_wp2_with fail
        go_ret
        exact ⟨rfl, 1, rfl⟩
    | some y =>
      rw [hfb] at hl2
      simp only [ptr] at hl2
      clear hno HEQ
      go_enter Try.func27, Try.ntmps27
      go_upto_region 1 with fail
      go_region
      all_goals
        go_wp2_with fail
        go_ret
        exact ⟨rfl, 1, rfl⟩
  | some x =>
    rw [hfa] at hl
    simp only [ptr] at hl
    cases hfb : fOf S b with
    | none =>
      rw [hfb] at hl2
      simp only [ptr] at hl2
      clear hno HEQ
      go_enter Try.func27, Try.ntmps27
      go_upto_region 1 with fail
      go_region
      all_goals
        go_wp2_with fail
        go_ret
        exact ⟨rfl, 1, rfl⟩
    | some y =>
      obtain rfl : x = y := by
        rcases hno with e | e | e
        · rw [hfa] at e; cases e
        · rw [hfb] at e; cases e
        · rw [hfa, hfb] at e; injection e
      rw [hfb] at hl2
      simp only [ptr] at hl2
      have heq := unhide HEQ x hfa
      clear hno HEQ
      go_enter Try.func27, Try.ntmps27
      go_upto_region 1 with fail
      go_region
      all_goals
        go_wp2_with fail
        go_ret
        exact ⟨rfl, 1, rfl⟩

set_option maxHeartbeats 4000000 in
set_option maxRecDepth 100000 in
theorem joinGeN {p m : Nat} {S : List (Part Int)} {x y : Part Int} (a b : Int) (w : World) (h : PAtN w p m S) (hx : x ∈ S) (hy : y ∈ S) (ha : a ∈ x.ks) (hb : b ∈ y.ks) (hne : x.q ≠ y.q) (hn : tot S < 1099511627776) (hlen : y.ks.length ≤ x.ks.length) :
    Calls Try.prog 27 #[.pointer (some ⟨p, 0, none⟩), (Value.int .i64) a, (Value.int .i64) b] w fun e w' => e = .returned (.bool true) ∧ Hid (JoinedN w p m S x y w') := by
  have c1 := h.cell
  have hl := h.drew.look a (h.fam.keys x hx a ha)
  have hl2 := h.drew.look b (h.fam.keys y hy b hb)
  rw [fOf_some h.fam hx ha] at hl
  rw [fOf_some h.fam hy hb] at hl2
  simp only [ptr] at hl hl2
  have heq := h.drew.eql hx hy
  rw [decide_eq_false hne] at heq
  obtain ⟨gx, cx, ex, -⟩ := (h.rows x hx).some_ (h.fam.some_ x hx)
  obtain ⟨gy, cy, ey, -⟩ := (h.rows y hy).some_ (h.fam.some_ y hy)
  have dx := (h.rows x hx).cell.1
  have dy := (h.rows y hy).cell.1
  have hap : Apart x y := (h.fam.of hx hy).resolve_left (fun e => hne (by rw [e]))
  have rla := (h.rows x hx).row
  have rsm := (h.rows y hy).row
  rw [ex] at rla
  rw [ey] at rsm
  have htot : x.ks.length + y.ks.length < 1099511627776 := by
    have t1 := tot_without h.fam hx
    have t2 := tot_without (h.fam.without x) (mem_without.2 ⟨hy, fun e => hap.1 e.symm⟩)
    omega
  have hgg : gx ≠ gy := fun e => hap.2.1 gx (by rw [ex]; rfl) (by rw [ey, e]; rfl)
  have CM : Hid (∀ q, Calls Try.prog 46 #[.slice (some ⟨gx, 0, none⟩) x.ks.length cx, .slice (some ⟨gy, 0, none⟩) y.ks.length cy] (w.drewN q) fun e w5 => ∃ g c, e = .returned (.slice (some ⟨g, 0, none⟩) (x.ks.length + y.ks.length) c) ∧ w5.cell? ⟨x.q, 0, none⟩ = some x.v ∧ w5.frozen? ⟨x.q, 0, none⟩ = false ∧ Hid (∃ z, JMidN w p m S x y z 0 (w5.setCell ⟨x.q, 0, none⟩ (.slice (some ⟨g, 0, none⟩) (x.ks.length + y.ks.length) c)))) := fun q =>
    (mergeN x.ks y.ks (w.drewN q) rla rsm hgg (h.fam.some_ x hx) (h.fam.rise x hx) (h.fam.rise y hy) hap.2.2 htot).mono fun e w5 hh => by
      obtain ⟨g, c, he, hM⟩ := hh
      obtain ⟨s1, s2, z, -, s3⟩ := JMidN.start h hx hy hap.1 (by rw [ex]; rfl) (unhide hM)
      exact ⟨g, c, he, s1, s2, z, s3⟩
  have HS : Hid (∀ z j wr, JMidN w p m S x y z j wr → wr.cell? ⟨y.q, 0, none⟩ = some y.v ∧ ∀ i, i < y.ks.length → wr.cell? ⟨gy, i, none⟩ = some ((Value.int .i64) (y.ks.getD i (0 : Int)))) := fun z j wr hJ => by
    refine ⟨hJ.rowS.cell.1, fun i hi => ?_⟩
    have := hJ.rowS.row
    rw [ey] at this
    exact rowCellN this hi
  have HNX : Hid (∀ z j wr, JMidN w p m S x y z j wr → j < y.ks.length → wr.cell? ⟨p, 0, none⟩ = some (.map (some m)) ∧ ∃ w', (Instr.mapUpdate 55 (.map (some m)) ((Value.int .i64) (y.ks.getD j (0 : Int))) (.pointer (some ⟨x.q, 0, none⟩))).run Try.prog wr = .ok () w' ∧ JMidN w p m S x y z (j + 1) w') := fun z j wr hJ hj => hJ.next h hy hj hn
  have HDN : Hid (∀ z wr, JMidN w p m S x y z y.ks.length wr → JoinedN w p m S x y wr) := fun z wr hJ => hJ.done h hx hy hap.1
  have hlz : ¬ (x.ks.length : Int) < (y.ks.length : Int) := by omega
  rw [ex] at dx
  rw [ey] at dy
  rw [ex] at CM
  rw [ey] at HS
  have hqq : ¬ x.q = y.q := hne
  have hqq2 : ¬ y.q = x.q := fun e => hne e.symm
  generalize x.q = qx at *
  generalize y.q = qy at *
  have HL : Hid (y.ks.length < 1099511627776) := by show y.ks.length < 1099511627776; omega
  generalize hLx : x.ks.length = Lx at *
  generalize hLy : y.ks.length = Ly at *
  generalize hLL : Lx + Ly = LL at *
  clear h hap rla rsm htot hgg ex ey hne hn hlen hLx hLy hLL
  go_enter Try.func27, Try.ntmps27
  go_upto_region 1 with fail
  go_region
  all_goals
    go_upto_region 4 with fail
    go_region
    all_goals
      go_upto_region 6 with fail
      go_region_with ((go_at_call 46; refine (unhide CM 3).mono ?_; rintro e w5 ⟨g, c, rfl, f1, f2, HZ⟩))
      all_goals
        obtain ⟨z, hJ⟩ := unhide HZ
        have f3 := (unhide HS z 0 _ hJ).1
        have HJ := hide hJ
        clear hJ HZ CM
        go_wp2_with fail
        go_loopw [64] (fun s64 wr => ∃ j : Nat, j ≤ Ly ∧ s64 = .int .i64 j ∧ Hid (∃ z, JMidN w p m S x y z j wr)) (fun s64 _ => Ly - (intOf s64).toNat)
        case atStart => exact ⟨0, Nat.zero_le _, rfl, ⟨z, unhide HJ⟩⟩
        case round =>
          obtain ⟨j, hj, rfl, HM⟩ := hrel
          obtain ⟨z2, hJ2⟩ := unhide HM
          by_cases hlt : j < Ly
          · have hltz : (j : Int) < (Ly : Int) := by omega
            obtain ⟨k1, w7, hr7, hJ3⟩ := unhide HNX z2 j wr hJ2 hlt
            have k2 := (unhide HS z2 j wr hJ2).2 j hlt
            have hjw : IntKind.i64.wrap ((j : Int) + 1) = ((j + 1 : Nat) : Int) := by rw [IntKind.wrap_i64]; have := unhide HL; omega
            have HJ3 := hide hJ3
            generalize y.ks.getD j (0 : Int) = kj at *
            clear HM hJ2 hJ3 HNX HS HDN HJ
            go_wp2_with fail
            go_roundw
            case rel => exact ⟨j + 1, by omega, rfl, ⟨z2, unhide HJ3⟩⟩
            case measure => simp [intOf]; omega
          · have hltz : ¬ (j : Int) < (Ly : Int) := by omega
            obtain rfl : j = Ly := by omega
            have HR := hide (unhide HDN z2 wr hJ2)
            clear HM hJ2 HNX HS HDN HJ
            go_wp2_with fail
            go_ret
            exact ⟨rfl, unhide HR⟩

set_option maxHeartbeats 4000000 in
set_option maxRecDepth 100000 in
theorem joinLtN {p m : Nat} {S : List (Part Int)} {x y : Part Int} (a b : Int) (w : World) (h : PAtN w p m S) (hx : x ∈ S) (hy : y ∈ S) (ha : a ∈ x.ks) (hb : b ∈ y.ks) (hne : x.q ≠ y.q) (hn : tot S < 1099511627776) (hlen : x.ks.length < y.ks.length) :
    Calls Try.prog 27 #[.pointer (some ⟨p, 0, none⟩), (Value.int .i64) a, (Value.int .i64) b] w fun e w' => e = .returned (.bool true) ∧ Hid (JoinedN w p m S y x w') := by
  have c1 := h.cell
  have hl := h.drew.look a (h.fam.keys x hx a ha)
  have hl2 := h.drew.look b (h.fam.keys y hy b hb)
  rw [fOf_some h.fam hx ha] at hl
  rw [fOf_some h.fam hy hb] at hl2
  simp only [ptr] at hl hl2
  have heq := h.drew.eql hx hy
  rw [decide_eq_false hne] at heq
  obtain ⟨gx, cx, ex, -⟩ := (h.rows x hx).some_ (h.fam.some_ x hx)
  obtain ⟨gy, cy, ey, -⟩ := (h.rows y hy).some_ (h.fam.some_ y hy)
  have dx := (h.rows x hx).cell.1
  have dy := (h.rows y hy).cell.1
  have hap : Apart y x := (h.fam.of hy hx).resolve_left (fun e => hne (by rw [e]))
  have rla := (h.rows y hy).row
  have rsm := (h.rows x hx).row
  rw [ey] at rla
  rw [ex] at rsm
  have htot : y.ks.length + x.ks.length < 1099511627776 := by
    have t1 := tot_without h.fam hy
    have t2 := tot_without (h.fam.without y) (mem_without.2 ⟨hx, fun e => hap.1 e.symm⟩)
    omega
  have hgg : gy ≠ gx := fun e => hap.2.1 gy (by rw [ey]; rfl) (by rw [ex, e]; rfl)
  have CM : Hid (∀ q, Calls Try.prog 46 #[.slice (some ⟨gy, 0, none⟩) y.ks.length cy, .slice (some ⟨gx, 0, none⟩) x.ks.length cx] (w.drewN q) fun e w5 => ∃ g c, e = .returned (.slice (some ⟨g, 0, none⟩) (y.ks.length + x.ks.length) c) ∧ w5.cell? ⟨y.q, 0, none⟩ = some y.v ∧ w5.frozen? ⟨y.q, 0, none⟩ = false ∧ Hid (∃ z, JMidN w p m S y x z 0 (w5.setCell ⟨y.q, 0, none⟩ (.slice (some ⟨g, 0, none⟩) (y.ks.length + x.ks.length) c)))) := fun q =>
    (mergeN y.ks x.ks (w.drewN q) rla rsm hgg (h.fam.some_ y hy) (h.fam.rise y hy) (h.fam.rise x hx) hap.2.2 htot).mono fun e w5 hh => by
      obtain ⟨g, c, he, hM⟩ := hh
      obtain ⟨s1, s2, z, -, s3⟩ := JMidN.start h hy hx hap.1 (by rw [ey]; rfl) (unhide hM)
      exact ⟨g, c, he, s1, s2, z, s3⟩
  have HS : Hid (∀ z j wr, JMidN w p m S y x z j wr → wr.cell? ⟨x.q, 0, none⟩ = some x.v ∧ ∀ i, i < x.ks.length → wr.cell? ⟨gx, i, none⟩ = some ((Value.int .i64) (x.ks.getD i (0 : Int)))) := fun z j wr hJ => by
    refine ⟨hJ.rowS.cell.1, fun i hi => ?_⟩
    have := hJ.rowS.row
    rw [ex] at this
    exact rowCellN this hi
  have HNX : Hid (∀ z j wr, JMidN w p m S y x z j wr → j < x.ks.length → wr.cell? ⟨p, 0, none⟩ = some (.map (some m)) ∧ ∃ w', (Instr.mapUpdate 55 (.map (some m)) ((Value.int .i64) (x.ks.getD j (0 : Int))) (.pointer (some ⟨y.q, 0, none⟩))).run Try.prog wr = .ok () w' ∧ JMidN w p m S y x z (j + 1) w') := fun z j wr hJ hj => hJ.next h hx hj hn
  have HDN : Hid (∀ z wr, JMidN w p m S y x z x.ks.length wr → JoinedN w p m S y x wr) := fun z wr hJ => hJ.done h hy hx hap.1
  have hlz : (x.ks.length : Int) < (y.ks.length : Int) := by omega
  rw [ex] at dx
  rw [ey] at dy
  rw [ey] at CM
  rw [ex] at HS
  have hqq : ¬ x.q = y.q := hne
  have hqq2 : ¬ y.q = x.q := fun e => hne e.symm
  generalize x.q = qx at *
  generalize y.q = qy at *
  have HL : Hid (x.ks.length < 1099511627776) := by show x.ks.length < 1099511627776; omega
  generalize hLx : x.ks.length = Lx at *
  generalize hLy : y.ks.length = Ly at *
  generalize hLL : Ly + Lx = LL at *
  clear h hap rla rsm htot hgg ex ey hne hn hlen hLx hLy hLL
  go_enter Try.func27, Try.ntmps27
  go_upto_region 1 with fail
  go_region
  all_goals
    go_upto_region 4 with fail
    go_region
    all_goals
      go_upto_region 6 with fail
      go_region_with ((go_at_call 46; refine (unhide CM 3).mono ?_; rintro e w5 ⟨g, c, rfl, f1, f2, HZ⟩))
      all_goals
        obtain ⟨z, hJ⟩ := unhide HZ
        have f3 := (unhide HS z 0 _ hJ).1
        have HJ := hide hJ
        clear hJ HZ CM
        go_wp2_with fail
        go_loopw [64] (fun s64 wr => ∃ j : Nat, j ≤ Lx ∧ s64 = .int .i64 j ∧ Hid (∃ z, JMidN w p m S y x z j wr)) (fun s64 _ => Lx - (intOf s64).toNat)
        case atStart => exact ⟨0, Nat.zero_le _, rfl, ⟨z, unhide HJ⟩⟩
        case round =>
          obtain ⟨j, hj, rfl, HM⟩ := hrel
          obtain ⟨z2, hJ2⟩ := unhide HM
          by_cases hlt : j < Lx
          · have hltz : (j : Int) < (Lx : Int) := by omega
            obtain ⟨k1, w7, hr7, hJ3⟩ := unhide HNX z2 j wr hJ2 hlt
            have k2 := (unhide HS z2 j wr hJ2).2 j hlt
            have hjw : IntKind.i64.wrap ((j : Int) + 1) = ((j + 1 : Nat) : Int) := by rw [IntKind.wrap_i64]; have := unhide HL; omega
            have HJ3 := hide hJ3
            generalize x.ks.getD j (0 : Int) = kj at *
            clear HM hJ2 hJ3 HNX HS HDN HJ
            go_wp2_with fail
            go_roundw
            case rel => exact ⟨j + 1, by omega, rfl, ⟨z2, unhide HJ3⟩⟩
            case measure => simp [intOf]; omega
          · have hltz : ¬ (j : Int) < (Lx : Int) := by omega
            obtain rfl : j = Lx := by omega
            have HR := hide (unhide HDN z2 wr hJ2)
            clear HM hJ2 HNX HS HDN HJ
            go_wp2_with fail
            go_ret
            exact ⟨rfl, unhide HR⟩
end Go.Proofs.Ytfhidghjmookhaa
