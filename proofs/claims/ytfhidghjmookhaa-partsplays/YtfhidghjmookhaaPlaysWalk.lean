/- The walk of bramblelaw05.PartsPlays. -/
import Derived.Test.YtfhidghjmookhaaPlay1
import Derived.Test.YtfhidghjmookhaaPlay5
import Derived.Test.YtfhidghjmookhaaPlay6
import Derived.Test.YtfhidghjmookhaaPlay7
import Derived.Test.YtfhidghjmookhaaAwake
namespace Go.Proofs.Ytfhidghjmookhaa
open Go.RowKit Go.Maps

theorem play_any {w0 w : World} {p : Nat} {S : List (Part Int)} {rs : List Rw} {v : Value} {its : List (Int × Int)} {nx : Int} (kd a b : Int) (okA : okN a) (okB : okN b) (h : SideN w0 p S (itm v its :: rs) w) (hR : Rel S its nx) (hn : its.length ≤ 1000) (hnx : 0 ≤ nx ∧ nx ≤ 1000000) :
    Calls Try.prog 9 #[.pointer (some ⟨p, 0, none⟩), .agg #[v, .int .i64 nx], .agg #[.int .i64 kd, .int .i64 a, .int .i64 b]] w fun e w' => ∃ v' nx', e = .returned (.tuple #[.agg #[v', .int .i64 nx'], .bool true]) ∧ Hid (Played w0 p rs (its.length + 1) (nx + its.length + 1) v' nx' w') := by
  by_cases k1 : kd = 1
  · subst k1; exact playAdd a b okA okB h hR hn hnx
  · by_cases k2 : kd = 2
    · subst k2; exact playDrop a b okA okB h hR hn hnx
    · by_cases k3 : kd = 3
      · subst k3; exact playJoin a b okA okB h hR hn hnx
      · by_cases k4 : kd = 4
        · subst k4; exact playBurst a b okA okB h hR hn hnx
        · by_cases k5 : kd = 5
          · subst k5; exact playHead a b okA h hR hn hnx
          · by_cases k6 : kd = 6
            · subst k6; exact playSame a b okA okB h hR hn hnx
            · exact playAll kd a b okA h hR hn hnx (by simpa using k1) (by simpa using k2) (by simpa using k3) (by simpa using k4) (by simpa using k5) (by simpa using k6)

/-- A block that holds an item. -/
def rX (M : Nat) (x y : Value) : Rw := ⟨.slice (some ⟨M, 0, none⟩) 1 1, 35, 2, 1, [x, y]⟩
theorem SideN.cellX {w0 u : World} {p M : Nat} {S : List (Part Int)} {rs : List Rw} {x y : Value} (h : SideN w0 p S rs u) (hm : rX M x y ∈ rs) : u.cell? ⟨M, 0, none⟩ = some x := by
  have h0 : u.ownsRow w0.heap.size 35 2 (.slice (some ⟨M, 0, none⟩) 1 1) 1 [x, y] := h.rows _ hm
  exact h0.cellAt 0 (by omega)
theorem SideN.boxX {w0 u : World} {p : Nat} {S : List (Part Int)} {rs : List Rw} (h : SideN w0 p S rs u) (x y : Value) : SideN w0 p S (rX u.heap.size x y :: rs) (u.alloc (.cells #[x, y] 35)) :=
  h.more ((Below.refl _ _).alloc (Nat.le_refl _) _) (World.ownsRow_lit u #[x, y] 1 (Nat.le_refl _) (by unfold maxLen; omega) rfl)

set_option maxHeartbeats 4000000 in
set_option maxRecDepth 100000 in
theorem plays_any (a : Option Addr) (b off len cap N : Nat) (o : Nat → Int × Int × Int) (w : World) (hN : Hid (N = min len 100))
    (HC : Hid (∀ i, i < len → a = some ⟨b, off, none⟩ ∧ (w.cell? ⟨b, off + i * 3, none⟩ = some (.int .i64 (o i).1) ∧ w.cell? ⟨b, off + i * 3 + 1, none⟩ = some (.int .i64 (o i).2.1) ∧ w.cell? ⟨b, off + i * 3 + 2, none⟩ = some (.int .i64 (o i).2.2)) ∧ okN (o i).2.1 ∧ okN (o i).2.2)) :
    Calls Try.prog 3 #[.slice a len cap] w fun e w' => e = .returned (.bool true) ∧ Below w.heap.size w w' := by
  go_enter Try.func3, Try.ntmps3
  go_wp2_with fail
  refine (newLN w).mono ?_
  rintro e w1 ⟨p, rfl, L1⟩
  have HL1 := hide L1
  clear L1
  go_wp2_with fail
  refine (awake_any w1).mono ?_
  rintro e w2 ⟨rfl, hb2⟩
  have h2 : SideN w p [] [] w2 := ((unhide HL1).step hb2).side
  have h3 := h2.box (.slice none 0 0) (.int .i64 0)
  have HS3 : Hid (SideN w p [] [itm (.slice none 0 0) [], rM w2.heap.size (.slice none 0 0) (.int .i64 0)] (w2.alloc (.cells #[.slice none 0 0, .int .i64 0] 28))) := h3.more (Below.refl _ _) (World.ownsRow_nil _ _ _ _)
  have hN4 : N ≤ 100 := by have := unhide hN; omega
  clear HL1 hb2 h2 h3
  go_upto_region 5 with fail
  generalize (w2.alloc (.cells #[.slice none 0 0, .int .i64 0] 28)) = w4 at *
  go_wp2_with fail
  go_loopw [5] (fun s5 wr => ∃ (k : Nat), k ≤ N ∧ s5 = .int .i64 k ∧ Hid (∃ (v : Value) (nx : Int), (∃ S its, SideN w p S [itm v its, rM w2.heap.size v (.int .i64 nx)] wr ∧ Rel S its nx ∧ its.length ≤ k ∧ 0 ≤ nx ∧ nx ≤ k * 101))) (fun s5 _ => N - (intOf s5).toNat)
  case atStart => exact ⟨0, Nat.zero_le _, rfl, _, 0, [], [], unhide HS3, rel_nil 0, Nat.le_refl _, by omega, by omega⟩
  case round =>
    obtain ⟨k, hk, rfl, HK⟩ := hrel
    rename World => wo
    clear HS3
    obtain ⟨v, nx, S, its, hS, hR, hl, hn0, hn1⟩ := unhide HK
    obtain ⟨a5, c5, hv5⟩ := item_shape hS.items
    obtain ⟨L5, hL5⟩ : ∃ L5, its.length = L5 := ⟨_, rfl⟩
    rw [hL5] at hv5
    subst hv5
    obtain ⟨d0, d1, df⟩ := hS.cellM (List.mem_cons_of_mem _ (List.mem_cons_self ..))
    by_cases hlt : k < N
    · have hlk : k < len := by have := unhide hN; omega
      have hll : (k : Int) < (len : Int) := by omega
      have h100 : (k : Int) < 100 := by omega
      obtain ⟨ea, ⟨q0, q1, q2⟩, okA, okB⟩ := unhide HC k hlk
      subst ea
      have hbw : b < w.heap.size := World.block_lt_of_cell? _ _ q0
      have g0 : wo.cell? ⟨b, off + k * 3, none⟩ = some (.int .i64 (o k).1) := (hS.below.cell (by exact hbw)).trans q0
      have g1 : wo.cell? ⟨b, off + k * 3 + 1, none⟩ = some (.int .i64 (o k).2.1) := (hS.below.cell (by exact hbw)).trans q1
      have g2 : wo.cell? ⟨b, off + k * 3 + 2, none⟩ = some (.int .i64 (o k).2.2) := (hS.below.cell (by exact hbw)).trans q2
      have CP : Hid (Calls Try.prog 9 #[.pointer (some ⟨p, 0, none⟩), .agg #[(.slice a5 L5 c5), .int .i64 nx], .agg #[.int .i64 (o k).1, .int .i64 (o k).2.1, .int .i64 (o k).2.2]] wo.drew fun e w' => ∃ (nx' : Int) (a6 : Option Addr) (L6 c6 : Nat), e = .returned (.tuple #[.agg #[.slice a6 L6 c6, .int .i64 nx'], .bool true]) ∧ (w'.cell? ⟨w2.heap.size, 0, none⟩ = some (.slice a5 L5 c5) ∧ w'.cell? ⟨w2.heap.size, 1, none⟩ = some (.int .i64 nx) ∧ ∀ o, w'.frozen? ⟨w2.heap.size, o, none⟩ = false) ∧ (w'.cell? ⟨b, off + k * 3, none⟩ = some (.int .i64 (o k).1) ∧ w'.cell? ⟨b, off + k * 3 + 1, none⟩ = some (.int .i64 (o k).2.1) ∧ w'.cell? ⟨b, off + k * 3 + 2, none⟩ = some (.int .i64 (o k).2.2)) ∧
          (∀ W6, W6 = (w'.setCell ⟨w2.heap.size, 0, none⟩ (.slice a6 L6 c6)).setCell ⟨w2.heap.size, 1, none⟩ (.int .i64 nx') → W6.cell? ⟨w2.heap.size, 0, none⟩ = some (.slice a6 L6 c6) ∧ (W6.cell? ⟨b, off + k * 3, none⟩ = some (.int .i64 (o k).1) ∧ W6.cell? ⟨b, off + k * 3 + 1, none⟩ = some (.int .i64 (o k).2.1) ∧ W6.cell? ⟨b, off + k * 3 + 2, none⟩ = some (.int .i64 (o k).2.2)) ∧ Hid (∃ S its, SideN w p S [itm (.slice a6 L6 c6) its, rM w2.heap.size (.slice a6 L6 c6) (.int .i64 nx')] W6 ∧ Rel S its nx' ∧ its.length = L6 ∧ its.length ≤ k + 1 ∧ 0 ≤ nx' ∧ nx' ≤ (k + 1 : Nat) * 101))) := by
        refine (play_any (o k).1 (o k).2.1 (o k).2.2 okA okB (hS.step (below_drewN (Below.refl _ _) 1)) hR (by omega) ⟨hn0, by omega⟩).mono fun e w' hh => ?_
        obtain ⟨v', nx', he, hp⟩ := hh
        obtain ⟨S', its', z1, z2, z3, z4, z5⟩ := unhide hp
        obtain ⟨a6, c6, hv6⟩ := item_shape z1.items
        obtain ⟨L6, hL6⟩ : ∃ L6, its'.length = L6 := ⟨_, rfl⟩
        rw [hL6] at hv6
        subst hv6
        obtain ⟨y0, y1, yf⟩ := z1.cellM (List.mem_cons_of_mem _ (List.mem_cons_self ..))
        refine ⟨nx', a6, L6, c6, he, ⟨y0, y1, yf⟩, ⟨(z1.below.cell (by exact hbw)).trans q0, (z1.below.cell (by exact hbw)).trans q1, (z1.below.cell (by exact hbw)).trans q2⟩, fun W6 hW => ?_⟩
        subst hW
        have z6 := ((z1.perm (List.Perm.swap _ _ _)).put2 (.slice a6 L6 c6) (.int .i64 nx')).perm (List.Perm.swap _ _ _)
        exact ⟨(z6.cellM (List.mem_cons_of_mem _ (List.mem_cons_self ..))).1, ⟨(z6.below.cell (by exact hbw)).trans q0, (z6.below.cell (by exact hbw)).trans q1, (z6.below.cell (by exact hbw)).trans q2⟩, S', its', z6, z2, hL6, by omega, z4, by omega⟩
      generalize (o k).1 = K1 at *
      generalize (o k).2.1 = K2 at *
      generalize (o k).2.2 = K3 at *
      have hkw : IntKind.i64.wrap ((k : Int) + 1) = ((k + 1 : Nat) : Int) := by rw [IntKind.wrap_i64]; omega
      clear HK hS hR hl hn0 hn1 hL5 q0 q1 q2 hbw okA okB
      go_upto_region 9 with fail
      go_cut [6] from 17 to 46 (fun s6 wq => s6 = .bool true ∧ ∃ (a6 : Option Addr) (L6 c6 : Nat), wq.cell? ⟨w2.heap.size, 0, none⟩ = some (.slice a6 L6 c6) ∧ Hid (∃ nx' S its, SideN w p S [itm (.slice a6 L6 c6) its, rM w2.heap.size (.slice a6 L6 c6) (.int .i64 nx')] wq ∧ Rel S its nx' ∧ its.length = L6 ∧ its.length ≤ k + 1 ∧ 0 ≤ nx' ∧ nx' ≤ (k + 1 : Nat) * 101))
      case first =>
        refine wp_region_held_drew (S := fun w' => w'.cell? ⟨b, off + k * 3, none⟩ = some (.int .i64 K1) ∧ w'.cell? ⟨b, off + k * 3 + 1, none⟩ = some (.int .i64 K2) ∧ w'.cell? ⟨b, off + k * 3 + 2, none⟩ = some (.int .i64 K3)) (by kernel_rfl) ⟨g0, g1, g2⟩ (fun hHeld => ?_)
        refine takeD (i := 0) (v := ?xv0) (some 28) rfl rfl (by kernel_rfl) (by kernel_rfl) (by kernel_rfl) (fun _ _ _ h => h) (Or.inl ⟨by rfl, ?xh0⟩) (by assumption) ?xr0
        case xh0 => (intro u hSu; (try dsimp only at hSu); go_simp; first | done | with_reducible rfl)
        (try simp only [Act.put, List.setIfInBounds_toArray, List.set_cons_zero, List.set_cons_succ])
        refine takeD (i := 2) (v := ?xv2) (some 30) rfl rfl (by kernel_rfl) (by kernel_rfl) (by kernel_rfl) (fun _ _ _ h => h) (Or.inl ⟨by rfl, ?xh2⟩) (by assumption) ?xr2
        case xh2 => (intro u hSu; (try dsimp only at hSu); go_simp; first | done | with_reducible rfl)
        (try simp only [Act.put, List.setIfInBounds_toArray, List.set_cons_zero, List.set_cons_succ])
        refine takeD (i := 3) (v := ?xv3) (some 31) rfl rfl (by kernel_rfl) (by kernel_rfl) (by kernel_rfl) (fun _ _ _ h => h) (Or.inl ⟨by rfl, ?xh3⟩) (by assumption) ?xr3
        case xh3 => (intro u hSu; (try dsimp only at hSu); go_simp; first | done | with_reducible rfl)
        (try simp only [Act.put, List.setIfInBounds_toArray, List.set_cons_zero, List.set_cons_succ])
        refine takeD (i := 4) (v := ?xv4) (some 32) rfl rfl (by kernel_rfl) (by kernel_rfl) (by kernel_rfl) (fun _ _ _ h => h) (Or.inl ⟨by rfl, ?xh4⟩) (by assumption) ?xr4
        case xh4 => (intro u hSu; (try dsimp only at hSu); go_simp; first | done | with_reducible rfl)
        (try simp only [Act.put, List.setIfInBounds_toArray, List.set_cons_zero, List.set_cons_succ])
        refine takeD (i := 5) (v := ?xv5) (some 33) rfl rfl (by kernel_rfl) (by kernel_rfl) (by kernel_rfl) (fun _ _ _ h => h) (Or.inl ⟨by rfl, ?xh5⟩) (by assumption) ?xr5
        case xh5 => (intro u hSu; (try dsimp only at hSu); go_simp; first | done | with_reducible rfl)
        (try simp only [Act.put, List.setIfInBounds_toArray, List.set_cons_zero, List.set_cons_succ])
        refine wpAnyH_ready (rs := [1]) (by kernel_rfl) (by simp) ?_
        refine AllReadyH.cons rfl (fun K hK => ?_) AllReadyH.nil
        go_simp
        refine hK.out _ _ ⟨g0, g1, g2⟩ (fun hHeld => ?_)
        clear hK K
        (try simp only [Act.put, List.setIfInBounds_toArray, List.set_cons_zero, List.set_cons_succ])
        refine wpAnyH_ready (rs := [6]) (by kernel_rfl) (by simp) ?_
        refine AllReadyH.cons rfl (fun K hK => ?_) AllReadyH.nil
        go_simp
        refine (unhide CP).mono ?_
        rintro e w5 ⟨nx', a6, L6, c6, rfl, ⟨y0, y1, yf⟩, ⟨p0, p1, p2⟩, hE⟩
        (try go_wp2_with fail)
        refine hK.out _ _ ⟨p0, p1, p2⟩ (fun hHeld => ?_)
        clear hK K
        (try simp only [Act.put, List.setIfInBounds_toArray, List.set_cons_zero, List.set_cons_succ])
        have HE := hide (hE _ rfl)
        clear CP hE
        refine takeD (i := 7) (v := ?xv7) (some 27) rfl rfl (by kernel_rfl) (by kernel_rfl) (by kernel_rfl) (fun _ _ _ h => h) (Or.inl ⟨by rfl, ?xh7⟩) (by assumption) ?xr7
        case xh7 => (intro u hSu; (try dsimp only at hSu); go_simp; first | done | with_reducible rfl)
        (try simp only [Act.put, List.setIfInBounds_toArray, List.set_cons_zero, List.set_cons_succ])
        refine takeD (i := 8) (v := ?xv8) (some 35) rfl rfl (by kernel_rfl) (by kernel_rfl) (by kernel_rfl) (fun _ _ _ h => h) (Or.inl ⟨by rfl, ?xh8⟩) (by assumption) ?xr8
        case xh8 => (intro u hSu; (try dsimp only at hSu); go_simp; first | done | with_reducible rfl)
        (try simp only [Act.put, List.setIfInBounds_toArray, List.set_cons_zero, List.set_cons_succ])
        refine takeD (i := 9) (v := ?xv9) (some 36) rfl rfl (by kernel_rfl) (by kernel_rfl) (by kernel_rfl) (fun _ _ _ h => h) (Or.inl ⟨by rfl, ?xh9⟩) (by assumption) ?xr9
        case xh9 => (intro u hSu; (try dsimp only at hSu); go_simp; first | done | with_reducible rfl)
        (try simp only [Act.put, List.setIfInBounds_toArray, List.set_cons_zero, List.set_cons_succ])
        refine wpAnyH_ready (rs := [10]) (by kernel_rfl) (by simp) ?_
        refine AllReadyH.cons rfl (fun K hK => ?_) AllReadyH.nil
        go_simp
        refine hK.out _ _ (unhide HE).2.1 (fun hHeld => ?_)
        clear hK K
        (try simp only [Act.put, List.setIfInBounds_toArray, List.set_cons_zero, List.set_cons_succ])
        refine takeD (i := 11) (v := ?xv11) (some 6) rfl rfl (by kernel_rfl) (by kernel_rfl) (by kernel_rfl) (fun _ _ _ h => h) (Or.inl ⟨by rfl, ?xh11⟩) (by assumption) ?xr11
        case xh11 => (intro u hSu; (try dsimp only at hSu); go_simp; first | done | with_reducible rfl)
        (try simp only [Act.put, List.setIfInBounds_toArray, List.set_cons_zero, List.set_cons_succ])
        refine wpAnyH_done (by kernel_rfl) ?_ _
        go_wp2_with fail
        go_meet
        case rel =>
          obtain ⟨S', its', z⟩ := unhide (unhide HE).2.2
          exact ⟨rfl, a6, L6, c6, (unhide HE).1, nx', S', its', z⟩
      case rest =>
        obtain ⟨rfl, a6, L6, c6, y0, HZ⟩ := hcut
        rename World => wq
        have CL : Hid (∀ q, Calls Try.prog 10 #[.pointer (some ⟨p, 0, none⟩)] (wq.drewN q) fun e w' => e = .returned (.int .i64 L6) ∧ w' = wq.drewN q) := fun q => by
          obtain ⟨nx', S', its', z1, z2, z3, -⟩ := unhide HZ
          have := lenLN (z1.step (below_drewN (Below.refl _ wq) q)).live
          rw [← z2.len, z3] at this
          exact this
        have HE : Hid (∀ q, ∃ (v : Value) (nx : Int), ∃ S its, SideN w p S [itm v its, rM w2.heap.size v (.int .i64 nx)] (wq.drewN q) ∧ Rel S its nx ∧ its.length ≤ k + 1 ∧ 0 ≤ nx ∧ nx ≤ (k + 1 : Nat) * 101) := fun q => by
          obtain ⟨nx', S', its', z1, z2, z3, z4, z5, z6⟩ := unhide HZ
          exact ⟨_, nx', S', its', z1.step (below_drewN (Below.refl _ wq) q), z2, z4, z5, z6⟩
        clear CP HZ d0 d1 df g0 g1 g2
        go_upto_region 10 with fail
        go_quiet ((exact (unhide CL _).mono (fun _ _ h => ⟨h.1, _, h.2⟩)))
        go_wp2_with fail
        go_roundw
        case rel => exact ⟨k + 1, by omega, by first | rfl | go_num, unhide HE _⟩
        case measure => simp [intOf]; omega
    · have hend : ¬ (k : Int) < (len : Int) ∨ ¬ (k : Int) < 100 := by have := unhide hN; omega
      go_upto_region 6 with fail
      go_cut [24] from 17 to 46 (fun s24 wq => s24 = .bool false ∧ wq = wo)
      case first =>
        rcases Nat.lt_or_ge k len with h | h
        · have h1 : (k : Int) < (len : Int) := by omega
          have h2 : ¬ (k : Int) < 100 := by omega
          clear hend
          go_wp2_with fail
          go_meet
          case rel => exact ⟨rfl, rfl⟩
        · have h1 : ¬ (k : Int) < (len : Int) := by omega
          clear hend
          go_wp2_with fail
          go_meet
          case rel => exact ⟨rfl, rfl⟩
      case rest =>
        obtain ⟨rfl, rfl⟩ := hcut
        rename World => wo
        obtain ⟨hl1, hl2⟩ : its.length ≤ 100 ∧ L5 ≤ 100 := ⟨by omega, by omega⟩
        have HHL : Hid ((headsR its its.length).length ≤ 1000000) := by have := headsR_le its its.length; show _ ≤ _; omega
        have CH := hide (headsTell (w0 := w) (p := p) hR (by omega))
        have CRH := hide (headsRef (w0 := w) (p := p) (v := (.slice a5 L5 c5)) hR (by omega))
        have CSM := hide (sameTell (w0 := w) (p := p) (S := S))
        have HS := hide hS
        have HR := hide hR
        have HF := hide hS.fam
        have HL := hide hL5
        clear HK hend hS hR hl hn0 hn1 hL5 hlt df d1 hl1
        go_wp2_with fail
        go_loopw [50] (fun s50 wr => ∃ j : Nat, j ≤ L5 ∧ s50 = .int .i64 j ∧ Hid (SideN w p S [itm (.slice a5 L5 c5) its, rM w2.heap.size (.slice a5 L5 c5) (.int .i64 nx)] wr)) (fun s50 _ => L5 - (intOf s50).toNat)
        case atStart => exact ⟨0, Nat.zero_le _, rfl, unhide HS⟩
        case round =>
          obtain ⟨j, hj, rfl, HJ⟩ := hrel
          rename World => wx
          clear HS d0
          by_cases hjl : j < L5
          · have hjz : (j : Int) < (L5 : Int) := by omega
            have hji : j < its.length := by rw [unhide HL]; exact hjl
            obtain ⟨g, c, hg⟩ := item_block (unhide HJ).items (by omega)
            have hg2 : a5 = some ⟨g, 0, none⟩ := by simp at hg; exact hg.1
            subst hg2
            have hit := (unhide HJ).items
            rw [unhide HL] at hit
            obtain ⟨q1, q2⟩ := owns_cells hit j hjl
            have okK : okN (lo its j) := by
              obtain ⟨z, hz, hkz⟩ := ((unhide HR).keys _).2 ⟨j, hji, rfl⟩
              exact (unhide HF).keys z hz _ hkz
            obtain ⟨K, hK, CMB0, CRM0⟩ := membersTell (w0 := w) (p := p) (v := .slice (some ⟨g, 0, none⟩) L5 c5) (its := its) (lo its j) okK (unhide HF) (unhide HR) (by rw [unhide HL]; omega)
            have CMB := hide CMB0
            have CRM := hide CRM0
            have HKL : Hid (K.length ≤ 1000000) := by show _ ≤ _; omega
            have HB := hide (SideN.boxX (unhide HJ) (.int .i64 (lo its j)) (.int .i64 (hi its j)))
            obtain ⟨kx, ekx⟩ : ∃ kx, lo its j = kx := ⟨_, rfl⟩
            rw [ekx] at q1 CMB CRM HB
            generalize hi its j = mx at *
            clear hg hit okK CMB0 CRM0 hK ekx HJ hji
            go_upto_region 15 with fail
            generalize (wx.alloc (.cells #[.int .i64 kx, .int .i64 mx] 35)) = wy at *
            have HX0 : Hid (SideN w p S (rX wx.heap.size (.int .i64 kx) (.int .i64 mx) :: [itm (.slice (some ⟨g, 0, none⟩) L5 c5) its, rM w2.heap.size (.slice (some ⟨g, 0, none⟩) L5 c5) (.int .i64 nx)]) wy.drew) := (unhide HB).step (below_drewN (Below.refl _ _) 1)
            clear HB q1 q2 CH CRH
            refine wp_region_held_drew (S := fun w' => w'.cell? ⟨w2.heap.size, 0, none⟩ = some (.slice (some ⟨g, 0, none⟩) L5 c5) ∧ w'.cell? ⟨w2.heap.size, 1, none⟩ = some (.int .i64 nx) ∧ w'.cell? ⟨wx.heap.size, 0, none⟩ = some (.int .i64 kx)) (by kernel_rfl) ⟨((unhide HX0).cellM (List.mem_cons_of_mem _ (List.mem_cons_of_mem _ (List.mem_cons_self ..)))).1, ((unhide HX0).cellM (List.mem_cons_of_mem _ (List.mem_cons_of_mem _ (List.mem_cons_self ..)))).2.1, ((unhide HX0).cellX (List.mem_cons_self ..))⟩ (fun hHeld => ?_)
            refine takeD (i := 0) (v := ?av0) (some 54) rfl rfl (by kernel_rfl) (by kernel_rfl) (by kernel_rfl) (fun _ _ _ h => h) (Or.inl ⟨by rfl, ?ah0⟩) (by assumption) ?ar0
            case ah0 => (intro u hSu; (try dsimp only at hSu); go_simp; first | done | with_reducible rfl)
            (try simp only [Act.put, List.setIfInBounds_toArray, List.set_cons_zero, List.set_cons_succ])
            refine takeD (i := 1) (v := ?av1) (some 55) rfl rfl (by kernel_rfl) (by kernel_rfl) (by kernel_rfl) (fun _ _ _ h => h) (Or.inl ⟨by rfl, ?ah1⟩) (by assumption) ?ar1
            case ah1 => (intro u hSu; (try dsimp only at hSu); go_simp; first | done | with_reducible rfl)
            (try simp only [Act.put, List.setIfInBounds_toArray, List.set_cons_zero, List.set_cons_succ])
            refine takeD (i := 2) (v := ?av2) (some 56) rfl rfl (by kernel_rfl) (by kernel_rfl) (by kernel_rfl) (fun _ _ _ h => h) (Or.inl ⟨by rfl, ?ah2⟩) (by assumption) ?ar2
            case ah2 => (intro u hSu; (try dsimp only at hSu); go_simp; first | done | with_reducible rfl)
            (try simp only [Act.put, List.setIfInBounds_toArray, List.set_cons_zero, List.set_cons_succ])
            refine takeD (i := 4) (v := ?av4) (some 58) rfl rfl (by kernel_rfl) (by kernel_rfl) (by kernel_rfl) (fun _ _ _ h => h) (Or.inl ⟨by rfl, ?ah4⟩) (by assumption) ?ar4
            case ah4 => (intro u hSu; (try dsimp only at hSu); go_simp; first | done | with_reducible rfl)
            (try simp only [Act.put, List.setIfInBounds_toArray, List.set_cons_zero, List.set_cons_succ])
            refine takeD (i := 5) (v := ?av5) (some 59) rfl rfl (by kernel_rfl) (by kernel_rfl) (by kernel_rfl) (fun _ _ _ h => h) (Or.inl ⟨by rfl, ?ah5⟩) (by assumption) ?ar5
            case ah5 => (intro u hSu; (try dsimp only at hSu); go_simp; first | done | with_reducible rfl)
            (try simp only [Act.put, List.setIfInBounds_toArray, List.set_cons_zero, List.set_cons_succ])
            refine takeD (i := 6) (v := ?av6) (some 60) rfl rfl (by kernel_rfl) (by kernel_rfl) (by kernel_rfl) (fun _ _ _ h => h) (Or.inl ⟨by rfl, ?ah6⟩) (by assumption) ?ar6
            case ah6 => (intro u hSu; (try dsimp only at hSu); go_simp; first | done | with_reducible rfl)
            (try simp only [Act.put, List.setIfInBounds_toArray, List.set_cons_zero, List.set_cons_succ])
            refine wpAnyH_ready (rs := [3]) (by kernel_rfl) (by simp) ?_
            refine AllReadyH.cons rfl (fun K hK => ?_) AllReadyH.nil
            go_simp
            refine (unhide CMB _ _ HX0).mono ?_
            rintro e w31 ⟨vm, rfl, HX1⟩
            (try go_wp2_with fail)
            refine hK.out _ _ ⟨((unhide HX1).cellM (List.mem_cons_of_mem _ (List.mem_cons_of_mem _ (List.mem_cons_of_mem _ (List.mem_cons_self ..))))).1, ((unhide HX1).cellM (List.mem_cons_of_mem _ (List.mem_cons_of_mem _ (List.mem_cons_of_mem _ (List.mem_cons_self ..))))).2.1, ((unhide HX1).cellX (List.mem_cons_of_mem _ (List.mem_cons_self ..)))⟩ (fun hHeld => ?_)
            clear hK K
            (try simp only [Act.put, List.setIfInBounds_toArray, List.set_cons_zero, List.set_cons_succ])
            refine wpAnyH_ready (rs := [7]) (by kernel_rfl) (by simp) ?_
            refine AllReadyH.cons rfl (fun K hK => ?_) AllReadyH.nil
            go_simp
            refine (unhide CRM _ _ HX1 (List.mem_cons_of_mem _ (List.mem_cons_of_mem _ (List.mem_cons_self ..)))).mono ?_
            rintro e w32 ⟨vn, rfl, HX2⟩
            (try go_wp2_with fail)
            refine hK.out _ _ ⟨((unhide HX2).cellM (List.mem_cons_of_mem _ (List.mem_cons_of_mem _ (List.mem_cons_of_mem _ (List.mem_cons_of_mem _ (List.mem_cons_self ..)))))).1, ((unhide HX2).cellM (List.mem_cons_of_mem _ (List.mem_cons_of_mem _ (List.mem_cons_of_mem _ (List.mem_cons_of_mem _ (List.mem_cons_self ..)))))).2.1, ((unhide HX2).cellX (List.mem_cons_of_mem _ (List.mem_cons_of_mem _ (List.mem_cons_self ..))))⟩ (fun hHeld => ?_)
            clear hK K
            (try simp only [Act.put, List.setIfInBounds_toArray, List.set_cons_zero, List.set_cons_succ])
            refine wpAnyH_ready (rs := [8]) (by kernel_rfl) (by simp) ?_
            refine AllReadyH.cons rfl (fun K hK => ?_) AllReadyH.nil
            go_simp
            refine (unhide CSM _ _ _ _ _ HX2 (unhide HKL) (List.mem_cons_of_mem _ (List.mem_cons_self ..)) (List.mem_cons_self ..)).mono ?_
            rintro e w33 ⟨rfl, HX3⟩
            (try go_wp2_with fail)
            refine hK.out _ _ ⟨((unhide HX3).cellM (List.mem_cons_of_mem _ (List.mem_cons_of_mem _ (List.mem_cons_of_mem _ (List.mem_cons_of_mem _ (List.mem_cons_self ..)))))).1, ((unhide HX3).cellM (List.mem_cons_of_mem _ (List.mem_cons_of_mem _ (List.mem_cons_of_mem _ (List.mem_cons_of_mem _ (List.mem_cons_self ..)))))).2.1, ((unhide HX3).cellX (List.mem_cons_of_mem _ (List.mem_cons_of_mem _ (List.mem_cons_self ..))))⟩ (fun hHeld => ?_)
            clear hK K
            (try simp only [Act.put, List.setIfInBounds_toArray, List.set_cons_zero, List.set_cons_succ])
            refine takeD (i := 9) (v := ?av9) (some 63) rfl rfl (by kernel_rfl) (by kernel_rfl) (by kernel_rfl) (fun _ _ _ h => h) (Or.inl ⟨by rfl, ?ah9⟩) (by assumption) ?ar9
            case ah9 => (intro u hSu; (try dsimp only at hSu); go_simp; first | done | with_reducible rfl)
            (try simp only [Act.put, List.setIfInBounds_toArray, List.set_cons_zero, List.set_cons_succ])
            refine wpAnyH_done (by kernel_rfl) ?_ _
            have HX4 : Hid (SideN w p S [itm (.slice (some ⟨g, 0, none⟩) L5 c5) its, rM w2.heap.size (.slice (some ⟨g, 0, none⟩) L5 c5) (.int .i64 nx)] w33) := (unhide HX3).sub (List.Sublist.cons _ (List.Sublist.cons _ (List.Sublist.cons _ (List.Sublist.refl _))))
            clear CMB CRM CSM HX0 HX1 HX2 HX3
            go_wp2_with fail
            go_roundw
            case rel => exact ⟨j + 1, by omega, by first | rfl | go_num, unhide HX4⟩
            case measure => simp [intOf]; omega
          · have hjz : ¬ (j : Int) < (L5 : Int) := by omega
            have HY0 : Hid (SideN w p S [itm (.slice a5 L5 c5) its, rM w2.heap.size (.slice a5 L5 c5) (.int .i64 nx)] wx.drew) := (unhide HJ).step (below_drewN (Below.refl _ _) 1)
            clear HJ
            go_upto_region 18 with fail
            refine wp_region_held_drew (S := fun w' => w'.cell? ⟨w2.heap.size, 0, none⟩ = some (.slice a5 L5 c5) ∧ w'.cell? ⟨w2.heap.size, 1, none⟩ = some (.int .i64 nx)) (by kernel_rfl) ⟨((unhide HY0).cellM (List.mem_cons_of_mem _ (List.mem_cons_self ..))).1, ((unhide HY0).cellM (List.mem_cons_of_mem _ (List.mem_cons_self ..))).2.1⟩ (fun hHeld => ?_)
            refine takeD (i := 0) (v := ?bv0) (some 65) rfl rfl (by kernel_rfl) (by kernel_rfl) (by kernel_rfl) (fun _ _ _ h => h) (Or.inl ⟨by rfl, ?bh0⟩) (by assumption) ?br0
            case bh0 => (intro u hSu; (try dsimp only at hSu); go_simp; first | done | with_reducible rfl)
            (try simp only [Act.put, List.setIfInBounds_toArray, List.set_cons_zero, List.set_cons_succ])
            refine takeD (i := 2) (v := ?bv2) (some 67) rfl rfl (by kernel_rfl) (by kernel_rfl) (by kernel_rfl) (fun _ _ _ h => h) (Or.inl ⟨by rfl, ?bh2⟩) (by assumption) ?br2
            case bh2 => (intro u hSu; (try dsimp only at hSu); go_simp; first | done | with_reducible rfl)
            (try simp only [Act.put, List.setIfInBounds_toArray, List.set_cons_zero, List.set_cons_succ])
            refine wpAnyH_ready (rs := [1]) (by kernel_rfl) (by simp) ?_
            refine AllReadyH.cons rfl (fun K hK => ?_) AllReadyH.nil
            go_simp
            refine (unhide CH _ _ HY0).mono ?_
            rintro e w41 ⟨vh, rfl, HY1⟩
            (try go_wp2_with fail)
            refine hK.out _ _ ⟨((unhide HY1).cellM (List.mem_cons_of_mem _ (List.mem_cons_of_mem _ (List.mem_cons_self ..)))).1, ((unhide HY1).cellM (List.mem_cons_of_mem _ (List.mem_cons_of_mem _ (List.mem_cons_self ..)))).2.1⟩ (fun hHeld => ?_)
            clear hK K
            (try simp only [Act.put, List.setIfInBounds_toArray, List.set_cons_zero, List.set_cons_succ])
            refine wpAnyH_ready (rs := [3]) (by kernel_rfl) (by simp) ?_
            refine AllReadyH.cons rfl (fun K hK => ?_) AllReadyH.nil
            go_simp
            refine (unhide CRH _ _ HY1 (List.mem_cons_of_mem _ (List.mem_cons_self ..))).mono ?_
            rintro e w42 ⟨vr, rfl, HY2⟩
            (try go_wp2_with fail)
            refine hK.out _ _ ⟨((unhide HY2).cellM (List.mem_cons_of_mem _ (List.mem_cons_of_mem _ (List.mem_cons_of_mem _ (List.mem_cons_self ..))))).1, ((unhide HY2).cellM (List.mem_cons_of_mem _ (List.mem_cons_of_mem _ (List.mem_cons_of_mem _ (List.mem_cons_self ..))))).2.1⟩ (fun hHeld => ?_)
            clear hK K
            (try simp only [Act.put, List.setIfInBounds_toArray, List.set_cons_zero, List.set_cons_succ])
            refine wpAnyH_ready (rs := [4]) (by kernel_rfl) (by simp) ?_
            refine AllReadyH.cons rfl (fun K hK => ?_) AllReadyH.nil
            go_simp
            refine (unhide CSM _ _ _ _ _ HY2 (unhide HHL) (List.mem_cons_of_mem _ (List.mem_cons_self ..)) (List.mem_cons_self ..)).mono ?_
            rintro e w43 ⟨rfl, HY3⟩
            (try go_wp2_with fail)
            refine hK.out _ _ ⟨((unhide HY3).cellM (List.mem_cons_of_mem _ (List.mem_cons_of_mem _ (List.mem_cons_of_mem _ (List.mem_cons_self ..))))).1, ((unhide HY3).cellM (List.mem_cons_of_mem _ (List.mem_cons_of_mem _ (List.mem_cons_of_mem _ (List.mem_cons_self ..))))).2.1⟩ (fun hHeld => ?_)
            clear hK K
            (try simp only [Act.put, List.setIfInBounds_toArray, List.set_cons_zero, List.set_cons_succ])
            refine takeD (i := 5) (v := ?bv5) (some 2) rfl rfl (by kernel_rfl) (by kernel_rfl) (by kernel_rfl) (fun _ _ _ h => h) (Or.inl ⟨by rfl, ?bh5⟩) (by assumption) ?br5
            case bh5 => (intro u hSu; (try dsimp only at hSu); go_simp; first | done | with_reducible rfl)
            (try simp only [Act.put, List.setIfInBounds_toArray, List.set_cons_zero, List.set_cons_succ])
            refine wpAnyH_done (by kernel_rfl) ?_ _
            have HBB := hide (unhide HY3).below
            clear CH CRH CSM HY0 HY1 HY2 HY3
            go_wp2_with fail
            go_ret
            exact ⟨rfl, unhide HBB⟩
end Go.Proofs.Ytfhidghjmookhaa
