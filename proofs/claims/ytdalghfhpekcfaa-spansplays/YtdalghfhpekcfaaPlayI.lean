/- The walk of plays. -/
import Derived.Test.YtdalghfhpekcfaaSwitchI
import Derived.Test.YtdalghfhpekcfaaTailpI
import Derived.BigQuiet
namespace Go.Proofs.Ytdalghfhpekcfaa
open Go.RowKit Go.Shelf

theorem convI {z : Int} (h : (Lit.int .i64 z).wf = true) : (-9223372036854775808) ≤ z ∧ z ≤ 9223372036854775807 := by
  simp only [Lit.wf, Bool.and_eq_true, decide_eq_true_eq] at h
  have h1 : IntKind.min .i64 = -9223372036854775808 := by decide
  have h2 : IntKind.max .i64 = 9223372036854775807 := by decide
  omega
theorem below_drew {B : Nat} {a w : World} (h : Below B a w) : Below B a w.drew := ⟨h.os, h.tape, h.output, h.size, h.block⟩

theorem two_new (w : World) (x y : Obj) : ((w.alloc x).alloc y).drew.heap[w.heap.size]? = some x ∧ ((w.alloc x).alloc y).drew.heap[w.heap.size + 1]? = some y := by
  refine ⟨(heap_alloc_old (w.alloc x) y (by simp)).trans (heap_alloc_new w x), ?_⟩
  have := heap_alloc_new (w.alloc x) y
  rwa [show (w.alloc x).heap.size = w.heap.size + 1 from Array.size_push ..] at this

/-- A call's cells. -/
abbrev IsOp (w : World) (ab : Option Addr) (i : Nat) (o : Int × Bool × Int × Int) : Prop := ∃ blk off, ab = some ⟨blk, off, none⟩ ∧ blk < w.heap.size ∧ w.cell? ⟨blk, off + i * 4, none⟩ = some (.int .i64 o.1) ∧ w.cell? ⟨blk, off + i * 4 + 1, none⟩ = some (.bool o.2.1) ∧ w.cell? ⟨blk, off + i * 4 + 2, none⟩ = some (.int .i64 o.2.2.1) ∧ w.cell? ⟨blk, off + i * 4 + 3, none⟩ = some (.int .i64 o.2.2.2) ∧ (Lit.int .i64 o.2.2.1).wf = true ∧ (Lit.int .i64 o.2.2.2).wf = true

set_option maxHeartbeats 8000000 in
set_option maxRecDepth 100000 in
theorem playsI (ab : Option Addr) (len cap : Nat) (o : Nat → Int × Bool × Int × Int) (most : Int) (hmx : most = 9223372036854775807) (w : World) (HB : Hid (∀ i, i < len → IsOp w ab i (o i))) :
    Calls Try.prog 10 #[.slice ab len cap, .int .i64 most] w fun e w' => e = .returned (.bool true) ∧ Below w.heap.size w w' := by
  have HS : Hid (∃ (p : Nat → Nat) (rs : Nat → List (Int × Int)) (v : Nat → Value) (ds : Nat → List Deed) (G : Nat → Option Obj), MemI w (w.heap.size + 1 + 1) (w.heap.size + 1 + 1 + 1) most p rs v ds G ((((w.alloc (.cells #[.slice none 0 0] 91)).alloc (.cells #[.slice none 0 0] 91)).alloc (.cells #[.pointer (some ⟨w.heap.size, 0, none⟩), .pointer (some ⟨w.heap.size + 1, 0, none⟩)] 52)).alloc (.cells #[.slice none 0 0, .int .i64 most, .slice none 0 0, .int .i64 most] 62)) ∧ Fair most 0 rs ds) := ⟨_, _, _, _, _, mem_startI most w, fair_start most⟩
  have HMX := hide hmx
  clear hmx
  go_enter Try.func10, Try.ntmps10
  go_wp2_with fail
  refine (newI w).mono ?_
  rintro e w1 ⟨rfl, rfl⟩
  go_wp2_with fail
  refine (newI _).mono ?_
  rintro e w1 ⟨rfl, rfl⟩
  go_upto_region 3 with fail
  generalize ((((w.alloc (.cells #[.slice none 0 0] 91)).alloc (.cells #[.slice none 0 0] 91)).alloc (.cells #[.pointer (some ⟨w.heap.size, 0, none⟩), .pointer (some ⟨w.heap.size + 1, 0, none⟩)] 52)).alloc (.cells #[.slice none 0 0, .int .i64 most, .slice none 0 0, .int .i64 most] 62)) = W0 at *
  obtain ⟨g6, h6⟩ : ∃ g6, g6 = w.heap.size + 1 + 1 + 1 := ⟨_, rfl⟩
  rw [← h6] at HS ⊢
  clear h6
  obtain ⟨g5, h5⟩ : ∃ g5, g5 = w.heap.size + 1 + 1 := ⟨_, rfl⟩
  rw [← h5] at HS ⊢
  clear h5
  go_wp2_with fail
  go_loopw [7] (fun s7 wr => ∃ (i : Nat) (p : Nat → Nat) (rs : Nat → List (Int × Int)) (v : Nat → Value) (ds : Nat → List Deed) (G : Nat → Option Obj), i ≤ len ∧ i ≤ 40 ∧ s7 = .int .i64 i ∧ Hid (MemI w g5 g6 most p rs v ds G wr ∧ Fair most i rs ds)) (fun s7 _ => 40 - (intOf s7).toNat)
  case atStart =>
    obtain ⟨p, rs, v, ds, G, h⟩ := unhide HS
    exact ⟨0, p, rs, v, ds, G, Nat.zero_le _, by omega, rfl, h⟩
  case round =>
    obtain ⟨i, p, rs, v, ds, G, hil, hi40, rfl, HM⟩ := hrel
    by_cases hlt : i < len ∧ i < 40
    · obtain ⟨h1, h2⟩ := hlt
      have h1z : (i : Int) < (len : Int) := by omega
      have h2z : (i : Int) < 40 := by omega
      obtain ⟨blk, off, rfl, hblk, c0, c1, c2, c3, c4, c5⟩ := unhide HB i h1
      have HWF : Hid ((Lit.int .i64 (o i).2.2.1).wf = true ∧ (Lit.int .i64 (o i).2.2.2).wf = true) := ⟨c4, c5⟩
      have e0 : wr.cell? ⟨blk, off + i * 4, none⟩ = _ := ((unhide HM).1.below.cell (by exact hblk)).trans c0
      have e1 : wr.cell? ⟨blk, off + i * 4 + 1, none⟩ = _ := ((unhide HM).1.below.cell (by exact hblk)).trans c1
      have e2 : wr.cell? ⟨blk, off + i * 4 + 2, none⟩ = _ := ((unhide HM).1.below.cell (by exact hblk)).trans c2
      have e3 : wr.cell? ⟨blk, off + i * 4 + 3, none⟩ = _ := ((unhide HM).1.below.cell (by exact hblk)).trans c3
      clear c0 c1 c2 c3 c4 c5 hblk
      generalize o i = oi at *
      obtain ⟨kd, sc, la, ha⟩ := oi
      dsimp only at e0 e1 e2 e3
      have HM1 : Hid (∃ G, MemI w g5 g6 most p rs v ds G (wr.alloc (.cells #[.int .i64 kd, .bool sc, .int .i64 la, .int .i64 ha] 49)) ∧ G wr.heap.size = some (.cells #[.int .i64 kd, .bool sc, .int .i64 la, .int .i64 ha] 49 (0, 0))) := by
        obtain ⟨k1, k2⟩ := (unhide HM).1.snap ((Below.refl _ _).alloc (Nat.le_refl _) (.cells #[.int .i64 kd, .bool sc, .int .i64 la, .int .i64 ha] 49))
        exact ⟨_, k1, snapG_new (Nat.le_refl _) (heap_alloc_new _ _)⟩
      have HFr := hide (unhide HM).2
      clear HM
      go_upto_region 7 with fail
      clear e0 e1 e2 e3
      obtain ⟨ob, hob⟩ : ∃ ob, ob = wr.heap.size := ⟨_, rfl⟩
      rw [← hob] at HM1 ⊢
      clear hob
      generalize (wr.alloc (.cells #[.int .i64 kd, .bool sc, .int .i64 la, .int .i64 ha] 49)) = W1 at *
      obtain ⟨G1, hM1, hG1⟩ := unhide HM1
      have q0 : W1.cell? ⟨ob, 0, none⟩ = some (.int .i64 kd) := (cell_of_row _ _ 0 _ 49 (0, 0) (hM1.keep _ _ hG1)).trans rfl
      have q1 : W1.cell? ⟨ob, 1, none⟩ = some (.bool sc) := (cell_of_row _ _ 1 _ 49 (0, 0) (hM1.keep _ _ hG1)).trans rfl
      have q2 : W1.cell? ⟨ob, 2, none⟩ = some (.int .i64 la) := (cell_of_row _ _ 2 _ 49 (0, 0) (hM1.keep _ _ hG1)).trans rfl
      have q3 : W1.cell? ⟨ob, 3, none⟩ = some (.int .i64 ha) := (cell_of_row _ _ 3 _ 49 (0, 0) (hM1.keep _ _ hG1)).trans rfl
      have HM2 := hide (And.intro hM1 hG1)
      clear HM1 hM1 hG1
      obtain ⟨k, k', hk⟩ : ∃ k k' : Nat, (sc = true ∧ k = 1 ∧ k' = 0) ∨ (sc = false ∧ k = 0 ∧ k' = 1) := by
        cases sc
        · exact ⟨0, 1, .inr ⟨rfl, rfl, rfl⟩⟩
        · exact ⟨1, 0, .inl ⟨rfl, rfl, rfl⟩⟩
      have HK := hide hk
      clear hk
      go_upto_if 49 with fail
      go_cut [9] from 34 to 49 (fun s9 wq => s9 = .int .i64 (k : Int) ∧ wq = W1)
      case first =>
        rcases unhide HK with ⟨rfl, rfl, rfl⟩ | ⟨rfl, rfl, rfl⟩
        · go_wp2_with fail
          go_meet
          case rel => exact ⟨rfl, rfl⟩
        · go_wp2_with fail
          go_meet
          case rel => exact ⟨rfl, rfl⟩
      case rest =>
        obtain ⟨rfl, hwq⟩ := hcut
        subst hwq
        have hk2 : k < 2 := by rcases unhide HK with ⟨-, h, -⟩ | ⟨-, h, -⟩ <;> omega
        have hk2' : k' < 2 := by rcases unhide HK with ⟨-, -, h⟩ | ⟨-, -, h⟩ <;> omega
        have hkw : IntKind.i64.wrap (1 - (k : Int)) = (k' : Int) := by rw [IntKind.wrap_i64]; rcases unhide HK with ⟨-, h, h'⟩ | ⟨-, h, h'⟩ <;> omega
        have HNE : Hid (k ≠ k') := by rcases unhide HK with ⟨-, h, h'⟩ | ⟨-, h, h'⟩ <;> (show k ≠ k'; omega)
        have hkz : (k : Int) < 2 := by omega
        have hkz' : (k' : Int) < 2 := by omega
        obtain ⟨r0, ⟨r1, r2⟩, r3, r4⟩ := (unhide HM2).1.cells hk2
        obtain ⟨t0, ⟨t1, t2⟩, -, -⟩ := (unhide HM2).1.cells hk2'
        obtain ⟨va, vc, hv⟩ := ((unhide HM2).1.rows k hk2).shape
        obtain ⟨va', vc', hv'⟩ := ((unhide HM2).1.rows k' hk2').shape
        rw [hv] at r1
        rw [hv'] at t1
        have HV := hide (And.intro hv hv')
        clear hv hv' HK
        generalize (ds k).length = nk at *
        generalize (ds k').length = nk' at *
        obtain ⟨ps, hps⟩ : ∃ ps, p k = ps := ⟨_, rfl⟩
        obtain ⟨pt, hpt⟩ : ∃ pt, p k' = pt := ⟨_, rfl⟩
        rw [hps] at r0
        rw [hpt] at t0
        have HP := hide (And.intro hps hpt)
        clear hps hpt
        go_upto_region 10 with fail
        go_cut [10, 11, 12, 13] from 50 to 67 (fun s10 s11 s12 s13 wq => ∃ b12 b13 : Nat, s10 = .pointer (some ⟨ps, 0, none⟩) ∧ s11 = .pointer (some ⟨pt, 0, none⟩) ∧ s12 = .pointer (some ⟨b12, 0, none⟩) ∧ s13 = .pointer (some ⟨b13, 0, none⟩) ∧ Hid (Below wc.heap.size wc wq ∧ wq.heap[b12]? = some (.cells #[.slice va nk vc, .int .i64 most] 62 (0, 0)) ∧ wq.heap[b13]? = some (.cells #[.slice va' nk' vc', .int .i64 most] 62 (0, 0)) ∧ wc.heap.size ≤ b12 ∧ wc.heap.size ≤ b13))
        case first =>
          go_region_held3 (fun u => u.cell? ⟨g5, k, none⟩ = some (.pointer (some ⟨ps, 0, none⟩)) ∧ u.cell? ⟨g5, k', none⟩ = some (.pointer (some ⟨pt, 0, none⟩)) ∧ u.cell? ⟨g6, k * 2, none⟩ = some (.slice va nk vc) ∧ u.cell? ⟨g6, k * 2 + 1, none⟩ = some (.int .i64 most) ∧ u.cell? ⟨g6, k' * 2, none⟩ = some (.slice va' nk' vc') ∧ u.cell? ⟨g6, k' * 2 + 1, none⟩ = some (.int .i64 most)) (first | exact ⟨r0, t0, r1, r2, t1, t2⟩ | (go_keep; done)) (fail)
          all_goals
            go_wp2_with fail
            go_meet
            case rel =>
              refine ⟨_, _, rfl, rfl, rfl, rfl, below_drew (((Below.refl _ _).alloc (Nat.le_refl _) _).alloc (by simp) _), ?_, ?_, by simp, by simp⟩
              all_goals first
                | exact (two_new wc _ _).1
                | exact (two_new wc _ _).2
        case rest =>
          obtain ⟨b12, b13, rfl, rfl, rfl, rfl, HW⟩ := hcut
          have HM3 : Hid (∃ G, MemI w g5 g6 most p rs v ds G wc ∧ G ob = some (.cells #[.int .i64 kd, .bool sc, .int .i64 la, .int .i64 ha] 49 (0, 0)) ∧ G b12 = some (.cells #[.slice va nk vc, .int .i64 most] 62 (0, 0)) ∧ G b13 = some (.cells #[.slice va' nk' vc', .int .i64 most] 62 (0, 0))) := by
            obtain ⟨x1, x2, x3, x4, x5⟩ := unhide HW
            obtain ⟨y1, y2⟩ := (unhide HM2).1.snap x1
            exact ⟨_, y1, y2 _ _ (unhide HM2).2, snapG_new x4 x2, snapG_new x5 x3⟩
          clear HW HM2 q0 q1 q2 q3 r0 r1 r2 r3 r4 t0 t1 t2
          obtain ⟨G3, hM3, gob, g12, g13⟩ := unhide HM3
          have q0 : wc.cell? ⟨ob, 0, none⟩ = some (.int .i64 kd) := (cell_of_row _ _ 0 _ 49 (0, 0) (hM3.keep _ _ gob)).trans rfl
          have q2 : wc.cell? ⟨ob, 2, none⟩ = some (.int .i64 la) := (cell_of_row _ _ 2 _ 49 (0, 0) (hM3.keep _ _ gob)).trans rfl
          have q3 : wc.cell? ⟨ob, 3, none⟩ = some (.int .i64 ha) := (cell_of_row _ _ 3 _ 49 (0, 0) (hM3.keep _ _ gob)).trans rfl
          have HG := hide (And.intro hM3 (And.intro gob (And.intro g12 g13)))
          clear HM3 hM3 gob g12 g13
          obtain ⟨x, hx⟩ : ∃ x, x = la := ⟨_, rfl⟩
          obtain ⟨y, hy⟩ : ∃ y, y = ha := ⟨_, rfl⟩
          rw [← hx] at q2
          rw [← hy] at q3
          have HXY : Hid (((-9223372036854775808) ≤ x ∧ x ≤ 9223372036854775807) ∧ (-9223372036854775808) ≤ y ∧ y ≤ 9223372036854775807) := by
            rw [hx, hy]
            exact ⟨convI (unhide HWF).1, convI (unhide HWF).2⟩
          clear hx hy
          go_upto_region 13 with fail
          go_quiet (fail)
          go_upto_region 14 with fail
          clear q2 q3
          go_upto_region 15 with fail
          have HG2 : Hid (MemI w g5 g6 most p rs v ds G3 (wc.drewN nq) ∧ G3 ob = some (.cells #[.int .i64 kd, .bool sc, .int .i64 la, .int .i64 ha] 49 (0, 0)) ∧ G3 b12 = some (.cells #[.slice va nk vc, .int .i64 most] 62 (0, 0)) ∧ G3 b13 = some (.cells #[.slice va' nk' vc', .int .i64 most] 62 (0, 0))) := ⟨(unhide HG).1.step (below_drewN (Below.refl _ _) nq), (unhide HG).2⟩
          clear HG q0
          generalize wc.drewN nq = W4 at *
          have m0 : W4.cell? ⟨b12, 0, none⟩ = some (.slice va nk vc) := (cell_of_row _ _ 0 _ 62 (0, 0) ((unhide HG2).1.keep _ _ (unhide HG2).2.2.1)).trans rfl
          have m1 : W4.cell? ⟨b12, 1, none⟩ = some (.int .i64 most) := (cell_of_row _ _ 1 _ 62 (0, 0) ((unhide HG2).1.keep _ _ (unhide HG2).2.2.1)).trans rfl
          have C15 : Hid (Calls Try.prog 33 #[.agg #[.slice va nk vc, .int .i64 most]] W4 fun e w' => ∃ v', e = .returned v' ∧ Hid (NewR W4.heap.size W4 w' v' (rs k))) := by
            have hM := (unhide HG2).1
            obtain ⟨E, hE, hF⟩ := unhide HFr
            obtain ⟨f1, f2, f3, f4, f5⟩ := hF k hk2
            have := refRuns (v := v k) (ds := ds k) (ss := rs k) most W4 (hM.acts hk2) (by omega) (by rw [unhide HMX]; omega) f3 f1 f2
            rwa [(unhide HV).1] at this
          go_wp2_with fail
          refine (unhide C15).mono ?_
          rintro e W5 ⟨wv, rfl, H5⟩
          obtain ⟨wa, wcp, hwv⟩ := (unhide H5).shape
          have HQ : Hid (∃ G, MemI w g5 g6 most p rs v ds G W5 ∧ G ob = some (.cells #[.int .i64 kd, .bool sc, .int .i64 la, .int .i64 ha] 49 (0, 0)) ∧ G b12 = some (.cells #[.slice va nk vc, .int .i64 most] 62 (0, 0)) ∧ G b13 = some (.cells #[.slice va' nk' vc', .int .i64 most] 62 (0, 0)) ∧ RowG G 47 2 wv (rs k).length (enc .i64 (rs k))) := by
            obtain ⟨y1, y2⟩ := (unhide HG2).1.snap (unhide H5).below
            exact ⟨_, y1, y2 _ _ (unhide HG2).2.1, y2 _ _ (unhide HG2).2.2.1, y2 _ _ (unhide HG2).2.2.2, rowG_snap (newR_own (unhide H5))⟩
          clear C15 HG2 m0 m1 H5
          subst hwv
          generalize hrl : (rs k).length = rl at *
          have HRL := hide hrl
          clear hrl
          obtain ⟨G5, hM5, gob, g12, g13, hrow⟩ := unhide HQ
          have q0 : W5.cell? ⟨ob, 0, none⟩ = some (.int .i64 kd) := (cell_of_row _ _ 0 _ 49 (0, 0) (hM5.keep _ _ gob)).trans rfl
          have HR := hide (And.intro hM5 (And.intro gob (And.intro g12 (And.intro g13 hrow))))
          clear HQ hM5 gob g12 g13 hrow
          go_upto_region 16 with fail
          go_cut [19] from 80 to 81 (fun s19 wq => s19 = .bool true ∧ wq = W5)
          case first =>
            go_wp2_with fail
            go_meet
            case rel => exact ⟨rfl, rfl⟩
          case rest =>
            obtain ⟨rfl, hwq⟩ := hcut
            subst hwq
            go_step
            go_step
            go_cut [19, 21, 22, 23, 24, 25] from 82 to 263 (fun s19 s21 s22 s23 s24 s25 wq => s19 = .bool true ∧ Hid (AfterI w g5 g6 most k ps i wq))
            case first =>
              have HSW : Hid (SwI w g5 g6 most p rs v ds G5 wc ob b12 b13 k k' ps pt va va' wa nk vc nk' vc' rl wcp kd la ha x y sc i) := by
                obtain ⟨z1, z2, z3, z4, z5⟩ := unhide HR
                exact ⟨z1, unhide HFr, z2, z3, z4, z5, hk2, hk2', unhide HNE, hkw, (unhide HV).1, (unhide HV).2, (unhide HP).1, (unhide HP).2, unhide HXY, unhide HRL, unhide HMX, h2⟩
              refine switchI _ _ _ _ _ _ _ _ _ _ _ _ _ _ _ _ _ _ _ _ _ _ _ _ _ _ _ _ _ _ _ _ _ _ _ _ _ _ _ _ _ _ _ _ _ _ _ _ _ _ _ _ _ _ _ _ _ _ _ _ _ _ _ _ _ _ _ _ _ _ _ _ _ _ _ _ _ _ _ _ _ _ _ _ _ _ _ _ _ _ _ _ _ _ _ _ _ _ _ _ _ _ _ _ _ _ _ _ _ _ _ _ _ _ _ _ _ _ _ _ _ _ _ _ _ _ _ _ _ _ _ _ _ _ _ _ _ _ _ _ _ _ _ _ _ _ _ _ _ _ _ _ _ _ _ _ _ _ _ _ _ _ _ _ _ _ _ _ _ _ _ _ _ _ _ _ _ _ _ _ _ _ _ _ _ _ _ _ _ _ _ _ _ _ _ _ _ _ _ _ _ _ _ _ _ _ _ _ _ _ _ _ _ _ _ _ _ _ _ _ _ _ _ _ _ _ _ _ _ _ _ _ _ _ _ _ _ _ _ _ _ _ _ _ _ _ _ _ _ _ _ _ _ _ _ _ _ _ _ _ _ _ _ _ _ _ _ _ _ _ _ _ _ _ _ _ _ _ _ _ _ _ _ _ _ _ _ _ _ _ _ _ _ _ _ _ _ _ HSW ?_
              intro b21 b22 b23 b24 b25 b82 b83 b84 b85 b86 b87 b88 b89 b90 b91 b92 b93 b94 b95 b96 b97 b98 b99 b100 b101 b102 b103 b104 b105 b106 b107 b108 b109 b110 b111 b112 b113 b114 b115 b116 b117 b118 b119 b120 b121 b122 b123 b124 b125 b126 b127 b128 b129 b130 b131 b132 b133 b134 b135 b136 b137 b138 b139 b140 b141 b142 b143 b144 b145 b146 b147 b148 b149 b150 b151 b152 b153 b154 b155 b156 b157 b158 b159 b160 b161 b162 b163 b164 b165 b166 b167 b168 b169 b170 b171 b172 b173 b174 b175 b176 b177 b178 b179 b180 b181 b182 b183 b184 b185 b186 b187 b188 b189 b190 b191 b192 b193 b194 b195 b196 b197 b198 b199 b200 b201 b202 b203 b204 b205 b206 b207 b208 b209 b210 b211 b212 b213 b214 b215 b216 b217 b218 b219 b220 b221 b222 b223 b224 b225 b226 b227 b228 b229 b230 b231 b232 b233 b234 b235 b236 b237 b238 b239 b240 b241 b242 b243 b244 b245 b246 b247 b248 b249 b250 b251 b252 b253 b254 b255 b256 b257 b258 b259 b260 b261 b262 b263 wq hA
              go_wp2_with fail
              go_meet
              case rel => exact ⟨rfl, hA⟩
            case rest =>
              obtain ⟨rfl, HA⟩ := hcut
              go_step
              refine playTailI _ _ _ _ _ _ _ _ _ _ _ _ _ _ _ _ _ _ _ _ _ _ _ _ _ _ _ _ _ _ _ _ _ _ _ _ _ _ _ _ _ _ _ _ _ _ _ _ _ _ _ _ _ _ _ _ _ _ _ _ _ _ _ _ _ _ _ _ _ _ _ _ _ _ _ _ _ _ _ _ _ _ _ _ _ _ _ _ _ _ _ _ _ _ _ _ _ _ _ _ _ _ _ _ _ _ _ _ _ _ _ _ _ _ _ _ _ _ _ _ _ _ _ _ _ _ _ _ _ _ _ _ _ _ _ _ _ _ _ _ _ _ _ _ _ _ _ _ _ _ _ _ _ _ _ _ _ _ _ _ _ _ _ _ _ _ _ _ _ _ _ _ _ _ _ _ _ _ _ _ _ _ _ _ _ _ _ _ _ _ _ _ _ _ _ _ _ _ _ _ _ _ _ _ _ _ _ _ _ _ _ _ _ _ _ _ _ _ _ _ _ _ _ _ _ _ _ _ _ _ _ _ _ _ _ _ _ _ _ _ _ _ _ _ _ _ _ _ _ _ _ _ _ _ _ _ _ _ _ _ _ _ _ _ _ _ _ _ _ _ _ _ _ _ _ _ _ _ _ _ _ _ _ _ _ _ _ _ _ _ _ _ _ _ _ _ _ _ _ _ _ _ _ _ _ _ _ _ HA (show Hid (most = 9223372036854775807 ∧ i < 40) from ⟨unhide HMX, h2⟩) hk2 hk2' hkw HNE ?_
              intro b264 b265 b266 b267 b268 b269 b270 b271 b272 b273 b274 b275 b276 b277 b278 b279 b280 b281 b282 b283 b284 b285 b286 b287 b288 b289 b290 b291 b292 b293 b294 b295 b296 b297 b298 b299 b300 b301 b302 b303 b304 b305 b306 b307 b308 b309 b310 b311 wq hA
              obtain ⟨p2, rs2, v2, ds2, G6, hM6, hF6⟩ := hA
              have HM6 := hide (And.intro hM6 hF6)
              clear hM6 hF6
              go_wp2_with fail
              go_roundw
              case rel => exact ⟨i + 1, p2, rs2, v2, ds2, G6, by omega, by omega, by go_num, unhide HM6⟩
              case measure => first | (simp [intOf]; done) | (simp [intOf]; omega)
    · have HE := hide (unhide HM).1.below
      clear HM
      by_cases h1 : i < len
      · have h1z : (i : Int) < (len : Int) := by omega
        have h2z : ¬ (i : Int) < 40 := by omega
        go_wp2_with fail
        go_ret
        exact ⟨rfl, unhide HE⟩
      · have h1z : ¬ (i : Int) < (len : Int) := by omega
        go_wp2_with fail
        go_ret
        exact ⟨rfl, unhide HE⟩
end Go.Proofs.Ytdalghfhpekcfaa
