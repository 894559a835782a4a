/- The walk of bramblelaw04.SlotsOwn. -/
import Derived.Test.YtkdlhnfagghppaaOwn8
namespace Go.Proofs.Ytkdlhnfagghppaa
open Go.RowKit Go.Maps

theorem eql_func43 (f : Fn) (cb : Array Value) (w : World) : (binOp .eql 43 (.func f #[] cb) .nilFunc).run Try.prog w = .ok (.bool false) w := by
  simp only [binOp]
  simp [Op.equal, Op.maxDepth, equalIn_func w 9999 43 _ _ _ f cb Try.underlying43]

/-- What stays from the start: stop, the result, and t. -/
def G0 (s t : Nat) (stop : Int) (b5 : Nat) : Nat → Option Obj := Gp (Gp (Gp (fun _ => none) s (.cells #[.int .i64 stop] 3 (0, 0))) (s + 1) (.cells #[.bool false] 4 (0, 0))) b5 (.cells #[.pointer (some ⟨t, 0, none⟩)] 23 (0, 0))
theorem G0_at {s t b5 : Nat} {stop : Int} (h : s + 1 < b5) : G0 s t stop b5 s = some (.cells #[.int .i64 stop] 3 (0, 0)) ∧ G0 s t stop b5 (s + 1) = some (.cells #[.bool false] 4 (0, 0)) ∧ G0 s t stop b5 b5 = some (.cells #[.pointer (some ⟨t, 0, none⟩)] 23 (0, 0)) := by
  refine ⟨?_, ?_, Gp_self _ _ _⟩
  · rw [G0, Gp_other _ _ (by omega), Gp_other _ _ (by omega), Gp_self]
  · rw [G0, Gp_other _ _ (by omega), Gp_self]
theorem G0_only {s t b5 b : Nat} {stop : Int} {o : Obj} (hg : G0 s t stop b5 b = some o) : (b = s ∧ o = .cells #[.int .i64 stop] 3 (0, 0)) ∨ (b = s + 1 ∧ o = .cells #[.bool false] 4 (0, 0)) ∨ (b = b5 ∧ o = .cells #[.pointer (some ⟨t, 0, none⟩)] 23 (0, 0)) := by
  unfold G0 at hg
  by_cases e1 : b = b5
  · subst e1; rw [Gp_self] at hg; cases hg; exact .inr (.inr ⟨rfl, rfl⟩)
  · rw [Gp_other _ _ e1] at hg
    by_cases e2 : b = s + 1
    · subst e2; rw [Gp_self] at hg; cases hg; exact .inr (.inl ⟨rfl, rfl⟩)
    · rw [Gp_other _ _ e2] at hg
      by_cases e3 : b = s
      · subst e3; rw [Gp_self] at hg; cases hg; exact .inl ⟨rfl, rfl⟩
      · rw [Gp_other _ _ e3] at hg; cases hg

set_option maxHeartbeats 4000000 in
set_option maxRecDepth 100000 in
theorem slots_own_any [Inhabited EntI] (stop : Int) (a : Option Addr) (b off len cap : Nat) (o : Nat → Int × Int × Int) (w : World)
    (HC : Hid (∀ i, i < len → a = some ⟨b, off, none⟩ ∧ (w.cell? ⟨b, off + i * 3, none⟩ = some (.int .i64 (o i).1) ∧ w.cell? ⟨b, off + i * 3 + 1, none⟩ = some (.int .i64 (o i).2.1) ∧ w.cell? ⟨b, off + i * 3 + 2, none⟩ = some (.int .i64 (o i).2.2)))) :
    Calls Try.prog 6 #[.slice a len cap, .int .i64 stop] w fun e w' => e = .returned (.bool true) ∧ Below w.heap.size w w' := by
  have hb2 : Below w.heap.size w ((w.alloc (.cells #[.int .i64 stop] 3)).alloc (.cells #[.bool false] 4)) := ((Below.refl _ _).alloc (Nat.le_refl _) _).alloc (by simp) _
  have HH2 : Hid (((w.alloc (.cells #[.int .i64 stop] 3)).alloc (.cells #[.bool false] 4)).heap[w.heap.size]? = some (.cells #[.int .i64 stop] 3 (0, 0)) ∧ ((w.alloc (.cells #[.int .i64 stop] 3)).alloc (.cells #[.bool false] 4)).heap[w.heap.size + 1]? = some (.cells #[.bool false] 4 (0, 0))) :=
    ⟨heap_alloc2_old _ _ _, heap_alloc2_new _ _ _⟩
  have HB2 := hide hb2
  clear hb2
  refine (callsIn_wide (n := 5)).1 ?_
  refine callsIn_of_wp_marks Try.func6 rfl trivial ?_ rfl
  simp only [Try.ntmps6, List.size_toArray, List.length_cons, List.length_nil, Nat.reduceAdd, Nat.reduceSub, Array.replicate_succ, Array.replicate_zero, List.push_toArray, List.append_toArray, List.nil_append, List.cons_append]
  refine wpIn_wide.2 ?_
  go_upto_region 1 with fail
  generalize ((w.alloc (.cells #[.int .i64 stop] 3)).alloc (.cells #[.bool false] 4)) = W2 at *
  go_wp2_with fail
  refine (newLN 9 W2).mono ?_
  rintro e w1 ⟨t, rfl, L1⟩
  have HL1 := hide L1
  clear L1
  go_wp2_with fail
  refine (refNew 9 w1).mono ?_
  rintro e w2 ⟨rfl, hbx2⟩
  have hcl : clamp 9 = 9 := by decide
  rw [hcl] at HL1 ⊢
  have HM2 : Hid (MidO w.heap.size w t (w2.heap.size + 1) 9 0 (.slice none 0 0) (G0 w.heap.size t stop w2.heap.size) ((w2.alloc (.cells #[.pointer (some ⟨t, 0, none⟩)] 23)).alloc (.cells #[.int .i64 9, .slice none 0 0] 27))) := by
    have s1 := (Array.getElem?_eq_some_iff.1 (unhide HH2).2).1
    have s2 := (unhide HL1).below.size
    have s3 := hbx2.size
    have ba : Below w2.heap.size w2 ((w2.alloc (.cells #[.pointer (some ⟨t, 0, none⟩)] 23)).alloc (.cells #[.int .i64 9, .slice none 0 0] 27)) := ((Below.refl _ _).alloc (Nat.le_refl _) _).alloc (by simp) _
    have bW : ∀ k, k < W2.heap.size → ((w2.alloc (.cells #[.pointer (some ⟨t, 0, none⟩)] 23)).alloc (.cells #[.int .i64 9, .slice none 0 0] 27)).heap[k]? = W2.heap[k]? := fun k hk => ((ba.block k (by omega)).trans (hbx2.block k (by omega))).trans ((unhide HL1).below.block k hk)
    refine midO_first (unhide HB2) (unhide HL1) hbx2 ba (by omega) (heap_alloc2_new _ _ _) ?_ (fun k o' hg => ?_)
    · rw [G0, Gp_other _ _ (by omega), Gp_other _ _ (by omega), Gp_other _ _ (by omega)]
    · rcases G0_only hg with ⟨rfl, rfl⟩ | ⟨rfl, rfl⟩ | ⟨rfl, rfl⟩
      · exact ⟨(bW _ (by omega)).trans (unhide HH2).1, .inl (by omega)⟩
      · exact ⟨(bW _ (by omega)).trans (unhide HH2).2, .inl (by omega)⟩
      · exact ⟨heap_alloc2_old _ _ _, .inr (Nat.le_refl _)⟩
  have HLT : Hid (w.heap.size + 1 < w2.heap.size) := by
    have s1 := (Array.getElem?_eq_some_iff.1 (unhide HH2).2).1
    have s2 := (unhide HL1).below.size
    have s3 := hbx2.size
    show _ < _
    omega
  clear HL1 hbx2 hcl HH2
  go_upto_region 2 with fail
  generalize hw3 : ((w2.alloc (.cells #[.pointer (some ⟨t, 0, none⟩)] 23)).alloc (.cells #[.int .i64 9, .slice none 0 0] 27)) = w3 at *
  clear hw3
  generalize w2.heap.size = b5 at *
  go_wp2_with fail
  refine (awake_any w3).mono ?_
  rintro e w4 ⟨rfl, hb4⟩
  have HM4 := hide (midO_step (unhide HM2) hb4)
  clear HM2 hb4
  have c5 : w4.cell? ⟨b5, 0, none⟩ = some (.pointer (some ⟨t, 0, none⟩)) := (cell_of_row _ _ 0 _ 23 (0, 0) ((unhide HM4).keep _ _ (G0_at (unhide HLT)).2.2)).trans rfl
  go_wp2_with fail
  clear c5
  go_loopw [7] (fun s7 wr => ∃ (k : Nat) (v : Value), k ≤ len ∧ k ≤ 120 ∧ s7 = .int .i64 k ∧ Hid (MidO w.heap.size w t (b5 + 1) 9 k v (G0 w.heap.size t stop b5) wr)) (fun s7 _ => 120 - (intOf s7).toNat)
  case atStart => exact ⟨0, _, Nat.zero_le _, by omega, rfl, unhide HM4⟩
  case round =>
    obtain ⟨k, v, hk, hk2, rfl, hh⟩ := hrel
    obtain ⟨m0, m1, hB, a3, n3, c3, rfl⟩ := midO_cells (unhide hh)
    have c5 : wr.cell? ⟨b5, 0, none⟩ = some (.pointer (some ⟨t, 0, none⟩)) := (cell_of_row _ _ 0 _ 23 (0, 0) ((unhide hh).keep _ _ (G0_at (unhide HLT)).2.2)).trans rfl
    by_cases hlt : k < len ∧ k < 120
    · obtain ⟨h1, h2⟩ := hlt
      have h1z : (k : Int) < (len : Int) := by omega
      have h2z : (k : Int) < 120 := by omega
      obtain ⟨ea, e1, e2, e3⟩ := unhide HC k h1
      subst ea
      have hbw : b < w.heap.size := World.block_lt_of_cell? _ _ e1
      have d1 := (hB.cell (p := ⟨b, off + k * 3, none⟩) (by exact hbw)).trans e1
      have d2 := (hB.cell (p := ⟨b, off + k * 3 + 1, none⟩) (by exact hbw)).trans e2
      have d3 := (hB.cell (p := ⟨b, off + k * 3 + 2, none⟩) (by exact hbw)).trans e3
      have CS : Hid (∀ z, Calls Try.prog 10 #[.pointer (some ⟨t, 0, none⟩), .agg #[.int .i64 9, .slice a3 n3 c3], .agg #[.int .i64 (o k).1, .int .i64 (o k).2.1, .int .i64 (o k).2.2]] (wr.drewN z) fun e w' => ∃ a c n3', e = .returned (.tuple #[.agg #[.int .i64 9, .slice a n3' c], .bool true]) ∧ (w'.cell? ⟨b5 + 1, 0, none⟩ = some (.int .i64 9) ∧ w'.cell? ⟨b5 + 1, 1, none⟩ = some (.slice a3 n3 c3) ∧ ∀ o, w'.frozen? ⟨b5 + 1, o, none⟩ = false) ∧
          Hid (MidO w.heap.size w t (b5 + 1) 9 (k + 1) (.slice a n3' c) (G0 w.heap.size t stop b5) ((w'.setCell ⟨b5 + 1, 0, none⟩ (.int .i64 9)).setCell ⟨b5 + 1, 1, none⟩ (.slice a n3' c)))) := fun z => midO_play (midO_draw (unhide hh) z) hk2 _ _ _
      generalize (o k).1 = q0 at *
      generalize (o k).2.1 = q1 at *
      generalize (o k).2.2 = q2 at *
      clear e1 e2 e3 hbw hB hh
      go_upto_region 7 with fail
      refine wp_region_noPanic ?_
      go_region_with ((go_at_call 10; refine (unhide CS _).mono ?_; rintro e w5 ⟨a5, c5', n5, rfl, ⟨m0, m1, mf⟩, hE⟩))
      all_goals
        refine NoPanic.normal ?_
        have HMM5 := hide (unhide hE)
        clear CS hE d1 d2 d3
        go_upto_region 6 with fail
        generalize ((w5.setCell ⟨b5 + 1, 0, none⟩ (.int .i64 9)).setCell ⟨b5 + 1, 1, none⟩ (.slice a5 n5 c5')) = w6 at *
        go_wp2_with fail
        go_roundw
        case rel => exact ⟨k + 1, _, by omega, by omega, by go_num, unhide HMM5⟩
        case measure => simp [intOf]; omega
    · rcases (by omega : k = len ∨ (k < len ∧ k = 120)) with rfl | ⟨h1, rfl⟩
      all_goals
        clear hlt
        obtain ⟨ps, n, its, g1, g2, g3, g4, g5⟩ := (unhide hh).out
        have HD := hide g5
        have HI : Hid (wr.ownsRow 0 47 2 (.slice a3 n3 c3) its.length (enc .i64 its) ∧ Rel ps its ∧ its.length ≤ 1000000 ∧ ps.length ≤ 65536) := ⟨g4, g1, by omega, by have := g5.live.fits; omega⟩
        have HC5 : Hid (Cs8 b5 (b5 + 1) t 9 (.slice a3 n3 c3) wr) := ⟨c5, m0, m1⟩
        have HN := hide g2
        clear g1 g2 g3 g4 g5 hB m0 m1 c5
        go_upto_region 8 with fail
        refine own8 _ _ _ _ _ _ _ _ _ _ _ _ _ _ _ _ _ _ _ _ _ _ _ _ _ _ _ _ _ _ _ _ _ _ _ _ _ _ _ _ _ _ _ _ _ _ _ _ _ _ _ _ _ _ _ _ _ _ _ _ _ _ _ _ _ _ _ _ _ _ _ _ _ _ _ _ _ _ _ _ _ _ _ _ _ _ _ _ _ _ _ _ _ _ _ _ _ _ _ _ _ _ _ _ _ _ _ _ _ _ _ _ _ _ _ _ _ _ _ _ _ _ _ _ _ HD HI HC5 ?_
        rintro s45 s46 s47 s48 bx b9 cw pv aw wq hF
        have HF := hide hF
        clear hF
        dsimp only
        have qnil : ∀ u : World, (binOp .eql 43 (.func (.func 45) #[] #[.pointer (some ⟨bx, 0, none⟩)]) .nilFunc).run Try.prog u = .ok (.bool false) u := eql_func43 _ _
        go_upto_region 9 with fail
        iterate 15 go_step
        have HGe : Hid (∃ G, GearO w.heap.size t w.heap.size (w.heap.size + 1) b5 b9 wq.heap.size bx stop 0 aw (ris ps ps.length).length cw pv ps G ∧ StO (wq.alloc (.cells #[.int .i64 0] 3)).heap.size w.heap.size w t 9 8000000 G (wq.alloc (.cells #[.int .i64 0] 3))) := by
          obtain ⟨f1, ⟨f2, f3⟩, ⟨f4, f5, f6⟩, f7⟩ := unhide HF
          have ba : Below wq.heap.size wq (wq.alloc (.cells #[.int .i64 0] 3)) := (Below.refl _ _).alloc (Nat.le_refl _) _
          obtain ⟨q1, q2, q3⟩ := G0_at (t := t) (stop := stop) (unhide HLT)
          exact gear_first (unhide HD) (unhide HN) (by omega) (f1.trans (ba.mono f1.size)) (unhide hh).keep q1 q2 q3 ((ba.block b9 (Array.getElem?_eq_some_iff.1 f2).1).trans f2) f3 (heap_alloc_new _ _) f1.size rfl (row_base f7 (Nat.le_refl _) (fun k hk => ba.block k (f7.lt k hk).2)) ((cell_of_heap (x := ⟨bx, 0, none⟩) (ba.block bx (World.block_lt_of_cell? _ _ f4))).trans f4) f5 (row_base f6 (Nat.le_refl _) (fun k hk => ba.block k (f6.lt k hk).2)) (by omega)
        clear HD HI HC5 HN HF hh qnil
        refine ownTurns _ _ _ _ _ _ _ _ _ _ _ _ _ _ _ _ _ _ _ _ _ _ _ _ _ _ _ _ _ _ _ _ _ _ _ _ _ _ _ _ _ _ _ _ _ _ _ _ _ _ _ _ _ _ _ _ _ _ _ _ _ _ _ _ _ _ _ _ _ _ _ _ _ _ _ _ _ _ _ _ _ _ _ _ _ _ _ _ _ _ _ _ _ _ _ _ _ _ _ _ _ _ _ _ _ _ _ _ _ _ _ _ _ _ _ _ _ _ _ _ _ _ _ _ _ _ _ _ HGe ?_
        rintro y10 y11 y12 y13 y51 y52 y53 y54 y55 y56 y57 y58 y59 y60 y61 y62 y63 y64 y65 y66 y67 y68 y69 y70 y71 y72 y73 y74 y75 y76 y77 y78 y79 y80 y81 y82 y83 y84 y85 y86 y87 y88 y89 y90 y91 y92 y93 y94 y95 y96 y97 y98 y99 y100 y101 y102 y103 y104 y105 y106 y107 y108 y109 y110 y111 D1 D2 wz ⟨hDD, hr, -, hbz, hsz⟩
        have HR := hide hr
        have HDD := hide hDD
        have HBZ := hide hbz
        have HSZ := hide hsz
        clear hDD hr hbz hsz HGe
        dsimp only
        iterate 2 go_step
        refine ownEnd _ _ _ _ _ _ _ _ _ _ _ _ _ _ _ _ _ _ _ _ _ _ _ _ _ _ _ _ _ _ _ _ _ _ _ _ _ _ _ _ _ _ _ _ _ _ _ _ _ _ _ _ _ _ _ _ _ _ _ _ _ _ _ _ _ _ _ _ _ _ _ _ _ _ _ _ _ _ _ _ _ _ _ _ _ _ _ _ _ _ _ _ _ _ _ _ _ _ _ _ _ _ _ _ _ _ _ _ _ _ _ _ _ _ _ _ _ _ _ _ _ _ _ _ _ _ _ _ _ _ _ _ HR ?_
        rintro z14 z15 z16 z112 z113 z114 z115 z116 z117 z118 z119 z120 z121 z122 z123 z124 z125 z126 z127 z128 z129 z130 z131 wf hbf
        have HK : Hid ((wf.setCell ⟨w.heap.size + 1, 0, none⟩ (.bool true)).heap[D1]? = some (.deferred (some [])) ∧ (wf.setCell ⟨w.heap.size + 1, 0, none⟩ (.bool true)).heap[D2]? = some (.deferred (some [])) ∧ Below w.heap.size w (wf.setCell ⟨w.heap.size + 1, 0, none⟩ (.bool true)) ∧ (wf.setCell ⟨w.heap.size + 1, 0, none⟩ (.bool true)).cell? ⟨w.heap.size + 1, 0, none⟩ = some (.bool true)) := by
          obtain ⟨⟨d1, d2⟩, ⟨d3, d4⟩, d5⟩ := unhide HDD
          have hr := unhide HR
          have lt : ∀ {k : Nat} {o : Obj}, wz.heap[k]? = some o → k < wz.heap.size := fun e => (Array.getElem?_eq_some_iff.1 e).1
          have hne : ∀ k, wz.heap[k]? = some (.deferred (some [])) → k ≠ w.heap.size + 1 := fun k hk e => by
            rw [e, hr] at hk
            cases hk
          have hr2 := (hbf.block _ (lt hr)).trans hr
          exact ⟨(heap_setCell_other _ _ _ _ (hne _ d1)).trans ((hbf.block _ (lt d1)).trans d1), (heap_setCell_other _ _ _ _ (hne _ d3)).trans ((hbf.block _ (lt d3)).trans d3), ((unhide HBZ).trans (hbf.mono (unhide HSZ))).setCell (p := ⟨w.heap.size + 1, 0, none⟩) (by show w.heap.size ≤ w.heap.size + 1; omega) _, World.cell?_setCell_same _ _ _ ((cell_of_row _ _ 0 _ 4 (0, 0) hr2).trans rfl)⟩
        generalize (wf.setCell ⟨w.heap.size + 1, 0, none⟩ (.bool true)) = wy at *
        clear hbf
        dsimp only
        go_wp2_with fail
        obtain ⟨k1, k2, k3, k4⟩ := unhide HK
        obtain ⟨⟨-, d2⟩, ⟨-, d4⟩, d5⟩ := unhide HDD
        have k1' : (wy.putObj D2 (.deferred none)).heap[D1]? = some (.deferred (some [])) := (World.putObj_heap_other d5).trans k1
        refine ⟨by simp, .inl ⟨_, _, rfl, run_takeDeferred k2, ⟨by simp, .inl ⟨_, _, rfl, run_takeDeferred k1', ?_⟩⟩⟩⟩
        have h5 := cell_kept k4 (grownBy_putObj' _ D2 (.deferred none)) (fun r e => by cases e; exact ⟨_, k2, rfl⟩)
        have h6 := cell_kept h5 (grownBy_putObj' _ D1 (.deferred none)) (fun r e => by cases e; exact ⟨_, k1', rfl⟩)
        refine ⟨.bool true, ?_, rfl, (k3.trans (belowK_b (w := w) (Nat.le_refl _) _ D2 _ _ d4 k2 rfl rfl)).trans (belowK_b (w := w) (Nat.le_refl _) _ D1 _ _ d2 k1' rfl rfl)⟩
        simp [results, Try.f6, go_sem, h6]
end Go.Proofs.Ytkdlhnfagghppaa
