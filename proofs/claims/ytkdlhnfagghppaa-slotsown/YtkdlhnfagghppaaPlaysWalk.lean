/- The walk of bramblelaw04.SlotsPlays. -/
import Derived.Test.YtkdlhnfagghppaaPlayAll
import Derived.Test.YtkdlhnfagghppaaSame
import Derived.Test.YtkdlhnfagghppaaAwake
import Derived.Deep.RegionWith
namespace Go.Proofs.Ytkdlhnfagghppaa
open Go.RowKit Go.Maps

theorem res1 {fn : Func} {p : Tmp} (h : fn.results = #[.cell p 27]) (tmps : Array Value) (w : World) (g : Nat) (x y : Value) (hp : tmps.getD p undef = .pointer (some ⟨g, 0, none⟩)) (c0 : w.cell? ⟨g, 0, none⟩ = some x) (c1 : w.cell? ⟨g, 1, none⟩ = some y) :
    (results fn tmps).run Try.prog w = .ok (.agg #[x, y]) w := by
  have hp' : tmps[p]?.getD undef = .pointer (some ⟨g, 0, none⟩) := by simpa using hp
  simp only [results, h]
  simp [asAddr, hp', load27 w g x y c0 c1]

set_option maxHeartbeats 1000000 in
set_option maxRecDepth 100000 in
theorem refNew (m : Int) (w : World) : Calls Try.prog 8 #[.int .i64 m] w fun e w' => e = .returned (.agg #[.int .i64 (clamp m), .slice none 0 0]) ∧ Below w.heap.size w w' := by
  have key : Hid (∀ q : Int, (w.alloc (.cells #[.int .i64 q, .slice none 0 0] 27)).cell? ⟨w.heap.size, 0, none⟩ = some (.int .i64 q) ∧ (w.alloc (.cells #[.int .i64 q, .slice none 0 0] 27)).cell? ⟨w.heap.size, 1, none⟩ = some (.slice none 0 0) ∧ Below w.heap.size w (w.alloc (.cells #[.int .i64 q, .slice none 0 0] 27))) := fun q => ⟨(box2 w _ _ 27).1, (box2 w _ _ 27).2.1, (Below.refl _ _).alloc (Nat.le_refl _) _⟩
  by_cases h1 : m < 0
  · have HC : Hid (clamp m = 0) := by show _ = _; unfold clamp; omega
    · skip
      go_enter Try.func8, Try.ntmps8
      go_wp2_with fail
      (try simp only [Exit.inBlock, Exit.then])
      refine bodyPost_ret (res1 rfl _ _ w.heap.size _ _ rfl (unhide key 0).1 (unhide key 0).2.1) rfl ?_
      exact ⟨by rw [unhide HC], (unhide key _).2.2⟩
  · by_cases h2 : m < 65536
    · have HC : Hid (clamp m = m) := by show _ = _; unfold clamp; omega
      rcases Int.lt_trichotomy 0 m with h3 | h3 | h3
      · skip
        go_enter Try.func8, Try.ntmps8
        go_wp2_with fail
        (try simp only [Exit.inBlock, Exit.then])
        refine bodyPost_ret (res1 rfl _ _ w.heap.size _ _ rfl (unhide key m).1 (unhide key m).2.1) rfl ?_
        exact ⟨by rw [unhide HC], (unhide key _).2.2⟩

      · subst h3
        go_enter Try.func8, Try.ntmps8
        go_wp2_with fail
        (try simp only [Exit.inBlock, Exit.then])
        refine bodyPost_ret (res1 rfl _ _ w.heap.size _ _ rfl (unhide key 0).1 (unhide key 0).2.1) rfl ?_
        exact ⟨by rw [unhide HC], (unhide key _).2.2⟩

      · omega
    · have HC : Hid (clamp m = 65536) := by show _ = _; unfold clamp; omega
      have h0 : (0 : Int) < m := by omega
      rcases Int.lt_trichotomy 65536 m with h3 | h3 | h3
      · skip
        go_enter Try.func8, Try.ntmps8
        go_wp2_with fail
        (try simp only [Exit.inBlock, Exit.then])
        refine bodyPost_ret (res1 rfl _ _ w.heap.size _ _ rfl (unhide key 65536).1 (unhide key 65536).2.1) rfl ?_
        exact ⟨by rw [unhide HC], (unhide key _).2.2⟩

      · subst h3
        go_enter Try.func8, Try.ntmps8
        go_wp2_with fail
        (try simp only [Exit.inBlock, Exit.then])
        refine bodyPost_ret (res1 rfl _ _ w.heap.size _ _ rfl (unhide key 65536).1 (unhide key 65536).2.1) rfl ?_
        exact ⟨by rw [unhide HC], (unhide key _).2.2⟩

      · omega

/-- The state between two calls. -/
structure Mid [Inhabited EntI] (B : Nat) (w0 : World) (t M : Nat) (most : Int) (k : Nat) (v : Value) (w : World) : Prop where
  out : ∃ ps n its, Rel ps its ∧ n ≤ k * 65536 ∧ its.length ≤ k ∧ w.ownsRow 0 47 2 v its.length (enc .i64 its) ∧ Duo (fun b => b = M ∨ v.ownBlock = some b) B w0 t most ps n w ∧ w.heap[M]? = some (.cells #[.int .i64 most, v] 27 (0, 0)) ∧ B ≤ M

theorem mid_play [Inhabited EntI] {B : Nat} {w0 w : World} {t M : Nat} {most : Int} {k : Nat} {v : Value} (h : Mid B w0 t M most k v w) (hk : k ≤ 120) (kd i x : Int) :
    Calls Try.prog 10 #[.pointer (some ⟨t, 0, none⟩), .agg #[.int .i64 most, v], .agg #[.int .i64 kd, .int .i64 i, .int .i64 x]] w fun e w' => ∃ a c n3, e = .returned (.tuple #[.agg #[.int .i64 most, .slice a n3 c], .bool true]) ∧ (w'.cell? ⟨M, 0, none⟩ = some (.int .i64 most) ∧ w'.cell? ⟨M, 1, none⟩ = some v ∧ ∀ o, w'.frozen? ⟨M, o, none⟩ = false) ∧
      Hid (Mid B w0 t M most (k + 1) (.slice a n3 c) ((w'.setCell ⟨M, 0, none⟩ (.int .i64 most)).setCell ⟨M, 1, none⟩ (.slice a n3 c)) ∧ ∀ z, Calls Try.prog 11 #[.pointer (some ⟨t, 0, none⟩)] (((w'.setCell ⟨M, 0, none⟩ (.int .i64 most)).setCell ⟨M, 1, none⟩ (.slice a n3 c)).drewN z) fun e w'' => e = .returned (.int .i64 n3) ∧ ∃ q, w'' = (((w'.setCell ⟨M, 0, none⟩ (.int .i64 most)).setCell ⟨M, 1, none⟩ (.slice a n3 c)).drewN z).drewN q) := by
  obtain ⟨ps, n, its, h1, h2, h3, h4, h5, h6, h7⟩ := h.out
  refine (play_any kd i x h5 (fun b hb => .inr hb) h4 h1 (by omega) (by omega)).mono ?_
  rintro e w' ⟨v', he, hp⟩
  obtain ⟨ps', n', its', g1, g2, g3, g4, g5, g6⟩ := hp.out.out
  have hM := (g6 M (.inl rfl)).trans h6
  obtain ⟨a, c, rfl⟩ := item_shape g4
  have hne : ∀ b, (Value.slice a its'.length c).ownBlock = some b → b ≠ M := fun b hb e => by
    subst e
    rcases g4.2 with ⟨e2, -⟩ | ⟨g, cap, cur, e2, -, hgg, -⟩
    · rw [e2] at hb; simp [Value.ownBlock] at hb
    · rw [e2] at hb
      have hbg : g = b := by simpa [Value.ownBlock] using hb
      rw [hbg, hM] at hgg
      simp at hgg
  have hD := ((g5.set (b := M) (.inl (.inl rfl)) h7 0 (.int .i64 most)).set (b := M) (.inl (.inl rfl)) h7 1 (.slice a its'.length c)).sub (X' := fun b => b = M ∨ (Value.slice a its'.length c).ownBlock = some b) (fun b hb => hb.imp .inl id)
  have hM2 : ((w'.setCell ⟨M, 0, none⟩ (.int .i64 most)).setCell ⟨M, 1, none⟩ (.slice a its'.length c)).heap[M]? = some (.cells #[.int .i64 most, .slice a its'.length c] 27 (0, 0)) := by
    have e1 : (w'.setCell ⟨M, 0, none⟩ (.int .i64 most)).heap[M]? = some (.cells #[.int .i64 most, v] 27 (0, 0)) := by rw [heap_setCell_same _ _ _ _ _ _ hM]; rfl
    rw [heap_setCell_same _ _ _ _ _ _ e1]; rfl
  refine ⟨a, c, its'.length, he, ⟨?_, ?_, fun o => frozen_of_row _ _ o _ _ hM⟩, ⟨ps', n', its', g1, by omega, by omega, items_kept g4 (fun b hb => ?_), hD, hM2, h7⟩, fun z => ?_⟩
  · rw [cell_of_row _ _ _ _ _ _ hM]; rfl
  · rw [cell_of_row _ _ _ _ _ _ hM]; rfl
  · rw [heap_setCell_other _ _ _ _ (hne b hb), heap_setCell_other _ _ _ _ (hne b hb)]
  · have hl := lenLN (hD.draw z).live
    rw [← g1.cnt] at hl
    exact hl

theorem mid_same [Inhabited EntI] {B : Nat} {w0 w : World} {t M : Nat} {most : Int} {k : Nat} {v : Value} (h : Mid B w0 t M most k v w) (hk : k ≤ 120) :
    Calls Try.prog 12 #[.pointer (some ⟨t, 0, none⟩), .agg #[.int .i64 most, v]] w fun e w' => e = .returned (.bool true) ∧ Hid (Below B w0 w') := by
  obtain ⟨ps, n, its, h1, h2, h3, h4, h5, h6, h7⟩ := h.out
  exact (same_any h5.live h4 h1 (by omega)).mono fun e w' ⟨he, hb⟩ => ⟨he, h5.below.trans (hb.mono h5.room)⟩

theorem mid_cells [Inhabited EntI] {B : Nat} {w0 w : World} {t M : Nat} {most : Int} {k : Nat} {v : Value} (h : Mid B w0 t M most k v w) : w.cell? ⟨M, 0, none⟩ = some (.int .i64 most) ∧ w.cell? ⟨M, 1, none⟩ = some v ∧ Below B w0 w ∧ ∃ a n3 c, v = .slice a n3 c := by
  obtain ⟨ps, n, its, h1, h2, h3, h4, h5, h6, h7⟩ := h.out
  obtain ⟨a, c, hv⟩ := item_shape h4
  refine ⟨?_, ?_, h5.below, a, _, c, hv⟩
  · rw [cell_of_row _ _ _ _ _ _ h6]; rfl
  · rw [cell_of_row _ _ _ _ _ _ h6]; rfl

theorem mid_draw [Inhabited EntI] {B : Nat} {w0 w : World} {t M : Nat} {most : Int} {k : Nat} {v : Value} (h : Mid B w0 t M most k v w) (q : Nat) : Mid B w0 t M most k v (w.drewN q) := by
  obtain ⟨ps, n, its, h1, h2, h3, h4, h5, h6, h7⟩ := h.out
  exact ⟨ps, n, its, h1, h2, h3, items_kept h4 (fun _ _ => rfl), h5.draw q, h6, h7⟩
theorem mid_step [Inhabited EntI] {B : Nat} {w0 w w' : World} {t M : Nat} {most : Int} {k : Nat} {v : Value} (h : Mid B w0 t M most k v w) (hb : Below w.heap.size w w') : Mid B w0 t M most k v w' := by
  obtain ⟨ps, n, its, h1, h2, h3, h4, h5, h6, h7⟩ := h.out
  exact ⟨ps, n, its, h1, h2, h3, items_below h4 hb, h5.step hb, (hb.block M (Array.getElem?_eq_some_iff.1 h6).1).trans h6, h7⟩

theorem mid_first [Inhabited EntI] {w w1 w2 : World} {t : Nat} {most : Int} (h : LiveN w.heap.size w t most [] 0 w1) (hb : Below w1.heap.size w1 w2) : Mid w.heap.size w t w2.heap.size most 0 (.slice none 0 0) (w2.alloc (.cells #[.int .i64 most, .slice none 0 0] 27)) := by
  have h2 := h.step hb
  obtain ⟨hp, v, ms, G, h3, h4⟩ := h2.on
  have ba : Below w2.heap.size w2 (w2.alloc (.cells #[.int .i64 most, .slice none 0 0] 27)) := (Below.refl _ _).alloc (Nat.le_refl _) _
  have hD : Duo (fun _ => False) w.heap.size w t most [] 0 w2 := ⟨h2.below, h2.room, ⟨hp, v, ms, G, h3, fun j hj => ⟨h4 j hj, fun e => e⟩⟩, fun _ e => e.elim⟩
  exact ⟨[], 0, [], rel_nil, by omega, by simp, ⟨rfl, .inl ⟨rfl, rfl⟩⟩, hD.next ba (fun b hb => .inr (hb.elim (fun e => by subst e; exact ⟨Nat.le_refl _, by simp⟩) (fun e => by simp [Value.ownBlock] at e))), heap_alloc_new _ _, h2.room⟩

set_option maxHeartbeats 2000000 in
set_option maxRecDepth 100000 in
theorem slots_plays_any [Inhabited EntI] (m : Int) (a : Option Addr) (b off len cap : Nat) (o : Nat → Int × Int × Int) (w : World)
    (HC : Hid (∀ i, i < len → a = some ⟨b, off, none⟩ ∧ (w.cell? ⟨b, off + i * 3, none⟩ = some (.int .i64 (o i).1) ∧ w.cell? ⟨b, off + i * 3 + 1, none⟩ = some (.int .i64 (o i).2.1) ∧ w.cell? ⟨b, off + i * 3 + 2, none⟩ = some (.int .i64 (o i).2.2)))) :
    Calls Try.prog 3 #[.int .i64 m, .slice a len cap] w fun e w' => e = .returned (.bool true) ∧ Below w.heap.size w w' := by
  go_enter Try.func3, Try.ntmps3
  go_wp2_with fail
  refine (newLN m w).mono ?_
  rintro e w1 ⟨t, rfl, L1⟩
  have HL1 := hide L1
  clear L1
  go_wp2_with fail
  refine (refNew m w1).mono ?_
  rintro e w2 ⟨rfl, hb2⟩
  have HM2 := hide (mid_first (unhide HL1) hb2)
  clear HL1 hb2
  generalize clamp m = most at *
  go_upto_region 2 with fail
  generalize (w2.alloc (.cells #[.int .i64 most, .slice none 0 0] 27)) = w3 at *
  generalize w2.heap.size = M at *
  go_wp2_with fail
  refine (awake_any w3).mono ?_
  rintro e w4 ⟨rfl, hb4⟩
  have HM4 := hide (mid_step (unhide HM2) hb4)
  clear HM2 hb4
  go_wp2_with fail
  go_loopw [7] (fun s7 wr => ∃ (k : Nat) (v : Value), k ≤ len ∧ k ≤ 120 ∧ s7 = .int .i64 k ∧ Hid (Mid w.heap.size w t M most k v wr)) (fun s7 _ => 120 - (intOf s7).toNat)
  case atStart => exact ⟨0, _, Nat.zero_le _, by omega, rfl, unhide HM4⟩
  case round =>
    obtain ⟨k, v, hk, hk2, rfl, hh⟩ := hrel
    obtain ⟨m0, m1, hB, a3, n3, c3, rfl⟩ := mid_cells (unhide hh)
    by_cases hlt : k < len ∧ k < 120
    · obtain ⟨h1, h2⟩ := hlt
      have h1z : (k : Int) < (len : Int) := by omega
      have h2z : (k : Int) < 120 := by omega
      obtain ⟨ea, e1, e2, e3⟩ := unhide HC k h1
      subst ea
      have hbw : b < w.heap.size := World.block_lt_of_cell? _ _ e1
      have d1 := (hB.cell (p := ⟨b, off + k * 3, none⟩) (by exact hbw)).trans e1
      have d2 := (hB.cell (p := ⟨b, off + k * 3 + 1, none⟩) (by exact hbw)).trans e2
      have d3 := (hB.cell (p := ⟨b, off + k * 3 + 2, none⟩) (by exact hbw)).trans e3
      have CS : Hid (∀ z, Calls Try.prog 10 #[.pointer (some ⟨t, 0, none⟩), .agg #[.int .i64 most, .slice a3 n3 c3], .agg #[.int .i64 (o k).1, .int .i64 (o k).2.1, .int .i64 (o k).2.2]] (wr.drewN z) fun e w' => ∃ a c n3', e = .returned (.tuple #[.agg #[.int .i64 most, .slice a n3' c], .bool true]) ∧ (w'.cell? ⟨M, 0, none⟩ = some (.int .i64 most) ∧ w'.cell? ⟨M, 1, none⟩ = some (.slice a3 n3 c3) ∧ ∀ o, w'.frozen? ⟨M, o, none⟩ = false) ∧
          Hid (Mid w.heap.size w t M most (k + 1) (.slice a n3' c) ((w'.setCell ⟨M, 0, none⟩ (.int .i64 most)).setCell ⟨M, 1, none⟩ (.slice a n3' c)) ∧ ∀ z, Calls Try.prog 11 #[.pointer (some ⟨t, 0, none⟩)] (((w'.setCell ⟨M, 0, none⟩ (.int .i64 most)).setCell ⟨M, 1, none⟩ (.slice a n3' c)).drewN z) fun e w'' => e = .returned (.int .i64 n3') ∧ ∃ q, w'' = (((w'.setCell ⟨M, 0, none⟩ (.int .i64 most)).setCell ⟨M, 1, none⟩ (.slice a n3' c)).drewN z).drewN q)) := fun z => mid_play (mid_draw (unhide hh) z) hk2 _ _ _
      generalize (o k).1 = q0 at *
      generalize (o k).2.1 = q1 at *
      generalize (o k).2.2 = q2 at *
      clear e1 e2 e3 hbw hB hh
      go_upto_region 8 with fail
      go_region_with ((go_at_call 10; refine (unhide CS _).mono ?_; rintro e w5 ⟨a5, c5, n5, rfl, ⟨m0, m1, mf⟩, hE⟩))
      all_goals
        obtain ⟨HMM, CL⟩ := unhide hE
        have HMM5 := hide HMM
        have CL5 := hide CL
        clear CS HMM CL hE d1 d2 d3
        go_upto_region 9 with fail
        obtain ⟨n0, n1, -, -⟩ := mid_cells (unhide HMM5)
        generalize ((w5.setCell ⟨M, 0, none⟩ (.int .i64 most)).setCell ⟨M, 1, none⟩ (.slice a5 n5 c5)) = w6 at *
        have CL6 : Hid (∀ z, Calls Try.prog 11 #[.pointer (some ⟨t, 0, none⟩)] (w6.drewN z) fun e w'' => e = .returned (.int .i64 n5) ∧ ∃ q, w'' = w6.drewN q) := fun z => (unhide CL5 z).mono fun _ _ ⟨he, q, hq⟩ => ⟨he, z + q, by rw [hq, World.drewN_drewN]⟩
        clear CL5
        go_quiet ((go_at_call 11; exact unhide CL6 _))
        go_wp2_with fail
        go_roundw
        case rel => exact ⟨k + 1, _, by omega, by omega, by go_num, mid_draw (unhide HMM5) _⟩
        case measure => simp [intOf]; omega
    · have CE := hide (mid_same (unhide hh) hk2)
      clear hh hB
      rcases (by omega : k = len ∨ (k < len ∧ k = 120)) with rfl | ⟨h1, rfl⟩
      all_goals
        clear hlt
        go_wp2_with fail
        refine (unhide CE).mono ?_
        rintro e w5 ⟨rfl, hE⟩
        clear CE
        go_wp2_with fail
        go_ret
        exact ⟨rfl, unhide hE⟩
end Go.Proofs.Ytkdlhnfagghppaa
