/- LiveEach, walked. -/
import Derived.Test.YtbmcibofecigeaaGreatBuW14
import Derived.Test.YtbmcibofecigeaaGreatRW14
namespace Go.Proofs.YtbmcibofecigeaaGreat

section
open Go.RowKit Go.Maps
section
variable {w W : World} {p : Nat} {s : Int} {vv ev : Value} {wr : Int}
/-- A tree and its graph, for the law's questions. -/
def Asked (p : Nat) (s : Int) (vv ev : Value) (W : World) : Prop := ∃ ys es ds T, TLv W p s ys es ds T ∧ NRow W vv ys ∧ ERow 0 W ev es
theorem BuiltA.asked (h : BuiltA w p s vv ev wr W) : Asked p s vv ev W ∧ Below w.heap.size w W := by
  obtain ⟨L, tc, vs, gs, T, N, h1, h2, h3, h4, h5, -, -, -, h6, -⟩ := h
  exact ⟨⟨vs, gs, _, T, ⟨⟨L, tc, N, h1, by omega⟩, rfl, h2.1, by have := h2.2; omega⟩, h4, h5⟩, h6⟩
theorem Asked.below {W' : World} (h : Asked p s vv ev W) (hb : Below W.heap.size W W') : Asked p s vv ev W' := by
  obtain ⟨ys, es, ds, T, h1, h2, h3⟩ := h
  exact ⟨ys, es, ds, T, h1.below hb, nrow_below h2 hb, rrow_below h3 hb⟩
theorem Asked.right (h : Asked p s vv ev W) {rd wr0 : Int} : Calls Tryz.prog 10 #[.iface 23 (.pointer (some ⟨p, 0, none⟩)), .agg #[vv, ev, .int .i64 rd, .int .i64 wr0], .int .i64 s] W fun e w' => e = .returned (.bool true) ∧ Hid (Below W.heap.size W w') := by
  obtain ⟨ys, es, ds, T, h1, h2, h3⟩ := h
  exact rightL h1 h2 h3 h1.el
end
set_option maxHeartbeats 4000000 in
set_option maxRecDepth 100000 in
theorem livePlays_any [Inhabited EntF] (s : Int) (a : Option Addr) (len cap : Nat) (o : Nat → OpV) (w : World) (os : okN s) (h : IsOps w a len o) :
    Calls Tryz.prog 3 #[.int .i64 s, .slice a len cap] w fun e w' => e = .returned (.bool true) ∧ Below w.heap.size w w' := by
  have CB := hide (builtT a len cap o w h os)
  have CW : Hid (∀ W, Calls Tryz.prog 9 #[] W fun e w' => e = .returned (.bool true) ∧ Hid (Below W.heap.size W w')) := fun W => awakeT W
  clear h os
  go_enter Tryz.func3, Tryz.ntmps3
  go_wp2_with fail
  refine (unhide CB).mono ?_
  rintro e w1 ⟨p, va, vn, vc, ea, en, ec, wr, rfl, HB⟩
  have hb2 := below_new w1 (oG (.slice va vn vc) (.slice ea en ec) 0 wr)
  have hn2 := heap_alloc_new w1 (oG (.slice va vn vc) (.slice ea en ec) 0 wr)
  obtain ⟨h1, h2⟩ := (unhide HB).asked
  obtain ⟨gb, hgb⟩ : ∃ gb, gb = w1.heap.size := ⟨_, rfl⟩
  have HG : Hid (gb = w1.heap.size) := hgb
  have HA : Hid (Asked p s (.slice va vn vc) (.slice ea en ec) (w1.alloc (oG (.slice va vn vc) (.slice ea en ec) 0 wr)) ∧ (w1.alloc (oG (.slice va vn vc) (.slice ea en ec) 0 wr)).heap[gb]? = some (oG (.slice va vn vc) (.slice ea en ec) 0 wr) ∧ Below w.heap.size w (w1.alloc (oG (.slice va vn vc) (.slice ea en ec) 0 wr))) := ⟨h1.below hb2, by rw [hgb]; exact hn2, h2.trans (hb2.mono h2.size)⟩
  clear CB HB hb2 hn2 h1 h2 hgb
  go_upto_region 2 with fail
  change Code.wp _ _ _ _ (w1.alloc (oG (.slice va vn vc) (.slice ea en ec) 0 wr))
  rw [← unhide HG]
  clear HG
  generalize w1.alloc (oG (.slice va vn vc) (.slice ea en ec) 0 wr) = w2 at *
  go_wp2_with fail
  refine (unhide CW w2).mono ?_
  rintro e w3 ⟨rfl, hb3⟩
  have HA3 : Hid (Asked p s (.slice va vn vc) (.slice ea en ec) w3 ∧ Below w.heap.size w w3) := ⟨(unhide HA).1.below (unhide hb3), (unhide HA).2.2.trans ((unhide hb3).mono (unhide HA).2.2.size)⟩
  obtain ⟨c0, c1, c2, c3, cf⟩ := cellsG (((unhide hb3).block gb (heap_lt (unhide HA).2.1)).trans (unhide HA).2.1)
  have CR := hide ((unhide HA3).1.right (rd := 0) (wr0 := wr))
  clear CW HA hb3
  go_wp2_with fail
  refine (unhide CR).mono ?_
  rintro e w4 ⟨rfl, hb4⟩
  have HE : Hid (Below w.heap.size w w4) := (unhide HA3).2.trans ((unhide hb4).mono (unhide HA3).2.size)
  clear CR HA3 hb4 c0 c1 c2 c3 cf
  go_wp2_with fail
  go_ret
  exact ⟨rfl, unhide HE⟩
end

section
open Go.RowKit Go.Maps
set_option maxHeartbeats 8000000 in
set_option maxRecDepth 100000 in
theorem liveEach_any [Inhabited EntF] (s : Int) (a : Option Addr) (len cap : Nat) (o : Nat → OpV) (w0 : World) (os : okN s) (h : IsOps w0 a len o) :
    Calls Tryz.prog 4 #[.int .i64 s, .slice a len cap] w0 fun e w' => e = .returned (.bool true) ∧ Below w0.heap.size w0 w' := by
  have HO : Hid (IsOps w0 a len o ∧ Below w0.heap.size w0 w0) := ⟨h, Below.refl _ _⟩
  have C0 := hide (vNewT w0 os)
  have CW : Hid (∀ W, Calls Tryz.prog 9 #[] W fun e w' => e = .returned (.bool true) ∧ Hid (Below W.heap.size W w')) := fun W => awakeT W
  clear h os
  go_enter Tryz.func4, Tryz.ntmps4
  go_wp2_with fail
  refine (unhide C0).mono ?_
  rintro e w1 ⟨p, rfl, HN⟩
  obtain ⟨T0, L0, hl0⟩ := ls_new (unhide HN)
  have HL0 := hide hl0
  clear HN hl0 C0
  go_upto_region 2 with fail
  (try simp only [Option.getD_some, heap_alloc_size])
  change Code.wp _ _ _ _ ((w1.alloc (.cells #[.int .i64 s] 3)).alloc (oG (.slice (some ⟨w1.heap.size, 0, none⟩) 1 1) (.slice none 0 0) 0 0))
  obtain ⟨gb, hgb⟩ : ∃ gb, gb = w1.heap.size + 1 := ⟨_, rfl⟩
  rw [← hgb] at HL0 ⊢
  clear hgb
  generalize (w1.alloc (.cells #[.int .i64 s] 3)).alloc (oG (.slice (some ⟨w1.heap.size, 0, none⟩) 1 1) (.slice none 0 0) 0 0) = w2 at *
  go_wp2_with fail
  refine (unhide CW w2).mono ?_
  rintro e w3 ⟨rfl, hb⟩
  have HL3 := hide ((unhide HL0).below (unhide hb))
  clear HL0 hb CW
  go_upto_region 5 with fail
  go_loopw [7] (fun s7 W => ∃ i : Nat, s7 = .int .i64 i ∧ Hid (i ≤ 30 ∧ ∃ tc vs gs T vv ev wr L, LS w0 gb p s tc vs gs T (i + 1) vv ev wr L W)) (fun s7 _ => 30 - (intOf s7).toNat)
  case atStart => exact ⟨0, rfl, by omega, 0, [s], [], T0, _, _, 0, L0, unhide HL3⟩
  case round =>
    obtain ⟨i, rfl, HR⟩ := hrel
    clear HL3
    obtain ⟨hi60, tc, vs, gs, T, vv, ev, wr0, L1, hls⟩ := unhide HR
    by_cases hlt : i < len ∧ i < 30
    · obtain ⟨hl1, hl2⟩ := hlt
      obtain ⟨b, off, rfl, -, hops⟩ := (unhide HO).1.resolve_left (by omega)
      obtain ⟨hop, hok⟩ := hops i hl1
      replace hop := opAt_below hop (unhide HO).2
      have hop2 := opAt_below hop hls.bel
      clear hops
      generalize o i = oi at hop hop2 hok
      have hbi := okOp_bits hok
      obtain ⟨k, e, u, v, n⟩ := oi
      obtain ⟨ok0, ok1, ok2, ok3, ok4⟩ := hok
      obtain ⟨i1, hi1⟩ : ∃ i1, i1 = i + 1 := ⟨_, rfl⟩
      have HI : Hid (i1 = i + 1 ∧ i < 30 ∧ i ≤ 30 ∧ 30 - i1 < 30 - i) := ⟨hi1, hl2, by omega, by omega⟩
      have zw : Hid (wrap64 ((i : Int) + 1) = (i1 : Int)) := by show wrap64 ((i : Int) + 1) = (i1 : Int); unfold wrap64; omega
      have y1 : (i : Int) < (len : Int) := by omega
      have y2 : (i : Int) < 30 := by omega
      obtain ⟨va, vc, hv1, -⟩ := brow_shape hls.vs
      obtain ⟨vn, hv1'⟩ : ∃ vn, vv = .slice va vn vc := ⟨_, hv1⟩
      clear hv1
      obtain ⟨ea, ec, he1⟩ := rrow_shape hls.gs
      obtain ⟨en, he1'⟩ : ∃ en, ev = .slice ea en ec := ⟨_, he1⟩
      clear he1
      subst hv1' he1'
      obtain ⟨c0, c1, c2, c3, cf⟩ := cellsG hls.box
      have hls1 := hls.below (below_drewN (Below.refl _ wr) 1)
      have CP := hide (ls_play (k := k) hls1 (by omega) ok1 ok2 ok3 hbi)
      have HLS := hide hls1
      have HK : Hid (∀ W, Below w0.heap.size w0 W → W.cell? ⟨b, off + i * 5, none⟩ = some (.int .i64 k) ∧ W.cell? ⟨b, off + i * 5 + 1, none⟩ = some (.int .i64 e) ∧ W.cell? ⟨b, off + i * 5 + 2, none⟩ = some (.int .i64 u) ∧ W.cell? ⟨b, off + i * 5 + 3, none⟩ = some (.int .i64 v) ∧ W.cell? ⟨b, off + i * 5 + 4, none⟩ = some (.int .u32 n)) := fun W hW => opAt_below hop hW
      obtain ⟨f0, f1, f2, f3, f4⟩ := hop2
      (try dsimp only at f0 f1 f2 f3 f4)
      have hS0 : (wr.drewN 1).cell? ⟨b, off + i * 5, none⟩ = some (.int .i64 k) ∧ (wr.drewN 1).cell? ⟨b, off + i * 5 + 1, none⟩ = some (.int .i64 e) ∧ (wr.drewN 1).cell? ⟨b, off + i * 5 + 2, none⟩ = some (.int .i64 u) ∧ (wr.drewN 1).cell? ⟨b, off + i * 5 + 3, none⟩ = some (.int .i64 v) ∧ (wr.drewN 1).cell? ⟨b, off + i * 5 + 4, none⟩ = some (.int .u32 n) := ⟨f0, f1, f2, f3, f4⟩
      clear HR hls hls1 hop ok0 ok1 ok2 ok3 ok4 hbi hi60 hl1 hl2 hi1
      go_upto_region 8 with fail
      refine wp_region_noPanic ?_
      refine regionL [] (fun y => y.cell? ⟨b, off + i * 5, none⟩ = some (.int .i64 k) ∧ y.cell? ⟨b, off + i * 5 + 1, none⟩ = some (.int .i64 e) ∧ y.cell? ⟨b, off + i * 5 + 2, none⟩ = some (.int .i64 u) ∧ y.cell? ⟨b, off + i * 5 + 3, none⟩ = some (.int .i64 v) ∧ y.cell? ⟨b, off + i * 5 + 4, none⟩ = some (.int .u32 n)) (by kernel_rfl) hS0 (fun hHeld => ?_)
      refine takeL (i := 0) (v := ?t2v0) (some 31) rfl rfl (by kernel_rfl) (by kernel_rfl) (by kernel_rfl) (by kernel_rfl) (by kernel_rfl) (fun _ _ _ h => h) (Or.inl ⟨by rfl, ?t2h0⟩) (by assumption) ?t2r0
      case t2h0 => (intro y hSu; (try dsimp only at hSu); go_simp; first | done | with_reducible rfl)
      (try simp only [Act.put, List.setIfInBounds_toArray, List.set_cons_zero, List.set_cons_succ])
      refine takeL (i := 2) (v := ?t2v2) (some 33) rfl rfl (by kernel_rfl) (by kernel_rfl) (by kernel_rfl) (by kernel_rfl) (by kernel_rfl) (fun _ _ _ h => h) (Or.inl ⟨by rfl, ?t2h2⟩) (by assumption) ?t2r2
      case t2h2 => (intro y hSu; (try dsimp only at hSu); go_simp; first | done | with_reducible rfl)
      (try simp only [Act.put, List.setIfInBounds_toArray, List.set_cons_zero, List.set_cons_succ])
      refine takeL (i := 3) (v := ?t2v3) (some 34) rfl rfl (by kernel_rfl) (by kernel_rfl) (by kernel_rfl) (by kernel_rfl) (by kernel_rfl) (fun _ _ _ h => h) (Or.inl ⟨by rfl, ?t2h3⟩) (by assumption) ?t2r3
      case t2h3 => (intro y hSu; (try dsimp only at hSu); go_simp; first | done | with_reducible rfl)
      (try simp only [Act.put, List.setIfInBounds_toArray, List.set_cons_zero, List.set_cons_succ])
      refine takeL (i := 4) (v := ?t2v4) (some 35) rfl rfl (by kernel_rfl) (by kernel_rfl) (by kernel_rfl) (by kernel_rfl) (by kernel_rfl) (fun _ _ _ h => h) (Or.inl ⟨by rfl, ?t2h4⟩) (by assumption) ?t2r4
      case t2h4 => (intro y hSu; (try dsimp only at hSu); go_simp; first | done | with_reducible rfl)
      (try simp only [Act.put, List.setIfInBounds_toArray, List.set_cons_zero, List.set_cons_succ])
      refine takeL (i := 5) (v := ?t2v5) (some 36) rfl rfl (by kernel_rfl) (by kernel_rfl) (by kernel_rfl) (by kernel_rfl) (by kernel_rfl) (fun _ _ _ h => h) (Or.inl ⟨by rfl, ?t2h5⟩) (by assumption) ?t2r5
      case t2h5 => (intro y hSu; (try dsimp only at hSu); go_simp; first | done | with_reducible rfl)
      (try simp only [Act.put, List.setIfInBounds_toArray, List.set_cons_zero, List.set_cons_succ])
      refine takeL (i := 6) (v := ?t2v6) (some 37) rfl rfl (by kernel_rfl) (by kernel_rfl) (by kernel_rfl) (by kernel_rfl) (by kernel_rfl) (fun _ _ _ h => h) (Or.inl ⟨by rfl, ?t2h6⟩) (by assumption) ?t2r6
      case t2h6 => (intro y hSu; (try dsimp only at hSu); go_simp; first | done | with_reducible rfl)
      (try simp only [Act.put, List.setIfInBounds_toArray, List.set_cons_zero, List.set_cons_succ])
      refine readyL (i := 1) (by kernel_rfl) rfl (fun K hK => ?_)
      go_simp
      refine hK.out _ _ (fun _ => hS0) ?_
      clear hK K
      (try simp only [Act.put, List.setIfInBounds_toArray, List.set_cons_zero, List.set_cons_succ])
      have hH4 := hS0
      refine readyL (i := 7) (by kernel_rfl) rfl (fun K hK => ?_)
      go_simp
      refine (unhide CP).mono ?_
      intro r6 w5 hp
      obtain ⟨vv', ev', wr', vs', gs', T', tc', L', rfl, hbx, hls6, -, -⟩ := (unhide HLS).play (unhide hp)
      obtain ⟨va', vc', hv1, -⟩ := brow_shape hls6.vs
      obtain ⟨vn', hv1'⟩ : ∃ vn', vv' = .slice va' vn' vc' := ⟨_, hv1⟩
      clear hv1
      obtain ⟨ea', ec', he1⟩ := rrow_shape hls6.gs
      obtain ⟨en', he1'⟩ : ∃ en', ev' = .slice ea' en' ec' := ⟨_, he1⟩
      clear he1
      subst hv1' he1'
      have hS3 : w5.cell? ⟨b, off + i * 5, none⟩ = some (.int .i64 k) ∧ w5.cell? ⟨b, off + i * 5 + 1, none⟩ = some (.int .i64 e) ∧ w5.cell? ⟨b, off + i * 5 + 2, none⟩ = some (.int .i64 u) ∧ w5.cell? ⟨b, off + i * 5 + 3, none⟩ = some (.int .i64 v) ∧ w5.cell? ⟨b, off + i * 5 + 4, none⟩ = some (.int .u32 n) := by
        have hq : ∀ x, x < w0.heap.size → w5.heap[x]? = w0.heap[x]? := fun x hx => by
          have h1 := hls6.bel.block x hx
          rw [set4_other (show x ≠ gb by have := hls6.hg; omega)] at h1
          exact h1
        have hw := unhide HK w0 (Below.refl _ _)
        have hb0 := cell_lt14 hw.1
        exact opAt_block (o := (k, e, u, v, n)) (off := off + i * 5) (hq b hb0) hw
      have hS4 := unhide HK (set4 w5 gb (.slice va' vn' vc') (.slice ea' en' ec') (.int .i64 0) (.int .i64 wr')) hls6.bel
      unfold set4 at hS4
      have HNX : Hid (i1 ≤ 30 ∧ ∃ tc vs gs T vv ev wr L, LS w0 gb p s tc vs gs T (i1 + 1) vv ev wr L (set4 w5 gb (.slice va' vn' vc') (.slice ea' en' ec') (.int .i64 0) (.int .i64 wr'))) := by
        obtain ⟨q1, q2, q3, q4⟩ := unhide HI
        refine ⟨by omega, tc', vs', gs', T', .slice va' vn' vc', .slice ea' en' ec', wr', L', ?_⟩
        rw [q1]
        exact hls6
      obtain ⟨d0, d1, d2, d3, df⟩ := cellsG hbx
      have HLS6 := hide hls6
      clear CP hp hls6 hbx HLS
      (try dsimp only)
      refine hK.out _ _ (fun _ => hS3) ?_
      clear hK K
      (try simp only [Act.put, List.setIfInBounds_toArray, List.set_cons_zero, List.set_cons_succ])
      have hH6 := hS3
      refine takeL (i := 8) (v := ?t7v8) (some 30) rfl rfl (by kernel_rfl) (by kernel_rfl) (by kernel_rfl) (by kernel_rfl) (by kernel_rfl) (fun _ _ _ h => h) (Or.inl ⟨by rfl, ?t7h8⟩) (by assumption) ?t7r8
      case t7h8 => (intro y hSu; (try dsimp only at hSu); go_simp; first | done | with_reducible rfl)
      (try simp only [Act.put, List.setIfInBounds_toArray, List.set_cons_zero, List.set_cons_succ])
      refine takeL (i := 9) (v := ?t7v9) (some 39) rfl rfl (by kernel_rfl) (by kernel_rfl) (by kernel_rfl) (by kernel_rfl) (by kernel_rfl) (fun _ _ _ h => h) (Or.inl ⟨by rfl, ?t7h9⟩) (by assumption) ?t7r9
      case t7h9 => (intro y hSu; (try dsimp only at hSu); go_simp; first | done | with_reducible rfl)
      (try simp only [Act.put, List.setIfInBounds_toArray, List.set_cons_zero, List.set_cons_succ])
      refine takeL (i := 10) (v := ?t7v10) (some 40) rfl rfl (by kernel_rfl) (by kernel_rfl) (by kernel_rfl) (by kernel_rfl) (by kernel_rfl) (fun _ _ _ h => h) (Or.inl ⟨by rfl, ?t7h10⟩) (by assumption) ?t7r10
      case t7h10 => (intro y hSu; (try dsimp only at hSu); go_simp; first | done | with_reducible rfl)
      (try simp only [Act.put, List.setIfInBounds_toArray, List.set_cons_zero, List.set_cons_succ])
      refine readyL (i := 11) (by kernel_rfl) rfl (fun K hK => ?_)
      go_simp
      refine hK.out _ _ (fun _ => hS4) ?_
      clear hK K
      (try simp only [Act.put, List.setIfInBounds_toArray, List.set_cons_zero, List.set_cons_succ])
      have hH9 := hS4
      refine takeL (i := 12) (v := ?t10v12) (some 8) rfl rfl (by kernel_rfl) (by kernel_rfl) (by kernel_rfl) (by kernel_rfl) (by kernel_rfl) (fun _ _ _ h => h) (Or.inl ⟨by rfl, ?t10h12⟩) (by assumption) ?t10r12
      case t10h12 => (intro y hSu; (try dsimp only at hSu); go_simp; first | done | with_reducible rfl)
      (try simp only [Act.put, List.setIfInBounds_toArray, List.set_cons_zero, List.set_cons_succ])
      refine doneL (by kernel_rfl) ?_ _
      refine NoPanic.normal ?_
      change Exit.then _ _ _ _ (set4 w5 gb (.slice va' vn' vc') (.slice ea' en' ec') (.int .i64 0) (.int .i64 wr'))
      generalize set4 w5 gb (.slice va' vn' vc') (.slice ea' en' ec') (.int .i64 0) (.int .i64 wr') = w6 at *
      clear d0 d1 d2 d3 df hS0 hS3 hS4 c0 c1 c2 c3 cf f0 f1 f2 f3 f4 HK
      have HA6 : Hid (Asked p s (.slice va' vn' vc') (.slice ea' en' ec') w6) := by
        have hh := unhide HLS6
        exact ⟨vs', gs', _, T', ⟨⟨L', tc', i + 1 + 1, hh.k, by have := (unhide HI).2.1; omega⟩, rfl, hh.g.1, by have := hh.g.2; have := (unhide HI).2.1; omega⟩, hh.vs, hh.gs⟩
      obtain ⟨d0, d1, d2, d3, df⟩ := cellsG (unhide HLS6).box
      have CQ := hide ((unhide HA6).right (rd := 0) (wr0 := wr'))
      clear HLS6 HA6
      go_wp2_with fail
      refine (unhide CQ).mono ?_
      rintro e9 w9 ⟨rfl, hb9⟩
      replace HNX : Hid (i1 ≤ 30 ∧ ∃ tc vs gs T vv ev wr L, LS w0 gb p s tc vs gs T (i1 + 1) vv ev wr L w9) := by
        obtain ⟨q, tc, vs, gs, T, vv, ev, wr, L, hh⟩ := unhide HNX
        exact ⟨q, tc, vs, gs, T, vv, ev, wr, L, hh.below (unhide hb9)⟩
      clear CQ hb9 d0 d1 d2 d3 df
      go_wp2_with fail
      (try rw [unhide zw])
      exact ⟨⟨i1, by first | rfl | (rw [(unhide HI).1]; rfl), unhide HNX⟩, by have := (unhide HI).2.2.2; have := (unhide HI).1; simp [intOf]; omega⟩
    · obtain ⟨va, vc, hv1, -⟩ := brow_shape hls.vs
      obtain ⟨vn, hv1'⟩ : ∃ vn, vv = .slice va vn vc := ⟨_, hv1⟩
      clear hv1
      obtain ⟨ea, ec, he1⟩ := rrow_shape hls.gs
      obtain ⟨en, he1'⟩ : ∃ en, ev = .slice ea en ec := ⟨_, he1⟩
      clear he1
      subst hv1' he1'
      obtain ⟨c0, c1, c2, c3, cf⟩ := cellsG hls.box
      have HLS := hide hls
      have HI60 := hide hi60
      clear HR hls
      by_cases hl1 : i < len
      · have y1 : (i : Int) < (len : Int) := by omega
        have y2 : ¬ (i : Int) < 30 := by omega
        clear hlt hl1 hi60
        have HE : Hid (Below w0.heap.size w0 wr) := (unhide HLS).bel
        clear HLS HI60 HO c0 c1 c2 c3 cf
        go_wp2_with fail
        go_ret
        exact ⟨rfl, unhide HE⟩
      · have y1 : ¬ (i : Int) < (len : Int) := by omega
        clear hlt hl1 hi60
        have HE : Hid (Below w0.heap.size w0 wr) := (unhide HLS).bel
        clear HLS HI60 HO c0 c1 c2 c3 cf
        go_wp2_with fail
        go_ret
        exact ⟨rfl, unhide HE⟩
end

end Go.Proofs.YtbmcibofecigeaaGreat
