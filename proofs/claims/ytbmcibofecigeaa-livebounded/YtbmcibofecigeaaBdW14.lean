/- LiveBounded, walked. -/
import Derived.Test.YtbmcibofecigeaaBdC14
namespace Go.Proofs.Ytbmcibofecigeaa
open Go.RowKit Go.Maps
set_option maxHeartbeats 16000000 in
set_option maxRecDepth 100000 in
theorem liveBounded_any [Inhabited EntF] (s : Int) (a : Option Addr) (len cap : Nat) (o : Nat → OpV) (w0 : World) (os : okN s) (h : IsOps w0 a len o) :
    Calls Try.prog 3 #[.int .i64 s, .slice a len cap] w0 fun e w' => e = .returned (.bool true) ∧ Below w0.heap.size w0 w' := by
  have HO : Hid (IsOps w0 a len o ∧ Below w0.heap.size w0 w0) := ⟨h, Below.refl _ _⟩
  have C0 := hide (vNewT w0 os)
  have CW : Hid (∀ W, Calls Try.prog 5 #[] W fun e w' => e = .returned (.bool true) ∧ Hid (Below W.heap.size W w')) := fun W => awakeT W
  clear h os
  go_enter Try.func3, Try.ntmps3
  go_wp2_with fail
  refine (unhide C0).mono ?_
  rintro e w1 ⟨p, rfl, HN⟩
  obtain ⟨T0, L0, hl0⟩ := ls_new (unhide HN)
  have HL0 := hide hl0
  clear HN hl0 C0
  go_upto_region 2 with fail
  (try simp only [Option.getD_some, heap_alloc_size])
  change Code.wp _ _ _ _ ((w1.alloc (.cells #[.int .i64 s] 3)).alloc (oG (.slice (some ⟨w1.heap.size, 0, none⟩) 1 1) (.slice none 0 0) 0 0))
  obtain ⟨gb, hgb⟩ : ∃ gb, gb = w1.heap.size + 1 := ⟨_, rfl⟩
  rw [← hgb] at HL0 ⊢
  clear hgb
  generalize (w1.alloc (.cells #[.int .i64 s] 3)).alloc (oG (.slice (some ⟨w1.heap.size, 0, none⟩) 1 1) (.slice none 0 0) 0 0) = w2 at *
  generalize (.slice (some ⟨w1.heap.size, 0, none⟩) 1 1 : Value) = vv1 at *
  generalize (.slice none 0 0 : Value) = ev1 at *
  go_wp2_with fail
  refine (unhide CW w2).mono ?_
  rintro e w3 ⟨rfl, hb⟩
  have HL3 := hide ((unhide HL0).below (unhide hb))
  have CT := hide (vTouchedT (unhide HL3).k)
  clear HL0 hb CW
  go_wp2_with fail
  refine (unhide CT).mono ?_
  rintro e w4 ⟨rfl, hw4⟩
  rw [hw4]
  clear CT hw4
  go_upto_region 5 with fail
  go_loopw [7] (fun s7 W => ∃ i : Nat, s7 = .int .i64 i ∧ Hid (i ≤ 60 ∧ ∃ tc vs gs T vv ev wr L, LS w0 gb p s tc vs gs T (i + 1) vv ev wr L W)) (fun s7 _ => 60 - (intOf s7).toNat)
  case atStart => exact ⟨0, rfl, by omega, 0, [s], [], T0, _, _, 0, L0, unhide HL3⟩
  case round =>
    obtain ⟨i, rfl, HR⟩ := hrel
    clear HL3
    obtain ⟨hi60, tc, vs, gs, T, vv, ev, wr0, L1, hls⟩ := unhide HR
    by_cases hlt : i < len ∧ i < 60
    · obtain ⟨hl1, hl2⟩ := hlt
      obtain ⟨b, off, rfl, -, hops⟩ := (unhide HO).1.resolve_left (by omega)
      obtain ⟨hop, hok⟩ := hops i hl1
      replace hop := opAt_below hop (unhide HO).2
      obtain ⟨wq, hwq⟩ : ∃ wq, wq = wr.drew := ⟨_, rfl⟩
      have hls1 : LS w0 gb p s tc vs gs T (i + 1) vv ev wr0 L1 wq := by rw [hwq]; exact hls.below (below_drewN (Below.refl _ wr) 1)
      have hop2 := opAt_below hop hls1.bel
      clear hops
      generalize o i = oi at hop hop2 hok
      have hbi := okOp_bits hok
      obtain ⟨k, e, u, v, n⟩ := oi
      obtain ⟨ok0, ok1, ok2, ok3, ok4⟩ := hok
      obtain ⟨i1, hi1⟩ : ∃ i1, i1 = i + 1 := ⟨_, rfl⟩
      have HI : Hid (i1 = i + 1 ∧ i < 60 ∧ i ≤ 60 ∧ 60 - i1 < 60 - i) := ⟨hi1, hl2, by omega, by omega⟩
      have zw : Hid (wrap64 ((i : Int) + 1) = (i1 : Int)) := by show wrap64 ((i : Int) + 1) = (i1 : Int); unfold wrap64; omega
      have y1 : (i : Int) < (len : Int) := by omega
      have y2 : (i : Int) < 60 := by omega
      obtain ⟨va, vc, hv1, -⟩ := brow_shape hls1.vs
      obtain ⟨vn, hv1'⟩ : ∃ vn, vv = .slice va vn vc := ⟨_, hv1⟩
      obtain rfl : vs.length = vn := by rw [hv1'] at hv1; injection hv1 with _ h _; exact h.symm
      clear hv1
      obtain ⟨ea, ec, he1⟩ := rrow_shape hls1.gs
      obtain ⟨en, he1'⟩ : ∃ en, ev = .slice ea en ec := ⟨_, he1⟩
      obtain rfl : gs.length = en := by rw [he1'] at he1; injection he1 with _ h _; exact h.symm
      clear he1
      subst hv1' he1'
      obtain ⟨vn, hvn⟩ : ∃ vn, vn = vs.length := ⟨_, rfl⟩
      obtain ⟨en, hen⟩ : ∃ en, en = gs.length := ⟨_, rfl⟩
      rw [← hvn, ← hen] at hls hls1
      have HLN : Hid (vn = vs.length ∧ en = gs.length) := ⟨hvn, hen⟩
      have hK : ∀ W, Below wq.heap.size wq W → (W.cell? ⟨gb, 0, none⟩ = some (.slice va vn vc) ∧ W.cell? ⟨gb, 1, none⟩ = some (.slice ea en ec) ∧ W.cell? ⟨gb, 2, none⟩ = some (.int .i64 0) ∧ W.cell? ⟨gb, 3, none⟩ = some (.int .i64 wr0)) ∧ W.cell? ⟨b, off + i * 5, none⟩ = some (.int .i64 k) ∧ W.cell? ⟨b, off + i * 5 + 1, none⟩ = some (.int .i64 e) ∧ W.cell? ⟨b, off + i * 5 + 2, none⟩ = some (.int .i64 u) ∧ W.cell? ⟨b, off + i * 5 + 3, none⟩ = some (.int .i64 v) ∧ W.cell? ⟨b, off + i * 5 + 4, none⟩ = some (.int .u32 n) := fun W hW => by
        obtain ⟨c0, c1, c2, c3, -⟩ := cellsG ((hW.block gb (heap_lt hls1.box)).trans hls1.box)
        exact ⟨⟨c0, c1, c2, c3⟩, opAt_below hop2 hW⟩
      have hSq := hK wq (Below.refl _ _)
      have HK := hide hK
      have HLS := hide hls1
      have HOK : Hid (okN e ∧ okN u ∧ okN v ∧ 0 ≤ n) := ⟨ok1, ok2, ok3, hbi⟩
      have CT : Hid (∀ W, Below wq.heap.size wq W → Calls Try.prog 6 #[.pointer (some ⟨p, 0, none⟩)] W fun e w' => e = .returned (.int .i64 tc) ∧ w' = W) := fun W hW => vTouchedT (hls1.k.below hW)
      have HWQ := hide hwq
      have hS0 : (wr.drew.cell? ⟨gb, 0, none⟩ = some (.slice va vn vc) ∧ wr.drew.cell? ⟨gb, 1, none⟩ = some (.slice ea en ec) ∧ wr.drew.cell? ⟨gb, 2, none⟩ = some (.int .i64 0) ∧ wr.drew.cell? ⟨gb, 3, none⟩ = some (.int .i64 wr0)) ∧ wr.drew.cell? ⟨b, off + i * 5, none⟩ = some (.int .i64 k) ∧ wr.drew.cell? ⟨b, off + i * 5 + 1, none⟩ = some (.int .i64 e) ∧ wr.drew.cell? ⟨b, off + i * 5 + 2, none⟩ = some (.int .i64 u) ∧ wr.drew.cell? ⟨b, off + i * 5 + 3, none⟩ = some (.int .i64 v) ∧ wr.drew.cell? ⟨b, off + i * 5 + 4, none⟩ = some (.int .u32 n) := by rw [← hwq]; exact hSq
      clear HR hls hls1 hop hop2 ok0 ok1 ok2 ok3 ok4 hbi hi60 hl1 hl2 hi1 hK hvn hen hwq
      go_upto_region 7 with fail
      go_cut [8, 9, 10] from 37 to 181 (fun s8 s9 s10 W => ∃ ob hb : Nat, s8 = .pointer (some ⟨ob, 0, none⟩) ∧ s9 = .int .i64 tc ∧ s10 = .pointer (some ⟨hb, 0, none⟩) ∧ Hid (Bx wq (some (ob, k, e, u, v, n)) (some (hb, .slice va vn vc, .slice ea en ec, wr0)) W))
      case first =>
        refine wp_region_noPanic ?_
        refine regionL [] (fun y => (y.cell? ⟨gb, 0, none⟩ = some (.slice va vn vc) ∧ y.cell? ⟨gb, 1, none⟩ = some (.slice ea en ec) ∧ y.cell? ⟨gb, 2, none⟩ = some (.int .i64 0) ∧ y.cell? ⟨gb, 3, none⟩ = some (.int .i64 wr0)) ∧ y.cell? ⟨b, off + i * 5, none⟩ = some (.int .i64 k) ∧ y.cell? ⟨b, off + i * 5 + 1, none⟩ = some (.int .i64 e) ∧ y.cell? ⟨b, off + i * 5 + 2, none⟩ = some (.int .i64 u) ∧ y.cell? ⟨b, off + i * 5 + 3, none⟩ = some (.int .i64 v) ∧ y.cell? ⟨b, off + i * 5 + 4, none⟩ = some (.int .u32 n)) (by kernel_rfl) hS0 (fun hHeld => ?_)
        rw [← (unhide HWQ)]
        obtain ⟨W0, hW0⟩ : ∃ W0, W0 = wq := ⟨_, rfl⟩
        have S : Hid (Bx wq none none W0) := by rw [hW0]; exact Bx.start wq
        have hS := hSq
        rw [← hW0] at hS ⊢
        clear hS0 hSq hW0
        refine takeL (i := 0) (v := ?t2v0) (some 47) rfl rfl (by kernel_rfl) (by kernel_rfl) (by kernel_rfl) (by kernel_rfl) (by kernel_rfl) (fun _ _ _ h => h) (Or.inl ⟨by rfl, ?t2h0⟩) (by assumption) ?t2r0
        case t2h0 => (intro y hSu; (try dsimp only at hSu); go_simp; first | done | with_reducible rfl)
        (try simp only [Act.put, List.setIfInBounds_toArray, List.set_cons_zero, List.set_cons_succ])
        refine takeL (i := 1) (v := ?t2v1) (some 48) rfl rfl (by kernel_rfl) (by kernel_rfl) (by kernel_rfl) (by kernel_rfl) (by kernel_rfl) (fun _ _ _ h => h) (Or.inl ⟨by rfl, ?t2h1⟩) (by assumption) ?t2r1
        case t2h1 => (intro y hSu; (try dsimp only at hSu); go_simp; first | done | with_reducible rfl)
        (try simp only [Act.put, List.setIfInBounds_toArray, List.set_cons_zero, List.set_cons_succ])
        refine takeL (i := 2) (v := ?t2v2) (some 49) rfl rfl (by kernel_rfl) (by kernel_rfl) (by kernel_rfl) (by kernel_rfl) (by kernel_rfl) (fun _ _ _ h => h) (Or.inl ⟨by rfl, ?t2h2⟩) (by assumption) ?t2r2
        case t2h2 => (intro y hSu; (try dsimp only at hSu); go_simp; first | done | with_reducible rfl)
        (try simp only [Act.put, List.setIfInBounds_toArray, List.set_cons_zero, List.set_cons_succ])
        refine takeL (i := 3) (v := ?t2v3) (some 50) rfl rfl (by kernel_rfl) (by kernel_rfl) (by kernel_rfl) (by kernel_rfl) (by kernel_rfl) (fun _ _ _ h => h) (Or.inl ⟨by rfl, ?t2h3⟩) (by assumption) ?t2r3
        case t2h3 => (intro y hSu; (try dsimp only at hSu); go_simp; first | done | with_reducible rfl)
        (try simp only [Act.put, List.setIfInBounds_toArray, List.set_cons_zero, List.set_cons_succ])
        refine takeL (i := 4) (v := ?t2v4) (some 51) rfl rfl (by kernel_rfl) (by kernel_rfl) (by kernel_rfl) (by kernel_rfl) (by kernel_rfl) (fun _ _ _ h => h) (Or.inl ⟨by rfl, ?t2h4⟩) (by assumption) ?t2r4
        case t2h4 => (intro y hSu; (try dsimp only at hSu); go_simp; first | done | with_reducible rfl)
        (try simp only [Act.put, List.setIfInBounds_toArray, List.set_cons_zero, List.set_cons_succ])
        refine takeL (i := 6) (v := ?t2v6) (some 53) rfl rfl (by kernel_rfl) (by kernel_rfl) (by kernel_rfl) (by kernel_rfl) (by kernel_rfl) (fun _ _ _ h => h) (Or.inl ⟨by rfl, ?t2h6⟩) (by assumption) ?t2r6
        case t2h6 => (intro y hSu; (try dsimp only at hSu); go_simp; first | done | with_reducible rfl)
        (try simp only [Act.put, List.setIfInBounds_toArray, List.set_cons_zero, List.set_cons_succ])
        refine readyL3 (i := 5) (j := 7) (k := 8) (by kernel_rfl) rfl rfl rfl (fun K hK => ?_) (fun K hK => ?_) (fun K hK => ?_)
        · go_simp
          refine (unhide CT W0 (unhide S).bel).mono ?_
          rintro e9 w9 ⟨rfl, hw9⟩
          rw [hw9]
          clear hw9
          refine hK.out _ _ (fun _ => hS) ?_
          clear hK K
          (try simp only [Act.put, List.setIfInBounds_toArray, List.set_cons_zero, List.set_cons_succ])
          have hH3 := hS
          refine readyL2 (i := 7) (k := 8) (by kernel_rfl) rfl rfl (fun K hK => ?_) (fun K hK => ?_)
          · go_simp
            have s2 := (unhide S).allocO
            unfold oOp at s2
            have hS2 := unhide HK _ s2.bel
            have S2 := hide s2
            clear s2
            refine hK.out _ _ (fun _ => hS2) ?_
            clear hK K
            (try simp only [Act.put, List.setIfInBounds_toArray, List.set_cons_zero, List.set_cons_succ])
            have hH4 := hS2
            clear S hS
            have S := S2
            have hS := hS2
            clear S2 hS2
            generalize W0.alloc (Obj.cells #[Value.int .i64 0, Value.int .i64 0, Value.int .i64 0, Value.int .i64 0, Value.int .u32 0] 33) = V2_7 at *
            generalize W0.heap.size = ob at *
            refine readyL (i := 8) (by kernel_rfl) rfl (fun K hK => ?_)
            go_simp
            have s2 := (unhide S).allocH
            unfold oZ at s2
            have hS2 := unhide HK _ s2.bel
            have S2 := hide s2
            clear s2
            refine hK.out _ _ (fun _ => hS2) ?_
            clear hK K
            (try simp only [Act.put, List.setIfInBounds_toArray, List.set_cons_zero, List.set_cons_succ])
            have hH6 := hS2
            clear S hS
            have S := S2
            have hS := hS2
            clear S2 hS2
            generalize V2_7.alloc (Obj.cells #[Value.slice none 0 0, Value.slice none 0 0, Value.int .i64 0, Value.int .i64 0] 28) = V3_8 at *
            generalize V2_7.heap.size = hb at *
            obtain ⟨⟨d0, d1, d2, d3, d4⟩, df⟩ := cellsOpF ((unhide S).op _ _ rfl).2
            have s2 := (unhide S).setO (k, e, u, v, n)
            (try dsimp only at s2)
            have hS2 := unhide HK _ s2.bel
            have S2 := hide s2
            clear s2
            refine readyL (i := 9) (by kernel_rfl) rfl (fun K hK => ?_)
            go_simp
            refine hK.out _ _ (fun _ => hS2) ?_
            clear hK K
            (try simp only [Act.put, List.setIfInBounds_toArray, List.set_cons_zero, List.set_cons_succ])
            have hH8 := hS2
            clear S hS d0 d1 d2 d3 d4 df
            have S := S2
            have hS := hS2
            clear S2 hS2
            generalize ((((V3_8.setCell ⟨ob, 0, none⟩ (.int .i64 k)).setCell ⟨ob, 1, none⟩ (.int .i64 e)).setCell ⟨ob, 2, none⟩ (.int .i64 u)).setCell ⟨ob, 3, none⟩ (.int .i64 v)).setCell ⟨ob, 4, none⟩ (.int .u32 n) = U4 at *
            refine takeL (i := 10) (v := ?t9v10) (some 9) rfl rfl (by kernel_rfl) (by kernel_rfl) (by kernel_rfl) (by kernel_rfl) (by kernel_rfl) (fun _ _ _ h => h) (Or.inl ⟨by rfl, ?t9h10⟩) (by assumption) ?t9r10
            case t9h10 => (intro y hSu; (try dsimp only at hSu); go_simp; first | done | with_reducible rfl)
            (try simp only [Act.put, List.setIfInBounds_toArray, List.set_cons_zero, List.set_cons_succ])
            obtain ⟨d0, d1, d2, d3, df⟩ := cellsG ((unhide S).gr _ _ _ _ rfl).2
            have s2 := (unhide S).setH (.slice va vn vc) (.slice ea en ec) wr0
            unfold set4 at s2
            have hS2 := unhide HK _ s2.bel
            have S2 := hide s2
            clear s2
            refine readyL (i := 11) (by kernel_rfl) rfl (fun K hK => ?_)
            go_simp
            refine hK.out _ _ (fun _ => hS2) ?_
            clear hK K
            (try simp only [Act.put, List.setIfInBounds_toArray, List.set_cons_zero, List.set_cons_succ])
            have hH11 := hS2
            refine doneL (by kernel_rfl) ?_ _
            refine NoPanic.normal ?_
            clear d0 d1 d2 d3 df hS hS2 S
            go_wp2_with fail
            go_meet
            case rel => exact ⟨ob, hb, rfl, rfl, rfl, S2⟩
          · go_simp
            have s2 := (unhide S).allocH
            unfold oZ at s2
            have hS2 := unhide HK _ s2.bel
            have S2 := hide s2
            clear s2
            refine hK.out _ _ (fun _ => hS2) ?_
            clear hK K
            (try simp only [Act.put, List.setIfInBounds_toArray, List.set_cons_zero, List.set_cons_succ])
            have hH13 := hS2
            clear S hS
            have S := S2
            have hS := hS2
            clear S2 hS2
            generalize W0.alloc (Obj.cells #[Value.slice none 0 0, Value.slice none 0 0, Value.int .i64 0, Value.int .i64 0] 28) = V2_8 at *
            generalize W0.heap.size = hb at *
            refine readyL (i := 7) (by kernel_rfl) rfl (fun K hK => ?_)
            go_simp
            have s2 := (unhide S).allocO
            unfold oOp at s2
            have hS2 := unhide HK _ s2.bel
            have S2 := hide s2
            clear s2
            refine hK.out _ _ (fun _ => hS2) ?_
            clear hK K
            (try simp only [Act.put, List.setIfInBounds_toArray, List.set_cons_zero, List.set_cons_succ])
            have hH15 := hS2
            clear S hS
            have S := S2
            have hS := hS2
            clear S2 hS2
            generalize V2_8.alloc (Obj.cells #[Value.int .i64 0, Value.int .i64 0, Value.int .i64 0, Value.int .i64 0, Value.int .u32 0] 33) = V5_7 at *
            generalize V2_8.heap.size = ob at *
            obtain ⟨⟨d0, d1, d2, d3, d4⟩, df⟩ := cellsOpF ((unhide S).op _ _ rfl).2
            have s2 := (unhide S).setO (k, e, u, v, n)
            (try dsimp only at s2)
            have hS2 := unhide HK _ s2.bel
            have S2 := hide s2
            clear s2
            refine readyL (i := 9) (by kernel_rfl) rfl (fun K hK => ?_)
            go_simp
            refine hK.out _ _ (fun _ => hS2) ?_
            clear hK K
            (try simp only [Act.put, List.setIfInBounds_toArray, List.set_cons_zero, List.set_cons_succ])
            have hH17 := hS2
            clear S hS d0 d1 d2 d3 d4 df
            have S := S2
            have hS := hS2
            clear S2 hS2
            generalize ((((V5_7.setCell ⟨ob, 0, none⟩ (.int .i64 k)).setCell ⟨ob, 1, none⟩ (.int .i64 e)).setCell ⟨ob, 2, none⟩ (.int .i64 u)).setCell ⟨ob, 3, none⟩ (.int .i64 v)).setCell ⟨ob, 4, none⟩ (.int .u32 n) = U6 at *
            refine takeL (i := 10) (v := ?t18v10) (some 9) rfl rfl (by kernel_rfl) (by kernel_rfl) (by kernel_rfl) (by kernel_rfl) (by kernel_rfl) (fun _ _ _ h => h) (Or.inl ⟨by rfl, ?t18h10⟩) (by assumption) ?t18r10
            case t18h10 => (intro y hSu; (try dsimp only at hSu); go_simp; first | done | with_reducible rfl)
            (try simp only [Act.put, List.setIfInBounds_toArray, List.set_cons_zero, List.set_cons_succ])
            obtain ⟨d0, d1, d2, d3, df⟩ := cellsG ((unhide S).gr _ _ _ _ rfl).2
            have s2 := (unhide S).setH (.slice va vn vc) (.slice ea en ec) wr0
            unfold set4 at s2
            have hS2 := unhide HK _ s2.bel
            have S2 := hide s2
            clear s2
            refine readyL (i := 11) (by kernel_rfl) rfl (fun K hK => ?_)
            go_simp
            refine hK.out _ _ (fun _ => hS2) ?_
            clear hK K
            (try simp only [Act.put, List.setIfInBounds_toArray, List.set_cons_zero, List.set_cons_succ])
            have hH20 := hS2
            refine doneL (by kernel_rfl) ?_ _
            refine NoPanic.normal ?_
            clear d0 d1 d2 d3 df hS hS2 S
            go_wp2_with fail
            go_meet
            case rel => exact ⟨ob, hb, rfl, rfl, rfl, S2⟩
        · go_simp
          have s2 := (unhide S).allocO
          unfold oOp at s2
          have hS2 := unhide HK _ s2.bel
          have S2 := hide s2
          clear s2
          refine hK.out _ _ (fun _ => hS2) ?_
          clear hK K
          (try simp only [Act.put, List.setIfInBounds_toArray, List.set_cons_zero, List.set_cons_succ])
          have hH22 := hS2
          clear S hS
          have S := S2
          have hS := hS2
          clear S2 hS2
          generalize W0.alloc (Obj.cells #[Value.int .i64 0, Value.int .i64 0, Value.int .i64 0, Value.int .i64 0, Value.int .u32 0] 33) = V1_7 at *
          generalize W0.heap.size = ob at *
          refine readyL2 (i := 5) (k := 8) (by kernel_rfl) rfl rfl (fun K hK => ?_) (fun K hK => ?_)
          · go_simp
            refine (unhide CT V1_7 (unhide S).bel).mono ?_
            rintro e9 w9 ⟨rfl, hw9⟩
            rw [hw9]
            clear hw9
            refine hK.out _ _ (fun _ => hS) ?_
            clear hK K
            (try simp only [Act.put, List.setIfInBounds_toArray, List.set_cons_zero, List.set_cons_succ])
            have hH23 := hS
            refine readyL (i := 8) (by kernel_rfl) rfl (fun K hK => ?_)
            go_simp
            have s2 := (unhide S).allocH
            unfold oZ at s2
            have hS2 := unhide HK _ s2.bel
            have S2 := hide s2
            clear s2
            refine hK.out _ _ (fun _ => hS2) ?_
            clear hK K
            (try simp only [Act.put, List.setIfInBounds_toArray, List.set_cons_zero, List.set_cons_succ])
            have hH25 := hS2
            clear S hS
            have S := S2
            have hS := hS2
            clear S2 hS2
            generalize V1_7.alloc (Obj.cells #[Value.slice none 0 0, Value.slice none 0 0, Value.int .i64 0, Value.int .i64 0] 28) = V8_8 at *
            generalize V1_7.heap.size = hb at *
            obtain ⟨⟨d0, d1, d2, d3, d4⟩, df⟩ := cellsOpF ((unhide S).op _ _ rfl).2
            have s2 := (unhide S).setO (k, e, u, v, n)
            (try dsimp only at s2)
            have hS2 := unhide HK _ s2.bel
            have S2 := hide s2
            clear s2
            refine readyL (i := 9) (by kernel_rfl) rfl (fun K hK => ?_)
            go_simp
            refine hK.out _ _ (fun _ => hS2) ?_
            clear hK K
            (try simp only [Act.put, List.setIfInBounds_toArray, List.set_cons_zero, List.set_cons_succ])
            have hH27 := hS2
            clear S hS d0 d1 d2 d3 d4 df
            have S := S2
            have hS := hS2
            clear S2 hS2
            generalize ((((V8_8.setCell ⟨ob, 0, none⟩ (.int .i64 k)).setCell ⟨ob, 1, none⟩ (.int .i64 e)).setCell ⟨ob, 2, none⟩ (.int .i64 u)).setCell ⟨ob, 3, none⟩ (.int .i64 v)).setCell ⟨ob, 4, none⟩ (.int .u32 n) = U9 at *
            refine takeL (i := 10) (v := ?t28v10) (some 9) rfl rfl (by kernel_rfl) (by kernel_rfl) (by kernel_rfl) (by kernel_rfl) (by kernel_rfl) (fun _ _ _ h => h) (Or.inl ⟨by rfl, ?t28h10⟩) (by assumption) ?t28r10
            case t28h10 => (intro y hSu; (try dsimp only at hSu); go_simp; first | done | with_reducible rfl)
            (try simp only [Act.put, List.setIfInBounds_toArray, List.set_cons_zero, List.set_cons_succ])
            obtain ⟨d0, d1, d2, d3, df⟩ := cellsG ((unhide S).gr _ _ _ _ rfl).2
            have s2 := (unhide S).setH (.slice va vn vc) (.slice ea en ec) wr0
            unfold set4 at s2
            have hS2 := unhide HK _ s2.bel
            have S2 := hide s2
            clear s2
            refine readyL (i := 11) (by kernel_rfl) rfl (fun K hK => ?_)
            go_simp
            refine hK.out _ _ (fun _ => hS2) ?_
            clear hK K
            (try simp only [Act.put, List.setIfInBounds_toArray, List.set_cons_zero, List.set_cons_succ])
            have hH30 := hS2
            refine doneL (by kernel_rfl) ?_ _
            refine NoPanic.normal ?_
            clear d0 d1 d2 d3 df hS hS2 S
            go_wp2_with fail
            go_meet
            case rel => exact ⟨ob, hb, rfl, rfl, rfl, S2⟩
          · go_simp
            have s2 := (unhide S).allocH
            unfold oZ at s2
            have hS2 := unhide HK _ s2.bel
            have S2 := hide s2
            clear s2
            refine hK.out _ _ (fun _ => hS2) ?_
            clear hK K
            (try simp only [Act.put, List.setIfInBounds_toArray, List.set_cons_zero, List.set_cons_succ])
            have hH32 := hS2
            clear S hS
            have S := S2
            have hS := hS2
            clear S2 hS2
            generalize V1_7.alloc (Obj.cells #[Value.slice none 0 0, Value.slice none 0 0, Value.int .i64 0, Value.int .i64 0] 28) = V7_8 at *
            generalize V1_7.heap.size = hb at *
            refine readyL (i := 5) (by kernel_rfl) rfl (fun K hK => ?_)
            go_simp
            refine (unhide CT V7_8 (unhide S).bel).mono ?_
            rintro e9 w9 ⟨rfl, hw9⟩
            rw [hw9]
            clear hw9
            refine hK.out _ _ (fun _ => hS) ?_
            clear hK K
            (try simp only [Act.put, List.setIfInBounds_toArray, List.set_cons_zero, List.set_cons_succ])
            have hH34 := hS
            obtain ⟨⟨d0, d1, d2, d3, d4⟩, df⟩ := cellsOpF ((unhide S).op _ _ rfl).2
            have s2 := (unhide S).setO (k, e, u, v, n)
            (try dsimp only at s2)
            have hS2 := unhide HK _ s2.bel
            have S2 := hide s2
            clear s2
            refine readyL (i := 9) (by kernel_rfl) rfl (fun K hK => ?_)
            go_simp
            refine hK.out _ _ (fun _ => hS2) ?_
            clear hK K
            (try simp only [Act.put, List.setIfInBounds_toArray, List.set_cons_zero, List.set_cons_succ])
            have hH36 := hS2
            clear S hS d0 d1 d2 d3 d4 df
            have S := S2
            have hS := hS2
            clear S2 hS2
            generalize ((((V7_8.setCell ⟨ob, 0, none⟩ (.int .i64 k)).setCell ⟨ob, 1, none⟩ (.int .i64 e)).setCell ⟨ob, 2, none⟩ (.int .i64 u)).setCell ⟨ob, 3, none⟩ (.int .i64 v)).setCell ⟨ob, 4, none⟩ (.int .u32 n) = U11 at *
            refine takeL (i := 10) (v := ?t37v10) (some 9) rfl rfl (by kernel_rfl) (by kernel_rfl) (by kernel_rfl) (by kernel_rfl) (by kernel_rfl) (fun _ _ _ h => h) (Or.inl ⟨by rfl, ?t37h10⟩) (by assumption) ?t37r10
            case t37h10 => (intro y hSu; (try dsimp only at hSu); go_simp; first | done | with_reducible rfl)
            (try simp only [Act.put, List.setIfInBounds_toArray, List.set_cons_zero, List.set_cons_succ])
            obtain ⟨d0, d1, d2, d3, df⟩ := cellsG ((unhide S).gr _ _ _ _ rfl).2
            have s2 := (unhide S).setH (.slice va vn vc) (.slice ea en ec) wr0
            unfold set4 at s2
            have hS2 := unhide HK _ s2.bel
            have S2 := hide s2
            clear s2
            refine readyL (i := 11) (by kernel_rfl) rfl (fun K hK => ?_)
            go_simp
            refine hK.out _ _ (fun _ => hS2) ?_
            clear hK K
            (try simp only [Act.put, List.setIfInBounds_toArray, List.set_cons_zero, List.set_cons_succ])
            have hH39 := hS2
            refine doneL (by kernel_rfl) ?_ _
            refine NoPanic.normal ?_
            clear d0 d1 d2 d3 df hS hS2 S
            go_wp2_with fail
            go_meet
            case rel => exact ⟨ob, hb, rfl, rfl, rfl, S2⟩
        · go_simp
          have s2 := (unhide S).allocH
          unfold oZ at s2
          have hS2 := unhide HK _ s2.bel
          have S2 := hide s2
          clear s2
          refine hK.out _ _ (fun _ => hS2) ?_
          clear hK K
          (try simp only [Act.put, List.setIfInBounds_toArray, List.set_cons_zero, List.set_cons_succ])
          have hH41 := hS2
          clear S hS
          have S := S2
          have hS := hS2
          clear S2 hS2
          generalize W0.alloc (Obj.cells #[Value.slice none 0 0, Value.slice none 0 0, Value.int .i64 0, Value.int .i64 0] 28) = V1_8 at *
          generalize W0.heap.size = hb at *
          refine readyL2 (i := 5) (k := 7) (by kernel_rfl) rfl rfl (fun K hK => ?_) (fun K hK => ?_)
          · go_simp
            refine (unhide CT V1_8 (unhide S).bel).mono ?_
            rintro e9 w9 ⟨rfl, hw9⟩
            rw [hw9]
            clear hw9
            refine hK.out _ _ (fun _ => hS) ?_
            clear hK K
            (try simp only [Act.put, List.setIfInBounds_toArray, List.set_cons_zero, List.set_cons_succ])
            have hH42 := hS
            refine readyL (i := 7) (by kernel_rfl) rfl (fun K hK => ?_)
            go_simp
            have s2 := (unhide S).allocO
            unfold oOp at s2
            have hS2 := unhide HK _ s2.bel
            have S2 := hide s2
            clear s2
            refine hK.out _ _ (fun _ => hS2) ?_
            clear hK K
            (try simp only [Act.put, List.setIfInBounds_toArray, List.set_cons_zero, List.set_cons_succ])
            have hH44 := hS2
            clear S hS
            have S := S2
            have hS := hS2
            clear S2 hS2
            generalize V1_8.alloc (Obj.cells #[Value.int .i64 0, Value.int .i64 0, Value.int .i64 0, Value.int .i64 0, Value.int .u32 0] 33) = V13_7 at *
            generalize V1_8.heap.size = ob at *
            obtain ⟨⟨d0, d1, d2, d3, d4⟩, df⟩ := cellsOpF ((unhide S).op _ _ rfl).2
            have s2 := (unhide S).setO (k, e, u, v, n)
            (try dsimp only at s2)
            have hS2 := unhide HK _ s2.bel
            have S2 := hide s2
            clear s2
            refine readyL (i := 9) (by kernel_rfl) rfl (fun K hK => ?_)
            go_simp
            refine hK.out _ _ (fun _ => hS2) ?_
            clear hK K
            (try simp only [Act.put, List.setIfInBounds_toArray, List.set_cons_zero, List.set_cons_succ])
            have hH46 := hS2
            clear S hS d0 d1 d2 d3 d4 df
            have S := S2
            have hS := hS2
            clear S2 hS2
            generalize ((((V13_7.setCell ⟨ob, 0, none⟩ (.int .i64 k)).setCell ⟨ob, 1, none⟩ (.int .i64 e)).setCell ⟨ob, 2, none⟩ (.int .i64 u)).setCell ⟨ob, 3, none⟩ (.int .i64 v)).setCell ⟨ob, 4, none⟩ (.int .u32 n) = U14 at *
            refine takeL (i := 10) (v := ?t47v10) (some 9) rfl rfl (by kernel_rfl) (by kernel_rfl) (by kernel_rfl) (by kernel_rfl) (by kernel_rfl) (fun _ _ _ h => h) (Or.inl ⟨by rfl, ?t47h10⟩) (by assumption) ?t47r10
            case t47h10 => (intro y hSu; (try dsimp only at hSu); go_simp; first | done | with_reducible rfl)
            (try simp only [Act.put, List.setIfInBounds_toArray, List.set_cons_zero, List.set_cons_succ])
            obtain ⟨d0, d1, d2, d3, df⟩ := cellsG ((unhide S).gr _ _ _ _ rfl).2
            have s2 := (unhide S).setH (.slice va vn vc) (.slice ea en ec) wr0
            unfold set4 at s2
            have hS2 := unhide HK _ s2.bel
            have S2 := hide s2
            clear s2
            refine readyL (i := 11) (by kernel_rfl) rfl (fun K hK => ?_)
            go_simp
            refine hK.out _ _ (fun _ => hS2) ?_
            clear hK K
            (try simp only [Act.put, List.setIfInBounds_toArray, List.set_cons_zero, List.set_cons_succ])
            have hH49 := hS2
            refine doneL (by kernel_rfl) ?_ _
            refine NoPanic.normal ?_
            clear d0 d1 d2 d3 df hS hS2 S
            go_wp2_with fail
            go_meet
            case rel => exact ⟨ob, hb, rfl, rfl, rfl, S2⟩
          · go_simp
            have s2 := (unhide S).allocO
            unfold oOp at s2
            have hS2 := unhide HK _ s2.bel
            have S2 := hide s2
            clear s2
            refine hK.out _ _ (fun _ => hS2) ?_
            clear hK K
            (try simp only [Act.put, List.setIfInBounds_toArray, List.set_cons_zero, List.set_cons_succ])
            have hH51 := hS2
            clear S hS
            have S := S2
            have hS := hS2
            clear S2 hS2
            generalize V1_8.alloc (Obj.cells #[Value.int .i64 0, Value.int .i64 0, Value.int .i64 0, Value.int .i64 0, Value.int .u32 0] 33) = V12_7 at *
            generalize V1_8.heap.size = ob at *
            refine readyL (i := 5) (by kernel_rfl) rfl (fun K hK => ?_)
            go_simp
            refine (unhide CT V12_7 (unhide S).bel).mono ?_
            rintro e9 w9 ⟨rfl, hw9⟩
            rw [hw9]
            clear hw9
            refine hK.out _ _ (fun _ => hS) ?_
            clear hK K
            (try simp only [Act.put, List.setIfInBounds_toArray, List.set_cons_zero, List.set_cons_succ])
            have hH53 := hS
            obtain ⟨⟨d0, d1, d2, d3, d4⟩, df⟩ := cellsOpF ((unhide S).op _ _ rfl).2
            have s2 := (unhide S).setO (k, e, u, v, n)
            (try dsimp only at s2)
            have hS2 := unhide HK _ s2.bel
            have S2 := hide s2
            clear s2
            refine readyL (i := 9) (by kernel_rfl) rfl (fun K hK => ?_)
            go_simp
            refine hK.out _ _ (fun _ => hS2) ?_
            clear hK K
            (try simp only [Act.put, List.setIfInBounds_toArray, List.set_cons_zero, List.set_cons_succ])
            have hH55 := hS2
            clear S hS d0 d1 d2 d3 d4 df
            have S := S2
            have hS := hS2
            clear S2 hS2
            generalize ((((V12_7.setCell ⟨ob, 0, none⟩ (.int .i64 k)).setCell ⟨ob, 1, none⟩ (.int .i64 e)).setCell ⟨ob, 2, none⟩ (.int .i64 u)).setCell ⟨ob, 3, none⟩ (.int .i64 v)).setCell ⟨ob, 4, none⟩ (.int .u32 n) = U16 at *
            refine takeL (i := 10) (v := ?t56v10) (some 9) rfl rfl (by kernel_rfl) (by kernel_rfl) (by kernel_rfl) (by kernel_rfl) (by kernel_rfl) (fun _ _ _ h => h) (Or.inl ⟨by rfl, ?t56h10⟩) (by assumption) ?t56r10
            case t56h10 => (intro y hSu; (try dsimp only at hSu); go_simp; first | done | with_reducible rfl)
            (try simp only [Act.put, List.setIfInBounds_toArray, List.set_cons_zero, List.set_cons_succ])
            obtain ⟨d0, d1, d2, d3, df⟩ := cellsG ((unhide S).gr _ _ _ _ rfl).2
            have s2 := (unhide S).setH (.slice va vn vc) (.slice ea en ec) wr0
            unfold set4 at s2
            have hS2 := unhide HK _ s2.bel
            have S2 := hide s2
            clear s2
            refine readyL (i := 11) (by kernel_rfl) rfl (fun K hK => ?_)
            go_simp
            refine hK.out _ _ (fun _ => hS2) ?_
            clear hK K
            (try simp only [Act.put, List.setIfInBounds_toArray, List.set_cons_zero, List.set_cons_succ])
            have hH58 := hS2
            refine doneL (by kernel_rfl) ?_ _
            refine NoPanic.normal ?_
            clear d0 d1 d2 d3 df hS hS2 S
            go_wp2_with fail
            go_meet
            case rel => exact ⟨ob, hb, rfl, rfl, rfl, S2⟩
      case rest =>
        obtain ⟨ob, hb, rfl, rfl, rfl, HX⟩ := hcut
        clear hSq hS0 CT HWQ
        have HLX : Hid (LS w0 gb p s tc vs gs T (i + 1) (.slice va vn vc) (.slice ea en ec) wr0 L1 wc) := (unhide HLS).below (unhide HX).bel
        have CL := hide (last0T (e := e) (rd := 0) (wr := wr0) (ev := .slice ea en ec) (unhide HLX).k (unhide HLX).vs (by have := (unhide HLX).k.vl; have := (unhide HI).2.1; omega))
        obtain ⟨⟨c0, c1, c2, c3⟩, -⟩ := unhide HK wc (unhide HX).bel
        obtain ⟨⟨d0, d1, d2, d3, d4⟩, -⟩ := cellsOpF ((unhide HX).op ob _ rfl).2
        obtain ⟨lb, hlb⟩ : ∃ lb, lb = lastB T vs e := ⟨_, rfl⟩
        rw [← hlb] at CL
        have HLB := hide hlb
        clear hlb
        go_wp2_with fail
        refine (unhide CL).mono ?_
        rintro r5 w5 ⟨rfl, hb5⟩
        have HX5 : Hid (Bx wq (some (ob, k, e, u, v, n)) (some (hb, .slice va vn vc, .slice ea en ec, wr0)) w5) := (unhide HX).below (unhide hb5)
        have HL5 : Hid (LS w0 gb p s tc vs gs T (i + 1) (.slice va vn vc) (.slice ea en ec) wr0 L1 w5) := (unhide HLS).below (unhide HX5).bel
        clear HLX CL HX hb5 c0 c1 c2 c3 d0 d1 d2 d3 d4
        have CP := hide (ls_play (k := k) (unhide HL5) (by have := (unhide HI).2.1; omega) (unhide HOK).1 (unhide HOK).2.1 (unhide HOK).2.2.1 (unhide HOK).2.2.2)
        obtain ⟨⟨c0, c1, c2, c3⟩, -⟩ := unhide HK w5 (unhide HX5).bel
        obtain ⟨⟨d0, d1, d2, d3, d4⟩, -⟩ := cellsOpF ((unhide HX5).op ob _ rfl).2
        go_wp2_with fail
        refine (unhide CP).mono ?_
        intro r6 w6 hp
        obtain ⟨vv', ev', wr', vs', gs', T', tc', L', rfl, hbx, hls7, hbd, hkeep⟩ := (unhide HL5).play (unhide hp)
        obtain ⟨va', vc', hv1, -⟩ := brow_shape hls7.vs
        obtain ⟨vn', hvn'⟩ : ∃ vn', vn' = vs'.length := ⟨_, rfl⟩
        rw [← hvn'] at hv1
        obtain ⟨ea', ec', he1⟩ := rrow_shape hls7.gs
        obtain ⟨en', hen'⟩ : ∃ en', en' = gs'.length := ⟨_, rfl⟩
        rw [← hen'] at he1
        have HLN2 : Hid (vn' = vs'.length ∧ en' = gs'.length) := ⟨hvn', hen'⟩
        have HAT : Hid (AtK ob hb gb k e u v n (.slice va vn vc) (.slice ea en ec) wr0 vs gs vv' ev' wr' vs' gs' (set4 w6 gb vv' ev' (.int .i64 0) (.int .i64 wr'))) := atK_of (unhide HLS) (unhide HX5) hls7 hkeep
        obtain ⟨hbo, hsm⟩ := bdOk_of (unhide HL5).k hls7.k hbd
        have HBO := hide hbo
        have HSM := hide hsm
        have HL7 := hide hls7
        clear c0 c1 c2 c3 d0 d1 d2 d3 d4 CP hp hls7 hbd hbo hsm hkeep hvn' hen'
        subst hv1 he1
        obtain ⟨c0, c1, c2, c3, cf⟩ := cellsG hbx
        clear hbx HX5 HK HLS
        go_upto_region 11 with fail
        change Code.wp _ _ _ _ (set4 w6 gb (.slice va' vn' vc') (.slice ea' en' ec') (.int .i64 0) (.int .i64 wr'))
        generalize set4 w6 gb (.slice va' vn' vc') (.slice ea' en' ec') (.int .i64 0) (.int .i64 wr') = w7 at *
        clear c0 c1 c2 c3 cf
        have HNX : ∀ W, Below w7.heap.size w7 W → Hid (i1 ≤ 60 ∧ ∃ tc vs gs T vv ev wr L, LS w0 gb p s tc vs gs T (i1 + 1) vv ev wr L W) := fun W hW => by
          obtain ⟨q1, q2, q3, q4⟩ := unhide HI
          refine ⟨by omega, tc', vs', gs', T', .slice va' vn' vc', .slice ea' en' ec', wr', L', ?_⟩
          rw [q1]
          exact (unhide HL7).below hW
        replace HNX := hide HNX
        have HAW : Hid (∀ W, Below w7.heap.size w7 W → AtK ob hb gb k e u v n (.slice va vn vc) (.slice ea en ec) wr0 vs gs (.slice va' vn' vc') (.slice ea' en' ec') wr' vs' gs' W) := fun W hW => (unhide HAT).below hW
        have CT : Hid (∀ W, Below w7.heap.size w7 W → Calls Try.prog 6 #[.pointer (some ⟨p, 0, none⟩)] W fun e w' => e = .returned (.int .i64 tc') ∧ w' = W) := fun W hW => vTouchedT ((unhide HL7).k.below hW)
        have HLS7 : Hid (Lst vs gs s (farAt (dsL vs T)) (bitsAt (dsL vs T)) ∧ Lst vs' gs' s (farAt (dsL vs' T')) (bitsAt (dsL vs' T')) ∧ (gs.map (·.1)).Nodup ∧ (gs'.map (·.1)).Nodup ∧ gs.length ≤ 1000 ∧ gs'.length ≤ 1000 ∧ vs.length ≤ 1000) := by
          have h5 := unhide HL5
          have h7 := unhide HL7
          have q := (unhide HI).2.1
          have g5 := h5.g.2
          have g7 := h7.g.2
          have l5 := h5.k.vl
          exact ⟨h5.k.lst (by omega) (by omega) h5.g.1, h7.k.lst (by omega) (by omega) h7.g.1, h5.k.un, h7.k.un, by omega, by omega, by omega⟩
        obtain ⟨⟨d0, d1, d2, d3, d4⟩, -⟩ := cellsOpF (unhide HAT).op
        obtain ⟨c0, c1, c2, c3, -⟩ := cellsG (unhide HAT).new
        obtain ⟨o0, o1, o2, o3, -⟩ := cellsG (unhide HAT).old
        clear HL5 HL7 HAT HOK
        rcases unhide HBO with ⟨hk, htc⟩ | ⟨hk, hnr, nt, htc, hmost, hcase⟩
        · have z9 : (tc' == tc) = true := by simpa using htc
          have z8 : Hid (tc' = tc) := htc
          by_cases hk3 : k < 3
          · clear hk htc HBO HSM
            have CT1 := hide (unhide CT w7 (Below.refl _ _))
            go_wp2_with fail
            refine (unhide CT1).mono ?_
            rintro e9 w9 ⟨rfl, hw9⟩
            rw [hw9]
            clear CT1 hw9 w9
            have HN2 := unhide HNX w7 (Below.refl _ _)
            go_wp2_with fail
            (try rw [unhide zw])
            exact ⟨⟨i1, by first | rfl | (rw [(unhide HI).1]; rfl), HN2⟩, by have := (unhide HI).2.2.2; have := (unhide HI).1; simp [intOf]; omega⟩
          · by_cases hk5 : 5 < k
            · clear hk htc HBO HSM
              have CT1 := hide (unhide CT w7 (Below.refl _ _))
              go_wp2_with fail
              refine (unhide CT1).mono ?_
              rintro e9 w9 ⟨rfl, hw9⟩
              rw [hw9]
              clear CT1 hw9 w9
              have HN2 := unhide HNX w7 (Below.refl _ _)
              go_wp2_with fail
              (try rw [unhide zw])
              exact ⟨⟨i1, by first | rfl | (rw [(unhide HI).1]; rfl), HN2⟩, by have := (unhide HI).2.2.2; have := (unhide HI).1; simp [intOf]; omega⟩
            · have hr : en' = en ∧ wr' = wr0 := by
                rw [(unhide HLN).2, (unhide HLN2).2]
                exact hk.resolve_left (fun z => z ⟨by omega, by omega⟩)
              have CR := hide (refusedT (w := w7) (v1 := .slice va' vn' vc') (v2 := .slice va vn vc) (a1 := ea') (a2 := ea) (n1 := en') (c1 := ec') (n2 := en) (c2 := ec) (rd1 := 0) (rd2 := 0) (wr1 := wr') (wr2 := wr0))
              rw [decide_eq_true hr] at CR
              clear hk htc HBO HSM hr
              go_wp2_with fail
              refine (unhide CR).mono ?_
              rintro e8 w8 ⟨rfl, HB8⟩
              have CT1 := hide (unhide CT w8 (unhide HB8))
              go_wp2_with fail
              refine (unhide CT1).mono ?_
              rintro e9 w9 ⟨rfl, hw9⟩
              rw [hw9]
              clear CT1 hw9 w9
              have HN2 := unhide HNX w8 (unhide HB8)
              go_wp2_with fail
              (try rw [unhide zw])
              exact ⟨⟨i1, by first | rfl | (rw [(unhide HI).1]; rfl), HN2⟩, by have := (unhide HI).2.2.2; have := (unhide HI).1; simp [intOf]; omega⟩
        · have CR := hide (refusedT (w := w7) (v1 := .slice va' vn' vc') (v2 := .slice va vn vc) (a1 := ea') (a2 := ea) (n1 := en') (c1 := ec') (n2 := en) (c2 := ec) (rd1 := 0) (rd2 := 0) (wr1 := wr') (wr2 := wr0))
          rw [decide_eq_false (by rw [(unhide HLN).2, (unhide HLN2).2]; exact hnr)] at CR
          have hk3 : ¬ k < 3 := by omega
          have hk5 : ¬ 5 < k := by omega
          obtain rfl := unhide HSM ⟨hk, hnr⟩
          obtain rfl : vn' = vn := (unhide HLN2).1.trans (unhide HLN).1.symm
          subst htc
          clear hk HBO HSM
          have HM := hide hmost
          have HCS := hide hcase
          clear hmost hcase hnr
          go_wp2_with fail
          refine (unhide CR).mono ?_
          rintro e8 w8 ⟨rfl, HB8⟩
          clear CR c0 c1 c2 c3 d0 d1 d2 d3 d4 o0 o1 o2 o3
          obtain ⟨⟨d0, d1, d2, d3, d4⟩, -⟩ := cellsOpF (unhide HAW w8 (unhide HB8)).op
          obtain ⟨c0, c1, c2, c3, -⟩ := cellsG (unhide HAW w8 (unhide HB8)).new
          obtain ⟨o0, o1, o2, o3, -⟩ := cellsG (unhide HAW w8 (unhide HB8)).old
          (try dsimp only)
          repeat ((fail_if_success (with_reducible change Code.wp _ (Code.seq (Code.region 16 _ _) _) _ _ _)); go_step)
          refine bnd16 _ _ _ _ _ _ _ _ _ _ _ _ _ _ _ _ _ _ _ _ _ _ _ _ _ _ _ _ _ _ _ _ _ _ _ _ _ _ _ _ _ _ _ _ _ _ _ _ _ _ _ _ _ _ _ _ _ _ _ _ _ _ _ _ _ _ _ _ _ _ _ _ _ _ _ _ _ _ _ _ _ _ _ _ _ _ _ _ _ _ _ _ _ _ _ _ _ _ _ _ _ _ _ _ _ _ _ _ _ _ _ _ _ _ _ _ _ _ _ _ _ _ _ _ _ _ _ _ _ _ _ _ _ _ _ _ _ _ _ _ _ _ _ _ _ _ _ _ _ _ _ _ _ _ _ _ _ _ _ _ _ _ _ _ _ _ _ _ _ _ _ _ _ _ _ _ _ HAW CT HLS7 HLN HLN2 HLB HCS HM HB8 ?_
          rintro y13 y14 y15 y16 y17 y18 y19 y20 y86 y87 y88 y89 y90 y91 y92 y93 y94 y95 y96 y97 y98 y99 y100 y101 y102 y103 y104 y105 y106 y107 y108 y109 y110 y111 y112 y113 y114 y115 y116 y117 y118 y119 y120 y121 y122 y123 y124 y125 y126 y127 y128 y129 y130 y131 y132 y133 y134 y135 y136 y137 y138 y139 y140 y141 y142 y143 y144 y145 y146 y147 y148 y149 y150 y151 y152 y153 y154 y155 y156 y157 y158 y159 y160 y161 y162 y163 y164 y165 y166 y167 y168 y169 y170 y171 y172 y173 y174 y175 y176 y177 y178 y179 y180 y181 wz hbz
          have HN2 := unhide HNX wz hbz
          go_wp2_with fail
          (try rw [unhide zw])
          exact ⟨⟨i1, by first | rfl | (rw [(unhide HI).1]; rfl), HN2⟩, by have := (unhide HI).2.2.2; have := (unhide HI).1; simp [intOf]; omega⟩
    · have HE : Hid (Below w0.heap.size w0 wr) := hls.bel
      clear HR hls
      by_cases hl1 : i < len
      · have y1 : (i : Int) < (len : Int) := by omega
        have y2 : ¬ (i : Int) < 60 := by omega
        clear hlt hl1 hi60
        go_wp2_with fail
        go_ret
        exact ⟨rfl, unhide HE⟩
      · have y1 : ¬ (i : Int) < (len : Int) := by omega
        clear hlt hl1 hi60
        go_wp2_with fail
        go_ret
        exact ⟨rfl, unhide HE⟩
end Go.Proofs.Ytbmcibofecigeaa
