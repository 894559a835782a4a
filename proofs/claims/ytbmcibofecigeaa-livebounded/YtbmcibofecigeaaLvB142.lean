/- below, entries: walked. -/
import Derived.Test.YtbmcibofecigeaaLvF14
import Derived.Test.YtbmcibofecigeaaLvO14
namespace Go.Proofs.Ytbmcibofecigeaa
open Go.RowKit Go.Maps
attribute [local go_sem] run_storeF run_fieldE0 run_fieldE1
/-- What is so when an edge went, or is dearer: E was, E' is. -/
structure BG (E E' : L14.Es) (s : Int) (T : L14.Tr) (v : Int) : Prop where
  rt : L14.Right E s T
  vf : L14.fnd T v = true
  ne : v ≠ s
  hE : ∀ w, w ≠ v → E' (L14.lst T w) = E (L14.lst T w)
  no : ∀ u c, E' (L14.lst T v) = some (u, v, c) → ¬ L14.Desc E s T v u
  e0 : E' 0 = none
theorem rise_nodup {l : List Int} (h : Rising ltN l) : l.Nodup := h.nodup linN
section
variable {L : Lab} {w : World} {p mv me : Nat} {s tc : Int} {V : Int → Option Nat} {nv : Nat} {E E' : L14.Es} {ne : Nat} {T : L14.Tr} {O I : Int → List Int} {vs : List Int} {N : Nat}
/-- A vertex's spot, as it is read. -/
theorem LvAt.read (h : LvAt L w p mv me s tc V nv E ne T O I) (hG : GL V E O I vs N) {v : Int} (hv : v ∈ vs) : ∃ b ov iv, (Instr.lookup 48 (.map (some mv)) (.int .i64 v) false).run Try.prog w = .ok (.pointer (some ⟨b, 0, none⟩)) w ∧ w.cell? ⟨p, 1, none⟩ = some (.map (some mv)) ∧ w.cell? ⟨p, 2, none⟩ = some (.map (some me)) ∧ w.heap[b]? = some (oSp ov iv (T v)) ∧ NRow w ov (O v) ∧ NRow w iv (I v) := by
  obtain ⟨b, hb⟩ := hG.at_ hv
  have := h.lookV (hG.okV v hv)
  rw [hb] at this
  obtain ⟨ov, iv, g1, -, g3, g4, -⟩ := h.sp v b hb
  obtain ⟨-, c1, c2, -, -⟩ := cellsL h.box
  exact ⟨b, ov, iv, this, c1, c2, g1, g3, g4⟩
/-- The same at all later worlds. -/
theorem LvAt.read2 (h : LvAt L w p mv me s tc V nv E ne T O I) (hG : GL V E O I vs N) {v : Int} (hv : v ∈ vs) : ∃ b ov iv, ∀ W, Below w.heap.size w W → (Instr.lookup 48 (.map (some mv)) (.int .i64 v) false).run Try.prog W = .ok (.pointer (some ⟨b, 0, none⟩)) W ∧ W.cell? ⟨p, 1, none⟩ = some (.map (some mv)) ∧ W.cell? ⟨p, 2, none⟩ = some (.map (some me)) ∧ W.heap[b]? = some (oSp ov iv (T v)) ∧ NRow W ov (O v) ∧ NRow W iv (I v) := by
  obtain ⟨b, hb⟩ := hG.at_ hv
  obtain ⟨ov, iv, g1, -, g3, g4, -⟩ := h.sp v b hb
  refine ⟨b, ov, iv, fun W hW => ?_⟩
  have h1 := h.below hW
  have := h1.lookV (hG.okV v hv)
  rw [hb] at this
  obtain ⟨-, c1, c2, -, -⟩ := cellsL h1.box
  exact ⟨this, c1, c2, (hW.block b (heap_lt g1)).trans g1, nrow_kept g3 (fun d e => hW.block d (g3.lt d e).2), nrow_kept g4 (fun d e => hW.block d (g4.lt d e).2)⟩
theorem LvAt.readE (h : LvAt L w p mv me s tc V nv E ne T O I) (hG : GL V E O I vs N) {e u v : Int} {c : Nat} (he : E e = some (u, v, c)) : (Instr.lookup 49 (.map (some me)) (.int .i64 e) false).run Try.prog w = .ok (.agg #[.int .i64 u, .int .i64 v, .float .f32 c]) w := by
  have := h.lookE (hG.ed e u v c he).1
  rw [he] at this
  exact this
/-- What below answers. -/
def BelA (E E' : L14.Es) (s : Int) (T : L14.Tr) (O : Int → List Int) (v : Int) (w : World) (x : Value) (w' : World) : Prop :=
  ∃ all, BRow w.heap.size w' x all ∧ Below w.heap.size w w' ∧ L14.Bl E E' s T O v all all.length 0
theorem Bl_len {all : List Int} {i k : Nat} {v : Int} (hs : s ∈ vs) (hm : ∀ e u v c, E e = some (u, v, c) → v ∈ vs) (hR : L14.Right E s T) (h : L14.Bl E E' s T O v all i k) : (∀ x ∈ all, x ∈ vs) ∧ all.length ≤ vs.length := by
  have hin : ∀ x ∈ all, x ∈ vs := fun x hx => by
    by_cases z : x = s
    · rw [z]; exact hs
    · obtain ⟨u, c, g1, -⟩ := hR.hang x (h.ne x hx).2.1 z
      exact hm _ _ _ _ g1
  exact ⟨hin, sub_len h.nd hin⟩
set_option maxHeartbeats 4000000 in
set_option maxRecDepth 100000 in
theorem vbelowT (h : LvAt L w p mv me s tc V nv E' ne T O I) (hG : GL V E' O I vs N) (hs : s ∈ vs) (hm : ∀ e u v c, E e = some (u, v, c) → v ∈ vs) (hN : N ≤ 200) {v : Int} (hB : BG E E' s T v) :
    Calls Try.prog 56 #[.pointer (some ⟨p, 0, none⟩), .int .i64 v] w fun e w' => ∃ a n c, e = .returned (.slice a n c) ∧ Hid (BelA E E' s T O v w (.slice a n c) w') := by
  have hb := below_new w (.cells #[.int .i64 v] 3)
  have hr0 : BRow w.heap.size (w.alloc (.cells #[.int .i64 v] 3)) (.slice (some ⟨w.heap.size, 0, none⟩) 1 1) [v] := ⟨rfl, .inr ⟨w.heap.size, 1, #[.int .i64 v], rfl, Nat.le_refl _, heap_alloc_new _ _, Nat.le_refl _, by unfold maxLen; omega, rfl, rfl⟩⟩
  have HI0 : Hid (BRow w.heap.size (w.alloc (.cells #[.int .i64 v] 3)) (.slice (some ⟨w.heap.size, 0, none⟩) 1 1) [v] ∧ Below w.heap.size w (w.alloc (.cells #[.int .i64 v] 3)) ∧ L14.Bl E E' s T O v [v] 0 0) := ⟨hr0, hb, L14.Bl.start hB.ne hB.vf⟩
  have HL : Hid (∀ W, Below w.heap.size w W → LvAt L W p mv me s tc V nv E' ne T O I) := fun W hW => h.below hW
  have HG : Hid (GL V E' O I vs N ∧ BG E E' s T v ∧ N ≤ 200 ∧ s ∈ vs ∧ ∀ e u v c, E e = some (u, v, c) → v ∈ vs) := ⟨hG, hB, hN, hs, hm⟩
  obtain ⟨M, hM⟩ : ∃ M, M = vs.length := ⟨_, rfl⟩
  have HM : Hid (M = vs.length ∧ M ≤ 200) := ⟨hM, by have := hG.vl; omega⟩
  clear h hG hs hm hN hB hb hr0 hM
  go_enter Try.func56, Try.ntmps56
  go_wp2_with fail
  go_loopw [6, 5] (fun s6 s5 wr => ∃ (i : Nat) (a : Option Addr) (n c : Nat), s6 = .int .i64 i ∧ s5 = .slice a n c ∧ Hid (∃ all, n = all.length ∧ BRow w.heap.size wr (.slice a n c) all ∧ Below w.heap.size w wr ∧ L14.Bl E E' s T O v all i 0 ∧ i ≤ n)) (fun s6 _ _ => M + 1 - (intOf s6).toNat)
  case atStart => exact ⟨0, some ⟨w.heap.size, 0, none⟩, 1, 1, rfl, rfl, [v], rfl, (unhide HI0).1, (unhide HI0).2.1, (unhide HI0).2.2, Nat.zero_le _⟩
  case round =>
    clear HI0
    obtain ⟨i, a, n, c, rfl, rfl, HI⟩ := hrel
    obtain ⟨all, i0, i1, i2, i3, i4⟩ := unhide HI
    obtain ⟨hG, hB, hN, hs, hm⟩ := unhide HG
    obtain ⟨hin, hlen⟩ := Bl_len hs hm hB.rt i3
    have hMM := unhide HM
    by_cases hlt : i < n
    · obtain ⟨x, hx⟩ : ∃ x, all[i]? = some x := ⟨_, List.getElem?_eq_getElem (by omega)⟩
      obtain ⟨ga, rfl⟩ := brow_some i1 (by omega)
      have k0 := brow_at i1 hx
      obtain ⟨b, ov, iv, hR2⟩ := (unhide HL w (Below.refl _ _)).read2 hG (hin x (List.mem_of_getElem? hx))
      obtain ⟨r1, r2, r3, r4, r5, -⟩ := hR2 wr.drew (below_drewN i2 1)
      obtain ⟨d0, -⟩ := cellsSp r4
      obtain ⟨xa, xc, ex, -⟩ := brow_shape r5
      obtain ⟨xn, hxn⟩ : ∃ xn, xn = (O x).length := ⟨_, rfl⟩
      rw [← hxn] at ex
      subst ex
      have z1 : (i : Int) < (n : Int) := by omega
      have k2 : wr.cell? ⟨p, 1, none⟩ = some (.map (some mv)) := r2
      have d0' : wr.cell? ⟨b, 0, none⟩ = some (.slice xa xn xc) := d0
      have HROW : Hid (∀ W, Below w.heap.size w W → NRow W (.slice xa xn xc) (O x)) := fun W hW => (hR2 W hW).2.2.2.2.1
      have HS : Hid (∃ all, n = all.length ∧ all[i]? = some x ∧ BRow w.heap.size wr (.slice (some ⟨ga, 0, none⟩) n c) all ∧ Below w.heap.size w wr ∧ L14.Bl E E' s T O v all i 0) := ⟨all, i0, hx, i1, i2, i3⟩
      have HN : Hid (xn = (O x).length ∧ xn ≤ 200 ∧ i ≤ M ∧ i < n) := ⟨hxn, by have := hG.lo x; omega, by omega, hlt⟩
      clear HI i0 i1 i2 i3 i4 hG hB hN hs hm hin hlen hMM hlt hx hR2 r2 r3 r4 r5 hxn d0
      go_upto_region 5 with fail
      refine wp_region_noPanic ?_
      refine regionL [] (fun y => y.cell? ⟨p, 1, none⟩ = some (.map (some mv)) ∧ y.cell? ⟨ga, i, none⟩ = some (.int .i64 x) ∧ y.cell? ⟨b, 0, none⟩ = some (.slice xa xn xc) ∧ (Instr.lookup 48 (.map (some mv)) (.int .i64 x) false).run Try.prog y = .ok (.pointer (some ⟨b, 0, none⟩)) y) (by kernel_rfl) ⟨k2, k0, d0', r1⟩ (fun hHeld => ?_)
      refine takeL (i := 0) (v := ?t2v0) (some 18) rfl rfl (by kernel_rfl) (by kernel_rfl) (by kernel_rfl) (by kernel_rfl) (by kernel_rfl) (fun _ _ _ h => h) (Or.inl ⟨by rfl, ?t2h0⟩) (by assumption) ?t2r0
      case t2h0 => (intro y hSu; (try dsimp only at hSu); go_simp; first | done | with_reducible rfl)
      (try simp only [Act.put, List.setIfInBounds_toArray, List.set_cons_zero, List.set_cons_succ])
      refine takeL (i := 1) (v := ?t2v1) (some 19) rfl rfl (by kernel_rfl) (by kernel_rfl) (by kernel_rfl) (by kernel_rfl) (by kernel_rfl) (fun _ _ _ h => h) (Or.inl ⟨by rfl, ?t2h1⟩) (by assumption) ?t2r1
      case t2h1 => (intro y hSu; (try dsimp only at hSu); go_simp; first | done | with_reducible rfl)
      (try simp only [Act.put, List.setIfInBounds_toArray, List.set_cons_zero, List.set_cons_succ])
      refine takeL (i := 2) (v := ?t2v2) (some 20) rfl rfl (by kernel_rfl) (by kernel_rfl) (by kernel_rfl) (by kernel_rfl) (by kernel_rfl) (fun _ _ _ h => h) (Or.inl ⟨by rfl, ?t2h2⟩) (by assumption) ?t2r2
      case t2h2 => (intro y hSu; (try dsimp only at hSu); go_simp; first | done | with_reducible rfl)
      (try simp only [Act.put, List.setIfInBounds_toArray, List.set_cons_zero, List.set_cons_succ])
      refine takeL (i := 3) (v := ?t2v3) (some 21) rfl rfl (by kernel_rfl) (by kernel_rfl) (by kernel_rfl) (by kernel_rfl) (by kernel_rfl) (fun _ _ _ h => h) (Or.inl ⟨by rfl, ?t2h3⟩) (by assumption) ?t2r3
      case t2h3 => (intro y hSu; (try dsimp only at hSu); go_simp; first | done | with_reducible rfl)
      (try simp only [Act.put, List.setIfInBounds_toArray, List.set_cons_zero, List.set_cons_succ])
      refine takeL (i := 4) (v := ?t2v4) (some 22) rfl rfl (by kernel_rfl) (by kernel_rfl) (by kernel_rfl) (by kernel_rfl) (by kernel_rfl) (fun _ _ _ h => h) (Or.inl ⟨by rfl, ?t2h4⟩) (by assumption) ?t2r4
      case t2h4 => (intro y hSu; (try dsimp only at hSu); go_simp; first | done | with_reducible rfl)
      (try simp only [Act.put, List.setIfInBounds_toArray, List.set_cons_zero, List.set_cons_succ])
      refine takeL (i := 5) (v := ?t2v5) (some 23) rfl rfl (by kernel_rfl) (by kernel_rfl) (by kernel_rfl) (by kernel_rfl) (by kernel_rfl) (fun _ _ _ h => h) (Or.inl ⟨by rfl, ?t2h5⟩) (by assumption) ?t2r5
      case t2h5 => (intro y hSu; (try dsimp only at hSu); go_simp; first | done | with_reducible rfl)
      (try simp only [Act.put, List.setIfInBounds_toArray, List.set_cons_zero, List.set_cons_succ])
      refine takeL (i := 6) (v := ?t2v6) (some 24) rfl rfl (by kernel_rfl) (by kernel_rfl) (by kernel_rfl) (by kernel_rfl) (by kernel_rfl) (fun _ _ _ h => h) (Or.inl ⟨by rfl, ?t2h6⟩) (by assumption) ?t2r6
      case t2h6 => (intro y hSu; (try dsimp only at hSu); go_simp; first | done | with_reducible rfl)
      (try simp only [Act.put, List.setIfInBounds_toArray, List.set_cons_zero, List.set_cons_succ])
      refine takeL (i := 7) (v := ?t2v7) (some 25) rfl rfl (by kernel_rfl) (by kernel_rfl) (by kernel_rfl) (by kernel_rfl) (by kernel_rfl) (fun _ _ _ h => h) (Or.inl ⟨by rfl, ?t2h7⟩) (by assumption) ?t2r7
      case t2h7 => (intro y hSu; (try dsimp only at hSu); go_simp; first | done | with_reducible rfl)
      (try simp only [Act.put, List.setIfInBounds_toArray, List.set_cons_zero, List.set_cons_succ])
      refine takeL (i := 8) (v := ?t2v8) (some 26) rfl rfl (by kernel_rfl) (by kernel_rfl) (by kernel_rfl) (by kernel_rfl) (by kernel_rfl) (fun _ _ _ h => h) (Or.inl ⟨by rfl, ?t2h8⟩) (by assumption) ?t2r8
      case t2h8 => (intro y hSu; (try dsimp only at hSu); go_simp; first | done | with_reducible rfl)
      (try simp only [Act.put, List.setIfInBounds_toArray, List.set_cons_zero, List.set_cons_succ])
      refine takeL (i := 9) (v := ?t2v9) (some 27) rfl rfl (by kernel_rfl) (by kernel_rfl) (by kernel_rfl) (by kernel_rfl) (by kernel_rfl) (fun _ _ _ h => h) (Or.inl ⟨by rfl, ?t2h9⟩) (by assumption) ?t2r9
      case t2h9 => (intro y hSu; (try dsimp only at hSu); go_simp; first | done | with_reducible rfl)
      (try simp only [Act.put, List.setIfInBounds_toArray, List.set_cons_zero, List.set_cons_succ])
      refine takeL (i := 10) (v := ?t2v10) (some 28) rfl rfl (by kernel_rfl) (by kernel_rfl) (by kernel_rfl) (by kernel_rfl) (by kernel_rfl) (fun _ _ _ h => h) (Or.inl ⟨by rfl, ?t2h10⟩) (by assumption) ?t2r10
      case t2h10 => (intro y hSu; (try dsimp only at hSu); go_simp; first | done | with_reducible rfl)
      (try simp only [Act.put, List.setIfInBounds_toArray, List.set_cons_zero, List.set_cons_succ])
      refine takeL (i := 11) (v := ?t2v11) (some 29) rfl rfl (by kernel_rfl) (by kernel_rfl) (by kernel_rfl) (by kernel_rfl) (by kernel_rfl) (fun _ _ _ h => h) (Or.inl ⟨by rfl, ?t2h11⟩) (by assumption) ?t2r11
      case t2h11 => (intro y hSu; (try dsimp only at hSu); go_simp; first | done | with_reducible rfl)
      (try simp only [Act.put, List.setIfInBounds_toArray, List.set_cons_zero, List.set_cons_succ])
      refine takeL (i := 12) (v := ?t2v12) (some 30) rfl rfl (by kernel_rfl) (by kernel_rfl) (by kernel_rfl) (by kernel_rfl) (by kernel_rfl) (fun _ _ _ h => h) (Or.inl ⟨by rfl, ?t2h12⟩) (by assumption) ?t2r12
      case t2h12 => (intro y hSu; (try dsimp only at hSu); go_simp; first | done | with_reducible rfl)
      (try simp only [Act.put, List.setIfInBounds_toArray, List.set_cons_zero, List.set_cons_succ])
      refine takeL (i := 13) (v := ?t2v13) (some 31) rfl rfl (by kernel_rfl) (by kernel_rfl) (by kernel_rfl) (by kernel_rfl) (by kernel_rfl) (fun _ _ _ h => h) (Or.inl ⟨by rfl, ?t2h13⟩) (by assumption) ?t2r13
      case t2h13 => (intro y hSu; (try dsimp only at hSu); go_simp; first | done | with_reducible rfl)
      (try simp only [Act.put, List.setIfInBounds_toArray, List.set_cons_zero, List.set_cons_succ])
      refine doneL (by kernel_rfl) ?_ _
      refine NoPanic.normal ?_
      clear hHeld k2 k0 d0' r1 z1
      go_wp2_with fail
      go_loopw [31, 5] (fun s31 s5 wr => ∃ (k : Nat) (a : Option Addr) (n c : Nat), s31 = .int .i64 k ∧ s5 = .slice a n c ∧ Hid (k ≤ xn ∧ ∃ all, n = all.length ∧ all[i]? = some x ∧ BRow w.heap.size wr (.slice a n c) all ∧ Below w.heap.size w wr ∧ L14.Bl E E' s T O v all i k)) (fun s31 _ _ => xn - (intOf s31).toNat)
      case atStart =>
        obtain ⟨all, g1, g2, g3, g4, g5⟩ := unhide HS
        exact ⟨0, _, _, _, rfl, rfl, Nat.zero_le _, all, g1, g2, brow_kept g3 (fun b e => rfl), below_drewN g4 1, g5⟩
      case round =>
        clear HS
        obtain ⟨k, a2, n2, c2, rfl, rfl, HI⟩ := hrel
        obtain ⟨i0, all, i1, hx, i2, i3, i5⟩ := unhide HI
        obtain ⟨hG, hB, hN, hs, hm⟩ := unhide HG
        obtain ⟨hin, hlen⟩ := Bl_len hs hm hB.rt i5
        obtain ⟨m1, m2, m3, m4⟩ := unhide HN
        by_cases hlt : k < xn
        · obtain ⟨e, he⟩ : ∃ e, (O x)[k]? = some e := ⟨_, List.getElem?_eq_getElem (by omega)⟩
          obtain ⟨y, cy, hE⟩ := (hG.out x e).1 (List.mem_of_getElem? he)
          have hL := unhide HL wr i3
          have r0 := hL.readE hG hE
          obtain ⟨by_, ov, iv, r1, r2, r3, r4, -, -⟩ := hL.read hG (hG.ed _ _ _ _ hE).2.2
          obtain ⟨-, -, -, -, d4, -⟩ := cellsSp r4
          have d4' : wr.cell? ⟨by_, 4, none⟩ = some (.int .i64 (L14.lst T y)) := d4
          have hrw := unhide HROW wr i3
          obtain ⟨gx, rfl⟩ := brow_some hrw (by omega)
          have kk := brow_at hrw he
          obtain ⟨k1, hk1⟩ : ∃ k1, k1 = k + 1 := ⟨_, rfl⟩
          have zk : Hid (wrap64 ((k : Int) + 1) = (k1 : Int)) := by show wrap64 ((k : Int) + 1) = (k1 : Int); unfold wrap64; omega
          have z1 : (k : Int) < (xn : Int) := by omega
          have HJ : Hid (k1 = k + 1 ∧ k1 ≤ xn ∧ xn - k1 < xn - k) := ⟨hk1, by omega, by omega⟩
          by_cases hle : L14.lst T y = e
          · obtain ⟨p1, p2⟩ := i5.push hB.rt hB.hE hB.no (fun u => rise_nodup (hG.ro u)) hB.e0 hx he hE hle
            obtain ⟨a', n', c', w', r, g1, g2, -⟩ := run_app8 y i2 i3.size (by have := (unhide HM).2; have := (unhide HM).1; omega)
            have HR := hide r
            have HQ : Hid (∃ all, n' = all.length ∧ all[i]? = some x ∧ BRow w.heap.size w' (.slice a' n' c') all ∧ Below w.heap.size w w' ∧ L14.Bl E E' s T O v all i k1) := by
              have e := brow_shape g1
              obtain ⟨_, _, e, -⟩ := e
              injection e with _ e1 _
              exact ⟨all ++ [y], e1, by rw [List.getElem?_append_left (List.getElem?_eq_some_iff.1 hx).1]; exact hx, g1, i3.trans (g2.below i3.size (fun b e => (i2.lt b e).1)), by rw [hk1]; exact p2⟩
            have z2 : (L14.lst T y == e) = true := by simpa using hle
            generalize L14.lst T y = ly at *
            clear HI i0 i1 hx i2 i3 i5 hG hB hN hs hm hin hlen m1 m2 m3 m4 hlt he hE hL r4 d4 hrw hk1 hle p1 p2 g1 g2 r
            go_wp2_with (at_builtin; refine Lib.wpList_append_run _ rfl _ _ 25 25 rfl _ _ rfl rfl _ _ (unhide HR _) ?_)
            (try rw [unhide zk])
            exact ⟨⟨k1, _, _, _, rfl, rfl, (unhide HJ).2.1, unhide HQ⟩, by have := unhide HJ; simp [intOf]; omega⟩
          · have HQ : Hid (∃ all, n2 = all.length ∧ all[i]? = some x ∧ BRow w.heap.size wr (.slice a2 n2 c2) all ∧ Below w.heap.size w wr ∧ L14.Bl E E' s T O v all i k1) := ⟨all, i1, hx, i2, i3, by rw [hk1]; exact i5.skip hx he hE hle⟩
            have z2 : (L14.lst T y == e) = false := by simpa using hle
            generalize L14.lst T y = ly at *
            clear HI i0 i1 hx i2 i3 i5 hG hB hN hs hm hin hlen m1 m2 m3 m4 hlt he hE hL r4 d4 hrw hk1 hle
            go_wp2_with fail
            (try rw [unhide zk])
            exact ⟨⟨k1, _, _, _, rfl, rfl, (unhide HJ).2.1, unhide HQ⟩, by have := unhide HJ; simp [intOf]; omega⟩
        · obtain ⟨j, hj⟩ : ∃ j, j = i + 1 := ⟨_, rfl⟩
          have zk : Hid (wrap64 ((i : Int) + 1) = (j : Int)) := by show wrap64 ((i : Int) + 1) = (j : Int); have := (unhide HM).2; unfold wrap64; omega
          have HQ : Hid (j = i + 1 ∧ i ≤ M ∧ ∃ all, n2 = all.length ∧ BRow w.heap.size wr (.slice a2 n2 c2) all ∧ Below w.heap.size w wr ∧ L14.Bl E E' s T O v all j 0 ∧ j ≤ n2) := ⟨hj, m3, all, i1, i2, i3, by rw [hj]; exact i5.next hx (by omega), by have := (List.getElem?_eq_some_iff.1 hx).1; omega⟩
          have z1 : ¬ (k : Int) < (xn : Int) := by omega
          clear HI i0 i1 hx i2 i3 i5 hG hB hN hs hm hin hlen m1 m2 m3 m4 hlt hj
          go_wp2_with fail
          (try rw [unhide zk])
          exact ⟨⟨j, _, _, _, rfl, rfl, (unhide HQ).2.2⟩, by have := unhide HQ; simp [intOf]; omega⟩
    · have hin2 : i = n := by omega
      have HE : Hid (BelA E E' s T O v w (.slice a n c) wr) := ⟨all, i1, i2, by rw [← i0, ← hin2]; exact i3⟩
      have z1 : ¬ (i : Int) < (n : Int) := by omega
      clear HI i0 i1 i2 i3 i4 hG hB hN hs hm hin hlen hMM hlt hin2
      go_wp2_with fail
      go_ret
      exact ⟨_, _, _, rfl, HE⟩
end
end Go.Proofs.Ytbmcibofecigeaa
