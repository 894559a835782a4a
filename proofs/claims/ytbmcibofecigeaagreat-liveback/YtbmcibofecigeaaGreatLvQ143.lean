/- Dists, New. -/
import Derived.Test.YtbmcibofecigeaaGreatLvQ14
namespace Go.Proofs.YtbmcibofecigeaaGreat

section
open Go.RowKit Go.Maps
attribute [local go_sem] run_storeF run_fieldE0 run_fieldE1
/-- The vertices on the way back. -/
def onc (E : L14.Es) : Int → List Int → List Int
  | v, [] => [v]
  | v, e :: l => v :: (match E e with
    | some (u, _, _) => onc E u l
    | none => [])
theorem onc_len {E : L14.Es} {s : Int} {T : L14.Tr} : ∀ {l : List Int} {v : Int}, L14.Chain E s T v l → (onc E v l).length = l.length + 1
  | [], v, _ => rfl
  | e :: l, v, ⟨_, _, u, c, h3, _, h5⟩ => by
    unfold onc
    rw [h3]
    simp only [List.length_cons, onc_len h5]
theorem onc_mem {E : L14.Es} {s : Int} {T : L14.Tr} : ∀ {l : List Int} {v : Int}, L14.fnd T v = true → L14.Chain E s T v l → ∀ z ∈ onc E v l, L14.fnd T z = true ∧ ∃ l', L14.Chain E s T z l' ∧ l'.length ≤ l.length
  | [], v, hv, hc, z, hz => by
    have e : z = v := by simpa [onc] using hz
    rw [e]; exact ⟨hv, [], hc, Nat.le_refl _⟩
  | e :: l, v, hv, ⟨h1, h2, u, c, h3, h4, h5⟩, z, hz => by
    unfold onc at hz
    rw [h3] at hz
    rcases List.mem_cons.1 hz with q | q
    · rw [q]; exact ⟨hv, e :: l, ⟨h1, h2, u, c, h3, h4, h5⟩, Nat.le_refl _⟩
    · obtain ⟨a, l', b1, b2⟩ := onc_mem h4 h5 z q
      exact ⟨a, l', b1, by rw [List.length_cons]; omega⟩
theorem onc_nodup {E : L14.Es} {s : Int} {T : L14.Tr} : ∀ {l : List Int} {v : Int}, L14.fnd T v = true → L14.Chain E s T v l → (onc E v l).Nodup
  | [], v, _, _ => by simp [onc]
  | e :: l, v, hv, ⟨h1, h2, u, c, h3, h4, h5⟩ => by
    unfold onc
    rw [h3]
    refine List.nodup_cons.2 ⟨fun hm => ?_, onc_nodup h4 h5⟩
    obtain ⟨-, l', b1, b2⟩ := onc_mem h4 h5 v hm
    have := L14.chain_one b1 (show L14.Chain E s T v (e :: l) from ⟨h1, h2, u, c, h3, h4, h5⟩)
    rw [this, List.length_cons] at b2
    omega
section
variable {L : Lab} {w : World} {p mv me : Nat} {s tc : Int} {V : Int → Option Nat} {nv : Nat} {E : L14.Es} {ne : Nat} {T : L14.Tr} {O I : Int → List Int} {vs : List Int} {N : Nat}
theorem chain_le (hR : L14.Right E s T) (hG : GL V E O I vs N) (hs : s ∈ vs) {v : Int} {l : List Int} (hv : L14.fnd T v = true) (hc : L14.Chain E s T v l) : l.length + 1 ≤ vs.length := by
  rw [← onc_len hc]
  exact sub_len (onc_nodup hv hc) (fun z hz => found_in hR hG hs (onc_mem hv hc z hz).1)
/-- slices.Reverse. -/
theorem revL (B : Nat) (v : Value) (ks : List Int) (w : World) (hl : ks.length ≤ 1000000) (h : BRow B w v ks) :
    Calls Tryz.prog 54 #[v] w fun e w' => e = .returned (.tuple #[]) ∧ Hid (BRow B w' v ks.reverse ∧ Turned (fun b => v.ownBlock = some b) w w') := by
  have hb := h
  rcases h.2 with ⟨rfl, h0⟩ | ⟨g, cap, cur, rfl, hB, hg, hcap, hmx, hsz, htk⟩
  · obtain rfl : ks = [] := List.length_eq_zero_iff.1 h0
    refine (Any.slices_Reverse_int_empty Tryz.lays112 none 0 w).mono ?_
    rintro e w' ⟨rfl, rfl⟩
    exact ⟨rfl, hb, Turned.refl _ _⟩
  · refine (Any.slices_Reverse_int_cells Tryz.lays112 g 0 ks.length cap ks w (Nat.le_refl _) (by omega) (fun j hj => ?_) (fun j hj => ?_)).mono ?_
    · rw [Nat.zero_add, brow_at hb (List.getElem?_eq_getElem hj), List.getD_eq_getElem?_getD, List.getElem?_eq_getElem hj]; rfl
    · exact (brow_set hb 0 hj).1 _
    · rintro e w' ⟨rfl, q, rfl⟩
      rw [List.take_of_length_le (Nat.le_refl _)]
      have hlen : (ks.reverse.map (Value.int .i64)).length = ks.length := by simp
      have hs1 : cur.size = cap := by omega
      have hM := setM_list (ks.reverse.map (Value.int .i64)) 0 cur (by rw [hlen]; omega)
      refine ⟨rfl, ⟨by simp, .inr ⟨g, cap, setM cur 0 (ks.reverse.map (Value.int .i64)), by rw [List.length_reverse], hB, setCells_heap g _ 0 (w.drewN q) cur hg, by rw [List.length_reverse]; exact hcap, hmx, by rw [setM_size]; exact hsz, ?_⟩⟩, (Turned.refl _ _).drewN q |>.trans (setCells_turned (S := fun b => (Value.slice (some ⟨g, 0, none⟩) ks.length cap).ownBlock = some b) g (show _ = _ from rfl) _ 0 _)⟩
      rw [hM, List.take_zero, List.nil_append, List.length_reverse, Nat.mul_one, List.take_left' hlen]
/-- What Path answers. -/
def PathL (w : World) (E : L14.Es) (s : Int) (T : L14.Tr) (V : Int → Option Nat) (v : Int) (x : Value) (w' : World) : Prop :=
  Below w.heap.size w w' ∧ (askL V T v ≠ 0 → x = .slice none 0 0) ∧ (askL V T v = 0 → ∃ l, L14.Chain E s T v l ∧ BRow w.heap.size w' x l.reverse ∧ l.length ≤ 1000)
set_option maxHeartbeats 4000000 in
set_option maxRecDepth 100000 in
theorem vPathLT (h : LvAt L w p mv me s tc V nv E ne T O I) (hG : GL V E O I vs N) (hR : L14.Right E s T) (hs : s ∈ vs) (hN : N ≤ 200) {v : Int} (hv : okN v) :
    Calls Tryz.prog 22 #[.pointer (some ⟨p, 0, none⟩), .int .i64 v] w fun e w' => ∃ a n c, e = .returned (.tuple #[.slice a n c, .int .i64 (askL V T v)]) ∧ Hid (PathL w E s T V v (.slice a n c) w') := by
  have C1 := hide (vreachedT h hv)
  by_cases ha : askL V T v = 0
  · obtain ⟨b0, hV, hf⟩ := askL_ok ha
    rw [if_pos ha, ha, hV] at C1
    have C1' : Hid (Calls Tryz.prog 53 #[.pointer (some ⟨p, 0, none⟩), .int .i64 v] w fun e w' => e = .returned (.tuple #[.pointer (some ⟨b0, 0, none⟩), .int .i64 0]) ∧ w' = w) := C1
    rw [ha]
    obtain ⟨l0, hl0⟩ := hR.chn v hf
    have hlen := chain_le hR hG hs hf hl0
    have hvl := hG.vl
    have HL : Hid (∀ W, Below w.heap.size w W → LvAt L W p mv me s tc V nv E ne T O I) := fun W hW => h.below hW
    have HG : Hid (GL V E O I vs N ∧ L14.Right E s T ∧ s ∈ vs ∧ N ≤ 200 ∧ askL V T v = 0 ∧ L14.Chain E s T v l0 ∧ l0.length ≤ 200) := ⟨hG, hR, hs, hN, ha, hl0, by omega⟩
    have HS : Hid (∃ u l l2, V u = some b0 ∧ L14.fnd T u = true ∧ L14.Chain E s T u l2 ∧ l2.length = l0.length ∧ l0 = l ++ l2 ∧ BRow w.heap.size w (.slice none 0 0) l ∧ Below w.heap.size w w) := ⟨v, [], l0, hV, hf, hl0, rfl, rfl, ⟨rfl, .inl ⟨rfl, rfl⟩⟩, Below.refl _ _⟩
    clear h hG hR hs hN hv C1 ha hV hf hl0 hlen hvl
    go_enter Tryz.func22, Tryz.ntmps22
    go_wp2_with fail
    refine (unhide C1').mono ?_
    rintro e w1 ⟨rfl, hw⟩
    rw [hw]
    clear C1' hw w1
    go_wp2_with fail
    go_loopg [6, 8] l0.length (fun g s6 s8 wr => ∃ (b : Nat) (y : Option Addr) (yn yc g0 : Nat), s6 = .pointer (some ⟨b, 0, none⟩) ∧ s8 = .slice y yn yc ∧ Hid (g0 = g ∧ ∃ u l l2, V u = some b ∧ L14.fnd T u = true ∧ L14.Chain E s T u l2 ∧ l2.length = g0 ∧ l0 = l ++ l2 ∧ BRow w.heap.size wr (.slice y yn yc) l ∧ Below w.heap.size w wr))
    case atStart => exact ⟨b0, none, 0, 0, _, rfl, rfl, rfl, unhide HS⟩
    case round =>
      clear HS
      obtain ⟨b, y, yn, yc, g0, rfl, rfl, HI⟩ := hrel
      obtain ⟨hg, u, l, l2, i1, i2, i3, i4, i5, i6, i7⟩ := unhide HI
      obtain ⟨hG, hR, hs, hN, ha, -, hl0⟩ := unhide HG
      have hL := unhide HL wr i7
      have hL2 := unhide HL
      obtain ⟨_, _, s1, -⟩ := hL.sp u b i1
      obtain ⟨-, -, -, -, k4, -⟩ := cellsSp s1
      have k4' : wr.cell? ⟨b, 4, none⟩ = some (.int .i64 (L14.lst T u)) := k4
      have hll : l.length ≤ 200 := by have := congrArg List.length i5; rw [List.length_append] at this; omega
      have HGG := hide hg
      cases l2 with
      | nil =>
        have hus : u = s := i3
        have h0 : L14.lst T u = 0 := by rw [hus]; exact hR.src.2.2
        rw [h0] at k4'
        rw [List.append_nil] at i5
        have C2 := hide (revL w.heap.size _ l wr (by omega) i6)
        have HB : Hid (l0 = l ∧ Below w.heap.size w wr ∧ ∀ b, (Value.slice y yn yc).ownBlock = some b → w.heap.size ≤ b) := ⟨i5, i7, fun b e => (i6.lt b e).1⟩
        clear HI hg i1 i2 i3 i4 i5 i6 i7 hG hR hs hN ha hl0 hL hL2 s1 k4 hll hus h0
        go_wp2_with fail
        refine (unhide C2).mono ?_
        rintro e w2 ⟨rfl, H2⟩
        have HE : Hid (PathL w E s T V v (.slice y yn yc) w2) := by
          obtain ⟨r1, r2⟩ := unhide H2
          obtain ⟨t1, t2, t3⟩ := unhide HB
          obtain ⟨-, -, -, -, ha, hc, hl0⟩ := unhide HG
          exact ⟨t2.trans (r2.below t2.size t3), fun z => absurd ha z, fun _ => ⟨l0, hc, by rw [t1]; exact r1, by omega⟩⟩
        clear C2 H2 HB k4'
        go_wp2_with fail
        go_ret2
        exact ⟨_, _, _, rfl, HE⟩
      | cons e l3 =>
        obtain ⟨h1, h2, u2, c2, h3, h4, h5⟩ := i3
        obtain ⟨oe, hu2, -⟩ := hG.ed _ _ _ _ h3
        obtain ⟨b2, hb2⟩ := hG.at_ hu2
        have hez : L14.lst T u ≠ 0 := fun z => by rw [h2, z, hR.pos] at h3; cases h3
        rw [← h2] at k4' hez
        obtain ⟨a', n', c', w', r, g1, g2, -⟩ := run_app8 e i6 i7.size (by omega)
        have HR := hide r
        have hb' : Below w.heap.size w w' := i7.trans (g2.below i7.size (fun b q => (i6.lt b q).1))
        have hLw := hL2 w' hb'
        have hLd := hL2 w'.drew (below_drewN hb' 1)
        obtain ⟨_, _, s3, -⟩ := hLw.sp u b i1
        obtain ⟨-, -, -, -, q4, -⟩ := cellsSp s3
        have q4' : w'.cell? ⟨b, 4, none⟩ = some (.int .i64 e) := by rw [h2]; exact q4
        obtain ⟨-, q1, q2, -, -⟩ := cellsL hLw.box
        have q5 := hLd.readE hG h3
        have q6 := hLd.lookV (hG.okV u2 hu2)
        rw [hb2] at q6
        have q6' : (Instr.lookup 75 (.map (some mv)) (.int .i64 u2) false).run Tryz.prog w'.drew = .ok (.pointer (some ⟨b2, 0, none⟩)) w'.drew := q6
        obtain ⟨g1', hg1⟩ : ∃ g1', g1' = l3.length := ⟨_, rfl⟩
        have HJ : Hid (g1' < g0 ∧ ∃ u l l2, V u = some b2 ∧ L14.fnd T u = true ∧ L14.Chain E s T u l2 ∧ l2.length = g1' ∧ l0 = l ++ l2 ∧ BRow w.heap.size w'.drew (.slice a' n' c') l ∧ Below w.heap.size w w'.drew) := by
          refine ⟨by rw [← i4, hg1, List.length_cons]; omega, u2, l ++ [e], l3, hb2, h4, h5, hg1.symm, by rw [List.append_assoc]; exact i5, brow_kept g1 (fun _ _ => rfl), below_drewN hb' 1⟩
        have z0 : (e != 0) = true := by rw [h2] at hez ⊢; simpa using hez
        clear HI hg i1 i2 i4 i5 i6 i7 hG hR hs hN ha hl0 hL hL2 s1 k4 hll h1 h2 h3 h4 h5 oe hu2 hb2 hez g1 g2 r hb' hLw hLd s3 q4 q6 hg1
        go_upto_region 7 with (at_builtin; refine Lib.wpList_append_run _ rfl _ _ 24 24 rfl _ _ rfl rfl _ _ (unhide HR _) ?_)
        refine wp_region_noPanic ?_
        refine regionL [] (fun y => y.cell? ⟨p, 1, none⟩ = some (.map (some mv)) ∧ y.cell? ⟨p, 2, none⟩ = some (.map (some me)) ∧ y.cell? ⟨b, 4, none⟩ = some (.int .i64 e) ∧ (Instr.lookup 76 (.map (some me)) (.int .i64 e) false).run Tryz.prog y = .ok (.agg #[.int .i64 u2, .int .i64 u, .float .f32 c2]) y ∧ (Instr.lookup 75 (.map (some mv)) (.int .i64 u2) false).run Tryz.prog y = .ok (.pointer (some ⟨b2, 0, none⟩)) y) (by kernel_rfl) ⟨q1, q2, q4', q5, q6'⟩ (fun hHeld => ?_)
        refine takeL (i := 0) (v := ?t2v0) (some 30) rfl rfl (by kernel_rfl) (by kernel_rfl) (by kernel_rfl) (by kernel_rfl) (by kernel_rfl) (fun _ _ _ h => h) (Or.inl ⟨by rfl, ?t2h0⟩) (by assumption) ?t2r0
        case t2h0 => (intro y hSu; (try dsimp only at hSu); go_simp; first | done | with_reducible rfl)
        (try simp only [Act.put, List.setIfInBounds_toArray, List.set_cons_zero, List.set_cons_succ])
        refine takeL (i := 1) (v := ?t2v1) (some 31) rfl rfl (by kernel_rfl) (by kernel_rfl) (by kernel_rfl) (by kernel_rfl) (by kernel_rfl) (fun _ _ _ h => h) (Or.inl ⟨by rfl, ?t2h1⟩) (by assumption) ?t2r1
        case t2h1 => (intro y hSu; (try dsimp only at hSu); go_simp; first | done | with_reducible rfl)
        (try simp only [Act.put, List.setIfInBounds_toArray, List.set_cons_zero, List.set_cons_succ])
        refine takeL (i := 2) (v := ?t2v2) (some 32) rfl rfl (by kernel_rfl) (by kernel_rfl) (by kernel_rfl) (by kernel_rfl) (by kernel_rfl) (fun _ _ _ h => h) (Or.inl ⟨by rfl, ?t2h2⟩) (by assumption) ?t2r2
        case t2h2 => (intro y hSu; (try dsimp only at hSu); go_simp; first | done | with_reducible rfl)
        (try simp only [Act.put, List.setIfInBounds_toArray, List.set_cons_zero, List.set_cons_succ])
        refine takeL (i := 3) (v := ?t2v3) (some 33) rfl rfl (by kernel_rfl) (by kernel_rfl) (by kernel_rfl) (by kernel_rfl) (by kernel_rfl) (fun _ _ _ h => h) (Or.inl ⟨by rfl, ?t2h3⟩) (by assumption) ?t2r3
        case t2h3 => (intro y hSu; (try dsimp only at hSu); go_simp; first | done | with_reducible rfl)
        (try simp only [Act.put, List.setIfInBounds_toArray, List.set_cons_zero, List.set_cons_succ])
        refine takeL (i := 4) (v := ?t2v4) (some 34) rfl rfl (by kernel_rfl) (by kernel_rfl) (by kernel_rfl) (by kernel_rfl) (by kernel_rfl) (fun _ _ _ h => h) (Or.inl ⟨by rfl, ?t2h4⟩) (by assumption) ?t2r4
        case t2h4 => (intro y hSu; (try dsimp only at hSu); go_simp; first | done | with_reducible rfl)
        (try simp only [Act.put, List.setIfInBounds_toArray, List.set_cons_zero, List.set_cons_succ])
        refine takeL (i := 5) (v := ?t2v5) (some 35) rfl rfl (by kernel_rfl) (by kernel_rfl) (by kernel_rfl) (by kernel_rfl) (by kernel_rfl) (fun _ _ _ h => h) (Or.inl ⟨by rfl, ?t2h5⟩) (by assumption) ?t2r5
        case t2h5 => (intro y hSu; (try dsimp only at hSu); go_simp; first | done | with_reducible rfl)
        (try simp only [Act.put, List.setIfInBounds_toArray, List.set_cons_zero, List.set_cons_succ])
        refine takeL (i := 6) (v := ?t2v6) (some 36) rfl rfl (by kernel_rfl) (by kernel_rfl) (by kernel_rfl) (by kernel_rfl) (by kernel_rfl) (fun _ _ _ h => h) (Or.inl ⟨by rfl, ?t2h6⟩) (by assumption) ?t2r6
        case t2h6 => (intro y hSu; (try dsimp only at hSu); go_simp; first | done | with_reducible rfl)
        (try simp only [Act.put, List.setIfInBounds_toArray, List.set_cons_zero, List.set_cons_succ])
        refine takeL (i := 7) (v := ?t2v7) (some 37) rfl rfl (by kernel_rfl) (by kernel_rfl) (by kernel_rfl) (by kernel_rfl) (by kernel_rfl) (fun _ _ _ h => h) (Or.inl ⟨by rfl, ?t2h7⟩) (by assumption) ?t2r7
        case t2h7 => (intro y hSu; (try dsimp only at hSu); go_simp; first | done | with_reducible rfl)
        (try simp only [Act.put, List.setIfInBounds_toArray, List.set_cons_zero, List.set_cons_succ])
        refine takeL (i := 8) (v := ?t2v8) (some 38) rfl rfl (by kernel_rfl) (by kernel_rfl) (by kernel_rfl) (by kernel_rfl) (by kernel_rfl) (fun _ _ _ h => h) (Or.inl ⟨by rfl, ?t2h8⟩) (by assumption) ?t2r8
        case t2h8 => (intro y hSu; (try dsimp only at hSu); go_simp; first | done | with_reducible rfl)
        (try simp only [Act.put, List.setIfInBounds_toArray, List.set_cons_zero, List.set_cons_succ])
        refine takeL (i := 9) (v := ?t2v9) (some 39) rfl rfl (by kernel_rfl) (by kernel_rfl) (by kernel_rfl) (by kernel_rfl) (by kernel_rfl) (fun _ _ _ h => h) (Or.inl ⟨by rfl, ?t2h9⟩) (by assumption) ?t2r9
        case t2h9 => (intro y hSu; (try dsimp only at hSu); go_simp; first | done | with_reducible rfl)
        (try simp only [Act.put, List.setIfInBounds_toArray, List.set_cons_zero, List.set_cons_succ])
        refine takeL (i := 10) (v := ?t2v10) (some 40) rfl rfl (by kernel_rfl) (by kernel_rfl) (by kernel_rfl) (by kernel_rfl) (by kernel_rfl) (fun _ _ _ h => h) (Or.inl ⟨by rfl, ?t2h10⟩) (by assumption) ?t2r10
        case t2h10 => (intro y hSu; (try dsimp only at hSu); go_simp; first | done | with_reducible rfl)
        (try simp only [Act.put, List.setIfInBounds_toArray, List.set_cons_zero, List.set_cons_succ])
        refine takeL (i := 11) (v := ?t2v11) (some 41) rfl rfl (by kernel_rfl) (by kernel_rfl) (by kernel_rfl) (by kernel_rfl) (by kernel_rfl) (fun _ _ _ h => h) (Or.inl ⟨by rfl, ?t2h11⟩) (by assumption) ?t2r11
        case t2h11 => (intro y hSu; (try dsimp only at hSu); go_simp; first | done | with_reducible rfl)
        (try simp only [Act.put, List.setIfInBounds_toArray, List.set_cons_zero, List.set_cons_succ])
        refine takeL (i := 12) (v := ?t2v12) (some 42) rfl rfl (by kernel_rfl) (by kernel_rfl) (by kernel_rfl) (by kernel_rfl) (by kernel_rfl) (fun _ _ _ h => h) (Or.inl ⟨by rfl, ?t2h12⟩) (by assumption) ?t2r12
        case t2h12 => (intro y hSu; (try dsimp only at hSu); go_simp; first | done | with_reducible rfl)
        (try simp only [Act.put, List.setIfInBounds_toArray, List.set_cons_zero, List.set_cons_succ])
        refine takeL (i := 13) (v := ?t2v13) (some 43) rfl rfl (by kernel_rfl) (by kernel_rfl) (by kernel_rfl) (by kernel_rfl) (by kernel_rfl) (fun _ _ _ h => h) (Or.inl ⟨by rfl, ?t2h13⟩) (by assumption) ?t2r13
        case t2h13 => (intro y hSu; (try dsimp only at hSu); go_simp; first | done | with_reducible rfl)
        (try simp only [Act.put, List.setIfInBounds_toArray, List.set_cons_zero, List.set_cons_succ])
        refine takeL (i := 14) (v := ?t2v14) (some 44) rfl rfl (by kernel_rfl) (by kernel_rfl) (by kernel_rfl) (by kernel_rfl) (by kernel_rfl) (fun _ _ _ h => h) (Or.inl ⟨by rfl, ?t2h14⟩) (by assumption) ?t2r14
        case t2h14 => (intro y hSu; (try dsimp only at hSu); go_simp; first | done | with_reducible rfl)
        (try simp only [Act.put, List.setIfInBounds_toArray, List.set_cons_zero, List.set_cons_succ])
        refine takeL (i := 15) (v := ?t2v15) (some 6) rfl rfl (by kernel_rfl) (by kernel_rfl) (by kernel_rfl) (by kernel_rfl) (by kernel_rfl) (fun _ _ _ h => h) (Or.inl ⟨by rfl, ?t2h15⟩) (by assumption) ?t2r15
        case t2h15 => (intro y hSu; (try dsimp only at hSu); go_simp; first | done | with_reducible rfl)
        (try simp only [Act.put, List.setIfInBounds_toArray, List.set_cons_zero, List.set_cons_succ])
        refine doneL (by kernel_rfl) ?_ _
        refine NoPanic.normal ?_
        clear hHeld k4' q1 q2 q4' q5 q6' z0 HR
        go_wp2_with fail
        go_roundg g1'
        case measure => have h1 := unhide HGG; have h2 := (unhide HJ).1; omega
        case rel => exact ⟨b2, a', n', c', g1', rfl, rfl, rfl, (unhide HJ).2⟩
  · rw [if_neg ha] at C1
    have C1' : Hid (Calls Tryz.prog 53 #[.pointer (some ⟨p, 0, none⟩), .int .i64 v] w fun e w' => e = .returned (.tuple #[.pointer none, .int .i64 (askL V T v)]) ∧ w' = w) := C1
    have HE : Hid (PathL w E s T V v (.slice none 0 0) w) := ⟨Below.refl _ _, fun _ => rfl, fun z => absurd z ha⟩
    generalize askL V T v = r at *
    have z0 : (r != 0) = true := by simpa using ha
    clear h hG hR hs hN hv C1 ha
    go_enter Tryz.func22, Tryz.ntmps22
    go_wp2_with fail
    refine (unhide C1').mono ?_
    rintro e w1 ⟨rfl, hw⟩
    rw [hw]
    clear C1' hw w1
    go_wp2_with fail
    go_ret2
    exact ⟨_, _, _, rfl, HE⟩
end
end

section
open Go.RowKit Go.Maps
attribute [local go_sem] run_storeF run_fieldE0 run_fieldE1
section
variable {L : Lab} {w : World} {p mv me : Nat} {s tc : Int} {V : Int → Option Nat} {nv : Nat} {E : L14.Es} {ne : Nat} {T : L14.Tr} {O I : Int → List Int} {vs : List Int} {N : Nat}
def DisL (w : World) (ds : List DiV) (v : Value) (w' : World) : Prop := DRow w.heap.size w' v ds ∧ Below w.heap.size w w'
theorem dsL_snoc {ys : List Int} {i : Nat} {v : Int} (h : ys[i]? = some v) : dsL (ys.take (i + 1)) T = dsL (ys.take i) T ++ [(v, !L14.fnd T v, L14.cst T v, L14.lst T v)] := by
  unfold dsL
  rw [List.take_add_one, h]; simp
set_option maxHeartbeats 4000000 in
set_option maxRecDepth 100000 in
theorem vDistsLT (h : LvAt L w p mv me s tc V nv E ne T O I) (hG : GL V E O I vs N) (hc : ∀ v, L14.cst T v ≤ 2139095040) (hr : Rising ltN vs) (hn : nv ≤ 1000) (hN : N ≤ 200) :
    Calls Tryz.prog 14 #[.pointer (some ⟨p, 0, none⟩)] w fun e w' => ∃ a n c, e = .returned (.slice a n c) ∧ Hid (DisL w (dsL vs T) (.slice a n c) w') := by
  have C1 := hide (vrisingT h hG (by omega))
  have HL : Hid (∀ W, Below w.heap.size w W → LvAt L W p mv me s tc V nv E ne T O I) := fun W hW => h.below hW
  have HG : Hid (GL V E O I vs N ∧ Rising ltN vs ∧ N ≤ 200 ∧ ∀ v, L14.cst T v ≤ 2139095040) := ⟨hG, hr, hN, hc⟩
  clear h hG hr hn hN hc
  go_enter Tryz.func14, Tryz.ntmps14
  go_wp2_with fail
  refine (unhide C1).mono ?_
  rintro e w1 ⟨a, n, c, rfl, H1⟩
  obtain ⟨ys, r1, r2, r3, r4⟩ := unhide H1
  have hys := ris_eq r2 r3 (unhide HG).2.1
  subst hys
  have hn : n = ys.length := by obtain ⟨_, _, e, -⟩ := brow_shape r1; injection e
  have HY : Hid (n = ys.length ∧ n ≤ 200 ∧ Below w.heap.size w w1 ∧ ∀ W, Below w1.heap.size w1 W → NRow W (.slice a n c) ys) := ⟨hn, by rw [hn]; have := (unhide HG).1.vl; have := (unhide HG).2.2.1; omega, r4, fun W hW => nrow_kept (brow_at0 r1) (fun b e => hW.block b (r1.lt b e).2)⟩
  clear C1 H1 r1 r2 r3 r4 hn
  go_wp2_with fail
  go_loopw [10, 3] (fun s10 s3 wr => ∃ (i : Nat) (y : Option Addr) (yn yc : Nat), s10 = .int .i64 i ∧ s3 = .slice y yn yc ∧ Hid (i ≤ n ∧ DRow w1.heap.size wr (.slice y yn yc) (dsL (ys.take i) T) ∧ Below w1.heap.size w1 wr)) (fun s10 _ _ => n - (intOf s10).toNat)
  case atStart => exact ⟨0, none, 0, 0, rfl, rfl, Nat.zero_le _, ⟨rfl, .inl ⟨rfl, rfl⟩⟩, Below.refl _ _⟩
  case round =>
    obtain ⟨i, y, yn, yc, rfl, rfl, HI⟩ := hrel
    obtain ⟨i1, i2, i3⟩ := unhide HI
    obtain ⟨h1, h2, h3, h4⟩ := unhide HY
    by_cases hlt : i < n
    · obtain ⟨v, hv⟩ : ∃ v, ys[i]? = some v := ⟨_, List.getElem?_eq_getElem (by omega)⟩
      have hrow := h4 wr i3
      obtain ⟨g, rfl⟩ := brow_some hrow (by omega)
      have kk := brow_at hrow hv
      have hBw : Below w.heap.size w wr := h3.trans (i3.mono h3.size)
      obtain ⟨b, ov, iv, hR2⟩ := (unhide HL w (Below.refl _ _)).read2 (unhide HG).1 (List.mem_of_getElem? hv)
      obtain ⟨r1, r2, -, r4, -, -⟩ := hR2 wr hBw
      have cel : ∀ W, Below w.heap.size w W → W.cell? ⟨b, 2, none⟩ = some (.bool (L14.fnd T v)) ∧ W.cell? ⟨b, 3, none⟩ = some (.float .f32 (L14.cst T v)) ∧ W.cell? ⟨b, 4, none⟩ = some (.int .i64 (L14.lst T v)) := fun W hW => by
        obtain ⟨-, -, d2, d3, d4, -⟩ := cellsSp (hR2 W hW).2.2.2.1
        exact ⟨d2, d3, d4⟩
      have c0 := cel wr hBw
      have CB := hide (bits_nat ((unhide HG).2.2.2 v))
      obtain ⟨j, hj⟩ : ∃ j, j = i + 1 := ⟨_, rfl⟩
      have z1 : (i : Int) < (n : Int) := by omega
      have HJ : Hid (j = i + 1 ∧ j ≤ n ∧ n - j < n - i) := ⟨hj, by omega, by omega⟩
      have hsn := dsL_snoc (T := T) hv
      rw [← hj] at hsn
      have hln : (dsL (ys.take i) T).length < 1000000 := by unfold dsL; rw [List.length_map, List.length_take]; omega
      have i2' : DRow w1.heap.size wr.drew (.slice y yn yc) (dsL (ys.take i) T) := rrow_kept i2 (fun _ _ => rfl)
      have i3d := below_drewN i3 1
      obtain ⟨a', n', c', w8, r, g1, g2, -⟩ := run_app1 (ts := 43) kitD Tryz.underlying43 infoD rfl (by omega) (v, !L14.fnd T v, L14.cst T v, L14.lst T v) (cs := #[.int .i64 v, .bool (!L14.fnd T v), .int .u32 (L14.cst T v : Nat), .int .i64 (L14.lst T v)]) rfl i2' i3d.size hln
      have r' : ∀ ty, (Builtin.append_ #[43, 43] ty #[.slice y yn yc, .slice (some ⟨wr.drew.heap.size, 0, none⟩) 1 1]).run Tryz.prog (wr.drew.alloc (.cells #[.int .i64 v, .bool (!L14.fnd T v), .int .u32 (L14.cst T v : Nat), .int .i64 (L14.lst T v)] 48)) = .ok (.slice a' n' c') w8 := r
      have HR := hide r'
      have b8 : Below w1.heap.size w1 w8 := i3d.trans (g2.below i3d.size (fun b e => (i2'.lt b e).1))
      have HQ : Hid (DRow w1.heap.size w8 (.slice a' n' c') (dsL (ys.take j) T) ∧ Below w1.heap.size w1 w8) := ⟨by rw [hsn]; exact g1, b8⟩
      have c7 := cel (wr.drew.alloc (.cells #[.int .i64 v, .bool (!L14.fnd T v), .int .u32 (L14.cst T v : Nat), .int .i64 (L14.lst T v)] 48)) (by
        have hq := below_new wr.drew (.cells #[.int .i64 v, .bool (!L14.fnd T v), .int .u32 (L14.cst T v : Nat), .int .i64 (L14.lst T v)] 48)
        exact (below_drewN hBw 1).trans (hq.mono (below_drewN hBw 1).size))
      have c8 := cel w8 (h3.trans (b8.mono h3.size))
      have zk : Hid (wrap64 ((i : Int) + 1) = (j : Int)) := by show wrap64 ((i : Int) + 1) = (j : Int); unfold wrap64; omega
      generalize L14.fnd T v = f at *
      generalize L14.cst T v = cc at *
      generalize L14.lst T v = ll at *
      clear HI i1 i2 i2' i3 i3d h1 h2 h3 h4 hlt hv hrow hBw hR2 r4 cel hj hsn hln r r' g1 g2 b8
      go_upto_region 6 with fail
      clear kk r1 r2 z1
      refine wp_region_noPanic ?_
      refine regionL [] (fun y => y.cell? ⟨b, 2, none⟩ = some (.bool f) ∧ y.cell? ⟨b, 3, none⟩ = some (.float .f32 cc) ∧ y.cell? ⟨b, 4, none⟩ = some (.int .i64 ll)) (by kernel_rfl) c0 (fun hHeld => ?_)
      refine takeL (i := 0) (v := ?t2v0) (some 20) rfl rfl (by kernel_rfl) (by kernel_rfl) (by kernel_rfl) (by kernel_rfl) (by kernel_rfl) (fun _ _ _ h => h) (Or.inl ⟨by rfl, ?t2h0⟩) (by assumption) ?t2r0
      case t2h0 => (intro y hSu; (try dsimp only at hSu); go_simp; first | done | with_reducible rfl)
      (try simp only [Act.put, List.setIfInBounds_toArray, List.set_cons_zero, List.set_cons_succ])
      refine takeL (i := 1) (v := ?t2v1) (some 21) rfl rfl (by kernel_rfl) (by kernel_rfl) (by kernel_rfl) (by kernel_rfl) (by kernel_rfl) (fun _ _ _ h => h) (Or.inl ⟨by rfl, ?t2h1⟩) (by assumption) ?t2r1
      case t2h1 => (intro y hSu; (try dsimp only at hSu); go_simp; first | done | with_reducible rfl)
      (try simp only [Act.put, List.setIfInBounds_toArray, List.set_cons_zero, List.set_cons_succ])
      refine takeL (i := 2) (v := ?t2v2) (some 22) rfl rfl (by kernel_rfl) (by kernel_rfl) (by kernel_rfl) (by kernel_rfl) (by kernel_rfl) (fun _ _ _ h => h) (Or.inl ⟨by rfl, ?t2h2⟩) (by assumption) ?t2r2
      case t2h2 => (intro y hSu; (try dsimp only at hSu); go_simp; first | done | with_reducible rfl)
      (try simp only [Act.put, List.setIfInBounds_toArray, List.set_cons_zero, List.set_cons_succ])
      refine takeL (i := 3) (v := ?t2v3) (some 23) rfl rfl (by kernel_rfl) (by kernel_rfl) (by kernel_rfl) (by kernel_rfl) (by kernel_rfl) (fun _ _ _ h => h) (Or.inl ⟨by rfl, ?t2h3⟩) (by assumption) ?t2r3
      case t2h3 => (intro y hSu; (try dsimp only at hSu); go_simp; first | done | with_reducible rfl)
      (try simp only [Act.put, List.setIfInBounds_toArray, List.set_cons_zero, List.set_cons_succ])
      refine takeL (i := 4) (v := ?t2v4) (some 24) rfl rfl (by kernel_rfl) (by kernel_rfl) (by kernel_rfl) (by kernel_rfl) (by kernel_rfl) (fun _ _ _ h => h) (Or.inl ⟨by rfl, ?t2h4⟩) (by assumption) ?t2r4
      case t2h4 => (intro y hSu; (try dsimp only at hSu); go_simp; first | done | with_reducible rfl)
      (try simp only [Act.put, List.setIfInBounds_toArray, List.set_cons_zero, List.set_cons_succ])
      refine takeL (i := 5) (v := ?t2v5) (some 25) rfl rfl (by kernel_rfl) (by kernel_rfl) (by kernel_rfl) (by kernel_rfl) (by kernel_rfl) (fun _ _ _ h => h) (Or.inl ⟨by rfl, ?t2h5⟩) (by assumption) ?t2r5
      case t2h5 => (intro y hSu; (try dsimp only at hSu); go_simp; first | done | with_reducible rfl)
      (try simp only [Act.put, List.setIfInBounds_toArray, List.set_cons_zero, List.set_cons_succ])
      refine takeL (i := 6) (v := ?t2v6) (some 26) rfl rfl (by kernel_rfl) (by kernel_rfl) (by kernel_rfl) (by kernel_rfl) (by kernel_rfl) (fun _ _ _ h => h) (Or.inl ⟨by rfl, ?t2h6⟩) (by assumption) ?t2r6
      case t2h6 => (intro y hSu; (try dsimp only at hSu); go_simp; first | done | with_reducible rfl)
      (try simp only [Act.put, List.setIfInBounds_toArray, List.set_cons_zero, List.set_cons_succ])
      refine takeL (i := 7) (v := ?t2v7) (some 27) rfl rfl (by kernel_rfl) (by kernel_rfl) (by kernel_rfl) (by kernel_rfl) (by kernel_rfl) (fun _ _ _ h => h) (Or.inl ⟨by rfl, ?t2h7⟩) (by assumption) ?t2r7
      case t2h7 => (intro y hSu; (try dsimp only at hSu); go_simp; first | done | with_reducible rfl)
      (try simp only [Act.put, List.setIfInBounds_toArray, List.set_cons_zero, List.set_cons_succ])
      refine takeL (i := 8) (v := ?t2v8) (some 28) rfl rfl (by kernel_rfl) (by kernel_rfl) (by kernel_rfl) (by kernel_rfl) (by kernel_rfl) (fun _ _ _ h => h) (Or.inl ⟨by rfl, ?t2h8⟩) (by assumption) ?t2r8
      case t2h8 => (intro y hSu; (try dsimp only at hSu); go_simp; first | done | with_reducible rfl)
      (try simp only [Act.put, List.setIfInBounds_toArray, List.set_cons_zero, List.set_cons_succ])
      refine takeL (i := 9) (v := ?t2v9) (some 29) rfl rfl (by kernel_rfl) (by kernel_rfl) (by kernel_rfl) (by kernel_rfl) (by kernel_rfl) (fun _ _ _ h => h) (Or.inl ⟨by rfl, ?t2h9⟩) (by assumption) ?t2r9
      case t2h9 => (intro y hSu; (try dsimp only at hSu); go_simp; first | done | with_reducible rfl)
      (try simp only [Act.put, List.setIfInBounds_toArray, List.set_cons_zero, List.set_cons_succ])
      refine takeL (i := 10) (v := ?t2v10) (some 30) rfl rfl (by kernel_rfl) (by kernel_rfl) (by kernel_rfl) (by kernel_rfl) (by kernel_rfl) (fun _ _ _ h => h) (Or.inl ⟨by rfl, ?t2h10⟩) (by assumption) ?t2r10
      case t2h10 => (intro y hSu; (try dsimp only at hSu); go_simp; first | done | with_reducible rfl)
      (try simp only [Act.put, List.setIfInBounds_toArray, List.set_cons_zero, List.set_cons_succ])
      refine takeL (i := 12) (v := ?t2v12) (some 32) rfl rfl (by kernel_rfl) (by kernel_rfl) (by kernel_rfl) (by kernel_rfl) (by kernel_rfl) (fun _ _ _ h => h) (Or.inl ⟨by rfl, ?t2h12⟩) (by assumption) ?t2r12
      case t2h12 => (intro y hSu; (try dsimp only at hSu); go_simp; first | done | with_reducible rfl)
      (try simp only [Act.put, List.setIfInBounds_toArray, List.set_cons_zero, List.set_cons_succ])
      refine takeL (i := 13) (v := ?t2v13) (some 33) rfl rfl (by kernel_rfl) (by kernel_rfl) (by kernel_rfl) (by kernel_rfl) (by kernel_rfl) (fun _ _ _ h => h) (Or.inl ⟨by rfl, ?t2h13⟩) (by assumption) ?t2r13
      case t2h13 => (intro y hSu; (try dsimp only at hSu); go_simp; first | done | with_reducible rfl)
      (try simp only [Act.put, List.setIfInBounds_toArray, List.set_cons_zero, List.set_cons_succ])
      refine takeL (i := 14) (v := ?t2v14) (some 34) rfl rfl (by kernel_rfl) (by kernel_rfl) (by kernel_rfl) (by kernel_rfl) (by kernel_rfl) (fun _ _ _ h => h) (Or.inl ⟨by rfl, ?t2h14⟩) (by assumption) ?t2r14
      case t2h14 => (intro y hSu; (try dsimp only at hSu); go_simp; first | done | with_reducible rfl)
      (try simp only [Act.put, List.setIfInBounds_toArray, List.set_cons_zero, List.set_cons_succ])
      refine takeL (i := 15) (v := ?t2v15) (some 35) rfl rfl (by kernel_rfl) (by kernel_rfl) (by kernel_rfl) (by kernel_rfl) (by kernel_rfl) (fun _ _ _ h => h) (Or.inl ⟨by rfl, ?t2h15⟩) (by assumption) ?t2r15
      case t2h15 => (intro y hSu; (try dsimp only at hSu); go_simp; first | done | with_reducible rfl)
      (try simp only [Act.put, List.setIfInBounds_toArray, List.set_cons_zero, List.set_cons_succ])
      refine readyL (i := 11) (by kernel_rfl) rfl (fun K hK => ?_)
      go_simp
      refine (unhide CB _).mono ?_
      rintro e1 w4 ⟨rfl, hw4⟩
      subst hw4
      (try dsimp only)
      refine hK.out _ _ (fun _ => c0) ?_
      clear hK K
      (try simp only [Act.put, List.setIfInBounds_toArray, List.set_cons_zero, List.set_cons_succ])
      have hH4 := c0
      refine takeL (i := 16) (v := ?t5v16) (some 36) rfl rfl (by kernel_rfl) (by kernel_rfl) (by kernel_rfl) (by kernel_rfl) (by kernel_rfl) (fun _ _ _ h => h) (Or.inl ⟨by rfl, ?t5h16⟩) (by assumption) ?t5r16
      case t5h16 => (intro y hSu; (try dsimp only at hSu); go_simp; first | done | with_reducible rfl)
      (try simp only [Act.put, List.setIfInBounds_toArray, List.set_cons_zero, List.set_cons_succ])
      refine readyL (i := 17) (by kernel_rfl) rfl (fun K hK => ?_)
      go_simp
      refine hK.out _ _ (fun _ => c7) ?_
      clear hK K
      (try simp only [Act.put, List.setIfInBounds_toArray, List.set_cons_zero, List.set_cons_succ])
      have hH7 := c7
      refine readyL (i := 18) (by kernel_rfl) rfl (fun K hK => ?_)
      refine step_append_run rfl (.tmp 20) (.tmp 37) 43 rfl _ _ (by simp [Act.eval]; first | rfl | done) (by simp [Act.eval]; first | rfl | done) _ _ (unhide HR _) ?_
      refine hK.out _ _ (fun _ => c8) ?_
      clear hK K
      (try simp only [Act.put, List.setIfInBounds_toArray])
      have hH8 := c8
      refine takeL (i := 19) (v := ?t9v19) (some 3) rfl rfl (by kernel_rfl) (by kernel_rfl) (by kernel_rfl) (by kernel_rfl) (by kernel_rfl) (fun _ _ _ h => h) (Or.inl ⟨by rfl, ?t9h19⟩) (by assumption) ?t9r19
      case t9h19 => (intro y hSu; (try dsimp only at hSu); go_simp; first | done | with_reducible rfl)
      (try simp only [Act.put])
      refine doneL (by kernel_rfl) ?_ _
      refine NoPanic.normal ?_
      go_wp2_with fail
      (try rw [unhide zk])
      exact ⟨⟨j, _, _, _, rfl, rfl, (unhide HJ).2.1, unhide HQ⟩, by have := unhide HJ; simp [intOf]; omega⟩
    · have z1 : ¬ (i : Int) < (n : Int) := by omega
      have HE : Hid (DisL w (dsL ys T) (.slice y yn yc) wr) := by
        rw [List.take_of_length_le (by omega)] at i2
        exact ⟨rrow_low i2 h3.size, h3.trans (i3.mono h3.size)⟩
      clear HI i1 i2 i3 h1 h2 h3 h4 hlt
      go_wp2_with fail
      go_ret
      exact ⟨_, _, _, rfl, HE⟩
end
theorem mapTurned_size {w w' : World} {b : Nat} (h : w.mapTurned w' b) : w.heap.size = w'.heap.size := by
  obtain ⟨es, clock, es', clock', hb, rfl⟩ := h
  simp [ChangeMaps.setBlock]
/-- What New makes. -/
def NewL (w : World) (s : Int) (p : Nat) (w' : World) : Prop :=
  Below w.heap.size w w' ∧ ∃ L, LvK L w' p s 0 [s] [] (L14.upd (fun _ => (false, 0, 0)) s (true, 0, 0)) 1 ∧ ∀ b, b < w.heap.size → L b = none
set_option maxHeartbeats 2000000 in
set_option maxRecDepth 100000 in
theorem vNewT (w : World) {s : Int} (os : okN s) : Calls Tryz.prog 11 #[.int .i64 s] w fun e w' => ∃ p, e = .returned (.pointer (some ⟨p, 0, none⟩)) ∧ Hid (NewL w s p w') := by
  have hmm := @run_makeMap Tryz.prog
  obtain ⟨n, hn⟩ : ∃ n, n = w.heap.size := ⟨_, rfl⟩
  have m1 : MapG dat ptrElem none (w.alloc (.map #[] 0)) n (fun _ => none) 0 := by rw [hn]; exact mapG_made w
  have b1 := below_new w (.map #[] 0)
  have s1 : (w.alloc (.map #[] 0)).heap.size = n + 1 := by simp [hn]
  generalize hA : w.alloc (.map #[] 0) = wA at *
  have b2 := below_new wA (oSp (.slice none 0 0) (.slice none 0 0) (true, 0, 0))
  have k2 := heap_alloc_new wA (oSp (.slice none 0 0) (.slice none 0 0) (true, 0, 0))
  have s2 : (wA.alloc (oSp (.slice none 0 0) (.slice none 0 0) (true, 0, 0))).heap.size = n + 2 := by simp [s1]
  rw [s1] at k2
  have m2 := m1.kept (b2.block n m1.lt)
  generalize hB : wA.alloc (oSp (.slice none 0 0) (.slice none 0 0) (true, 0, 0)) = wB at *
  obtain ⟨wC, rC, mC, tC⟩ := m2.put kitPt (t := 75) (e := 71) Tryz.underlying75 (by unfold maxLen; omega) os (some (n + 1))
  have htC : Turned (fun b => b = n) wB wC := turned_map tC rfl
  have sC : wC.heap.size = n + 2 := (mapTurned_size tC).symm.trans s2
  have bC : Below n wB wC := htC.below (by omega) (fun k hk => by omega)
  have mD : MapG edG rdG (0, 0, 0) (wC.alloc (.map #[] 0)) (n + 2) (fun _ => none) 0 := by
    have := mapG_made (ed := edG) (R := rdG) (x0 := (0, 0, 0)) wC
    rwa [sC] at this
  have bD := below_new wC (.map #[] 0)
  have sD : (wC.alloc (.map #[] 0)).heap.size = n + 3 := by simp [sC]
  generalize hD : wC.alloc (.map #[] 0) = wD at *
  have bE := below_new wD (oL s n (n + 2) 0)
  have kE := heap_alloc_new wD (oL s n (n + 2) 0)
  have sE : (wD.alloc (oL s n (n + 2) 0)).heap.size = n + 4 := by simp [sD]
  rw [sD] at kE
  generalize hE : wD.alloc (oL s n (n + 2) 0) = wE at *
  have hAE : Below n w wE := by
    rw [hn]
    refine (b1.trans (b2.mono (by omega))).trans ?_
    rw [← hn]
    exact bC.trans ((bD.mono (by omega)).trans (bE.mono (by omega)))
  have HK : Hid (NewL w s (n + 3) wE) := by
    refine ⟨by rw [← hn]; exact hAE, fun d => if d = n then some (2, 0) else if d = n + 1 then some (4, s) else if d = n + 2 then some (3, 0) else if d = n + 3 then some (1, 0) else none, ⟨n, n + 2, fun x => if x = s then some (n + 1) else none, 1, fun _ => none, 0, fun _ => [], fun _ => [], ⟨⟨kE, ?_, mD.kept (bE.block _ (by omega)), ?_, ?_, ?_, ?_⟩, fun b q => ?_⟩, ⟨by simp, fun v => ?_, ?_, Nat.le_refl _, fun _ _ _ _ q => (by cases q), fun u e => ⟨fun q => (by cases q), fun ⟨_, _, q⟩ => (by cases q)⟩, fun u e => ⟨fun q => (by cases q), fun ⟨_, _, q⟩ => (by cases q)⟩, fun _ => List.Pairwise.nil, fun _ => List.Pairwise.nil, fun _ => Nat.zero_le _, fun _ => Nat.zero_le _⟩, List.mem_singleton.2 rfl, L14.Right.new s, ⟨fun _ _ _ _ => ⟨fun q => (by cases q), fun q => (by cases q)⟩, List.nodup_nil, fun _ q => (by cases q)⟩, Nat.le_refl _, Nat.zero_le _⟩, fun b q => ?_⟩
    · have hmE : MapG dat ptrElem none wE n (putG (fun _ => none) s (some (some (n + 1)))) 1 := (mC.kept (bD.block n (by omega))).kept (bE.block n (by omega))
      have e : (fun v => ((if v = s then some (n + 1) else none : Option Nat)).map some) = putG (fun _ => none) s (some (some (n + 1))) := by
        funext x
        unfold putG
        by_cases q : x = s
        · rw [if_pos q, if_pos q]; rfl
        · rw [if_neg q, if_neg q]; rfl
      rw [e]; exact hmE
    · rw [if_neg (by omega), if_neg (by omega), if_neg (by omega), if_pos rfl]
    · rw [if_pos rfl]
    · rw [if_neg (by omega), if_neg (by omega), if_pos rfl]
    · intro v b q
      by_cases z : v = s
      · rw [if_pos z] at q
        have q := Option.some.inj q
        refine ⟨.slice none 0 0, .slice none 0 0, ?_, ?_, ⟨rfl, .inl ⟨rfl, rfl⟩⟩, ⟨rfl, .inl ⟨rfl, rfl⟩⟩, fun d e => (by cases e), fun d e => (by cases e)⟩
        · rw [z, L14.upd_self, ← q]
          exact (bE.block _ (by omega)).trans ((bD.block _ (by omega)).trans ((htC.block _ (by omega) (by omega)).trans k2))
        · rw [← q, if_neg (by omega), if_pos rfl, z]
      · rw [if_neg z] at q; cases q
    · show (if b = n then some (2, 0) else if b = n + 1 then some (4, s) else if b = n + 2 then some (3, 0) else if b = n + 3 then some (1, 0) else none : Option (Nat × Int)) = none
      rw [if_neg (by omega), if_neg (by omega), if_neg (by omega), if_neg (by omega)]
    · constructor
      · intro q
        rw [List.mem_singleton.1 q, if_pos rfl]; exact fun z => by cases z
      · intro q
        by_cases z : v = s
        · exact List.mem_singleton.2 z
        · rw [if_neg z] at q; exact absurd rfl q
    · intro v q
      rw [List.mem_singleton.1 q]; exact os
    · show (if b = n then some (2, 0) else if b = n + 1 then some (4, s) else if b = n + 2 then some (3, 0) else if b = n + 3 then some (1, 0) else none : Option (Nat × Int)) = none
      rw [if_neg (by omega), if_neg (by omega), if_neg (by omega), if_neg (by omega)]
  have rC2 : (Instr.mapUpdate 75 (.map (some w.heap.size)) (.int .i64 s) (.pointer (some ⟨w.heap.size + 1, 0, none⟩))).run Tryz.prog ((w.alloc (.map #[] 0)).alloc (.cells #[.slice none 0 0, .slice none 0 0, .bool true, .float .f32 0, .int .i64 0] 74)) = .ok () wC := by
    rw [← hn, hA, show wA.alloc (.cells #[.slice none 0 0, .slice none 0 0, .bool true, .float .f32 0, .int .i64 0] 74) = wB from hB]
    exact rC
  have HD := hide hD
  have HE := hide hE
  have HN : Hid (n = w.heap.size ∧ wC.heap.size = n + 2 ∧ wD.heap.size = n + 3) := ⟨hn, sC, sD⟩
  clear m1 b1 s1 b2 k2 s2 m2 rC mC tC htC sC bC mD bD sD bE kE sE hAE hA hB hD hE hn os
  go_enter Tryz.func11, Tryz.ntmps11
  go_wp2_with fail
  obtain ⟨n1, n2, n3⟩ := unhide HN
  have hw : (wC.alloc (.map #[] 0)).alloc (.cells #[.int .i64 s, .map (some w.heap.size), .map (some wC.heap.size), .int .i64 0] 78) = wE := by
    rw [unhide HD, ← n1, n2]; exact unhide HE
  rw [hw, show wC.heap.size + 1 = n + 3 by omega]
  clear n1 n2 n3 hw HN HD HE
  go_ret
  exact ⟨n + 3, rfl, HK⟩
end

end Go.Proofs.YtbmcibofecigeaaGreat
