/- Path, Dists over a live tree. -/
import Derived.Test.YtbmcibofecigeaaLvI14
import Derived.OwnWalkIn
import Derived.TacticsInMore
import Derived.Test.YtbmcibofecigeaaLvL14
import Derived.Deep.LoopGhost
namespace Go.Proofs.Ytbmcibofecigeaa

section
open Go.RowKit Go.Maps
attribute [local go_sem] run_storeF run_fieldE0 run_fieldE1
/-- The vertices, with what is known of them. -/
def dsL (ys : List Int) (T : L14.Tr) : List DiV := ys.map (fun v => (v, !L14.fnd T v, L14.cst T v, L14.lst T v))
section
variable {L : Lab} {w : World} {p mv me : Nat} {s tc : Int} {V : Int → Option Nat} {nv : Nat} {E : L14.Es} {ne : Nat} {T : L14.Tr} {O I : Int → List Int} {vs : List Int} {N : Nat}
theorem ris_eq {ys : List Int} (h1 : Rising ltN ys) (h2 : ∀ k, k ∈ ys ↔ k ∈ vs) (hr : Rising ltN vs) : ys = vs := rising_ext linN h1 hr h2
end
end

section
open Go.RowKit Go.Maps
attribute [local go_sem] run_storeF run_fieldE0 run_fieldE1
/-- The vertices on the way back. -/
def onc (E : L14.Es) : Int → List Int → List Int
  | v, [] => [v]
  | v, e :: l => v :: (match E e with
    | some (u, _, _) => onc E u l
    | none => [])
theorem onc_len {E : L14.Es} {s : Int} {T : L14.Tr} : ∀ {l : List Int} {v : Int}, L14.Chain E s T v l → (onc E v l).length = l.length + 1
  | [], v, _ => rfl
  | e :: l, v, ⟨_, _, u, c, h3, _, h5⟩ => by
    unfold onc
    rw [h3]
    simp only [List.length_cons, onc_len h5]
theorem onc_mem {E : L14.Es} {s : Int} {T : L14.Tr} : ∀ {l : List Int} {v : Int}, L14.fnd T v = true → L14.Chain E s T v l → ∀ z ∈ onc E v l, L14.fnd T z = true ∧ ∃ l', L14.Chain E s T z l' ∧ l'.length ≤ l.length
  | [], v, hv, hc, z, hz => by
    have e : z = v := by simpa [onc] using hz
    rw [e]; exact ⟨hv, [], hc, Nat.le_refl _⟩
  | e :: l, v, hv, ⟨h1, h2, u, c, h3, h4, h5⟩, z, hz => by
    unfold onc at hz
    rw [h3] at hz
    rcases List.mem_cons.1 hz with q | q
    · rw [q]; exact ⟨hv, e :: l, ⟨h1, h2, u, c, h3, h4, h5⟩, Nat.le_refl _⟩
    · obtain ⟨a, l', b1, b2⟩ := onc_mem h4 h5 z q
      exact ⟨a, l', b1, by rw [List.length_cons]; omega⟩
theorem onc_nodup {E : L14.Es} {s : Int} {T : L14.Tr} : ∀ {l : List Int} {v : Int}, L14.fnd T v = true → L14.Chain E s T v l → (onc E v l).Nodup
  | [], v, _, _ => by simp [onc]
  | e :: l, v, hv, ⟨h1, h2, u, c, h3, h4, h5⟩ => by
    unfold onc
    rw [h3]
    refine List.nodup_cons.2 ⟨fun hm => ?_, onc_nodup h4 h5⟩
    obtain ⟨-, l', b1, b2⟩ := onc_mem h4 h5 v hm
    have := L14.chain_one b1 (show L14.Chain E s T v (e :: l) from ⟨h1, h2, u, c, h3, h4, h5⟩)
    rw [this, List.length_cons] at b2
    omega
section
variable {L : Lab} {w : World} {p mv me : Nat} {s tc : Int} {V : Int → Option Nat} {nv : Nat} {E : L14.Es} {ne : Nat} {T : L14.Tr} {O I : Int → List Int} {vs : List Int} {N : Nat}
theorem chain_le (hR : L14.Right E s T) (hG : GL V E O I vs N) (hs : s ∈ vs) {v : Int} {l : List Int} (hv : L14.fnd T v = true) (hc : L14.Chain E s T v l) : l.length + 1 ≤ vs.length := by
  rw [← onc_len hc]
  exact sub_len (onc_nodup hv hc) (fun z hz => found_in hR hG hs (onc_mem hv hc z hz).1)
/-- slices.Reverse. -/
theorem revL (B : Nat) (v : Value) (ks : List Int) (w : World) (hl : ks.length ≤ 1000000) (h : BRow B w v ks) :
    Calls Try.prog 35 #[v] w fun e w' => e = .returned (.tuple #[]) ∧ Hid (BRow B w' v ks.reverse ∧ Turned (fun b => v.ownBlock = some b) w w') := by
  have hb := h
  rcases h.2 with ⟨rfl, h0⟩ | ⟨g, cap, cur, rfl, hB, hg, hcap, hmx, hsz, htk⟩
  · obtain rfl : ks = [] := List.length_eq_zero_iff.1 h0
    refine (Any.slices_Reverse_int_empty Try.lays112 none 0 w).mono ?_
    rintro e w' ⟨rfl, rfl⟩
    exact ⟨rfl, hb, Turned.refl _ _⟩
  · refine (Any.slices_Reverse_int_cells Try.lays112 g 0 ks.length cap ks w (Nat.le_refl _) (by omega) (fun j hj => ?_) (fun j hj => ?_)).mono ?_
    · rw [Nat.zero_add, brow_at hb (List.getElem?_eq_getElem hj), List.getD_eq_getElem?_getD, List.getElem?_eq_getElem hj]; rfl
    · exact (brow_set hb 0 hj).1 _
    · rintro e w' ⟨rfl, q, rfl⟩
      rw [List.take_of_length_le (Nat.le_refl _)]
      have hlen : (ks.reverse.map (Value.int .i64)).length = ks.length := by simp
      have hs1 : cur.size = cap := by omega
      have hM := setM_list (ks.reverse.map (Value.int .i64)) 0 cur (by rw [hlen]; omega)
      refine ⟨rfl, ⟨by simp, .inr ⟨g, cap, setM cur 0 (ks.reverse.map (Value.int .i64)), by rw [List.length_reverse], hB, setCells_heap g _ 0 (w.drewN q) cur hg, by rw [List.length_reverse]; exact hcap, hmx, by rw [setM_size]; exact hsz, ?_⟩⟩, (Turned.refl _ _).drewN q |>.trans (setCells_turned (S := fun b => (Value.slice (some ⟨g, 0, none⟩) ks.length cap).ownBlock = some b) g (show _ = _ from rfl) _ 0 _)⟩
      rw [hM, List.take_zero, List.nil_append, List.length_reverse, Nat.mul_one, List.take_left' hlen]
/-- What Path answers. -/
def PathL (w : World) (E : L14.Es) (s : Int) (T : L14.Tr) (V : Int → Option Nat) (v : Int) (x : Value) (w' : World) : Prop :=
  Below w.heap.size w w' ∧ (askL V T v ≠ 0 → x = .slice none 0 0) ∧ (askL V T v = 0 → ∃ l, L14.Chain E s T v l ∧ BRow w.heap.size w' x l.reverse ∧ l.length ≤ 1000)
set_option maxHeartbeats 4000000 in
set_option maxRecDepth 100000 in
theorem vPathLT (h : LvAt L w p mv me s tc V nv E ne T O I) (hG : GL V E O I vs N) (hR : L14.Right E s T) (hs : s ∈ vs) (hN : N ≤ 200) {v : Int} (hv : okN v) :
    Calls Try.prog 15 #[.pointer (some ⟨p, 0, none⟩), .int .i64 v] w fun e w' => ∃ a n c, e = .returned (.tuple #[.slice a n c, .int .i64 (askL V T v)]) ∧ Hid (PathL w E s T V v (.slice a n c) w') := by
  have C1 := hide (vreachedT h hv)
  by_cases ha : askL V T v = 0
  · obtain ⟨b0, hV, hf⟩ := askL_ok ha
    rw [if_pos ha, ha, hV] at C1
    have C1' : Hid (Calls Try.prog 33 #[.pointer (some ⟨p, 0, none⟩), .int .i64 v] w fun e w' => e = .returned (.tuple #[.pointer (some ⟨b0, 0, none⟩), .int .i64 0]) ∧ w' = w) := C1
    rw [ha]
    obtain ⟨l0, hl0⟩ := hR.chn v hf
    have hlen := chain_le hR hG hs hf hl0
    have hvl := hG.vl
    have HL : Hid (∀ W, Below w.heap.size w W → LvAt L W p mv me s tc V nv E ne T O I) := fun W hW => h.below hW
    have HG : Hid (GL V E O I vs N ∧ L14.Right E s T ∧ s ∈ vs ∧ N ≤ 200 ∧ askL V T v = 0 ∧ L14.Chain E s T v l0 ∧ l0.length ≤ 200) := ⟨hG, hR, hs, hN, ha, hl0, by omega⟩
    have HS : Hid (∃ u l l2, V u = some b0 ∧ L14.fnd T u = true ∧ L14.Chain E s T u l2 ∧ l2.length = l0.length ∧ l0 = l ++ l2 ∧ BRow w.heap.size w (.slice none 0 0) l ∧ Below w.heap.size w w) := ⟨v, [], l0, hV, hf, hl0, rfl, rfl, ⟨rfl, .inl ⟨rfl, rfl⟩⟩, Below.refl _ _⟩
    clear h hG hR hs hN hv C1 ha hV hf hl0 hlen hvl
    go_enter Try.func15, Try.ntmps15
    go_wp2_with fail
    refine (unhide C1').mono ?_
    rintro e w1 ⟨rfl, hw⟩
    rw [hw]
    clear C1' hw w1
    go_wp2_with fail
    go_loopg [6, 8] l0.length (fun g s6 s8 wr => ∃ (b : Nat) (y : Option Addr) (yn yc g0 : Nat), s6 = .pointer (some ⟨b, 0, none⟩) ∧ s8 = .slice y yn yc ∧ Hid (g0 = g ∧ ∃ u l l2, V u = some b ∧ L14.fnd T u = true ∧ L14.Chain E s T u l2 ∧ l2.length = g0 ∧ l0 = l ++ l2 ∧ BRow w.heap.size wr (.slice y yn yc) l ∧ Below w.heap.size w wr))
    case atStart => exact ⟨b0, none, 0, 0, _, rfl, rfl, rfl, unhide HS⟩
    case round =>
      clear HS
      obtain ⟨b, y, yn, yc, g0, rfl, rfl, HI⟩ := hrel
      obtain ⟨hg, u, l, l2, i1, i2, i3, i4, i5, i6, i7⟩ := unhide HI
      obtain ⟨hG, hR, hs, hN, ha, -, hl0⟩ := unhide HG
      have hL := unhide HL wr i7
      have hL2 := unhide HL
      obtain ⟨_, _, s1, -⟩ := hL.sp u b i1
      obtain ⟨-, -, -, -, k4, -⟩ := cellsSp s1
      have k4' : wr.cell? ⟨b, 4, none⟩ = some (.int .i64 (L14.lst T u)) := k4
      have hll : l.length ≤ 200 := by have := congrArg List.length i5; rw [List.length_append] at this; omega
      have HGG := hide hg
      cases l2 with
      | nil =>
        have hus : u = s := i3
        have h0 : L14.lst T u = 0 := by rw [hus]; exact hR.src.2.2
        rw [h0] at k4'
        rw [List.append_nil] at i5
        have C2 := hide (revL w.heap.size _ l wr (by omega) i6)
        have HB : Hid (l0 = l ∧ Below w.heap.size w wr ∧ ∀ b, (Value.slice y yn yc).ownBlock = some b → w.heap.size ≤ b) := ⟨i5, i7, fun b e => (i6.lt b e).1⟩
        clear HI hg i1 i2 i3 i4 i5 i6 i7 hG hR hs hN ha hl0 hL hL2 s1 k4 hll hus h0
        go_wp2_with fail
        refine (unhide C2).mono ?_
        rintro e w2 ⟨rfl, H2⟩
        have HE : Hid (PathL w E s T V v (.slice y yn yc) w2) := by
          obtain ⟨r1, r2⟩ := unhide H2
          obtain ⟨t1, t2, t3⟩ := unhide HB
          obtain ⟨-, -, -, -, ha, hc, hl0⟩ := unhide HG
          exact ⟨t2.trans (r2.below t2.size t3), fun z => absurd ha z, fun _ => ⟨l0, hc, by rw [t1]; exact r1, by omega⟩⟩
        clear C2 H2 HB k4'
        go_wp2_with fail
        go_ret2
        exact ⟨_, _, _, rfl, HE⟩
      | cons e l3 =>
        obtain ⟨h1, h2, u2, c2, h3, h4, h5⟩ := i3
        obtain ⟨oe, hu2, -⟩ := hG.ed _ _ _ _ h3
        obtain ⟨b2, hb2⟩ := hG.at_ hu2
        have hez : L14.lst T u ≠ 0 := fun z => by rw [h2, z, hR.pos] at h3; cases h3
        rw [← h2] at k4' hez
        obtain ⟨a', n', c', w', r, g1, g2, -⟩ := run_app8 e i6 i7.size (by omega)
        have HR := hide r
        have hb' : Below w.heap.size w w' := i7.trans (g2.below i7.size (fun b q => (i6.lt b q).1))
        have hLw := hL2 w' hb'
        have hLd := hL2 w'.drew (below_drewN hb' 1)
        obtain ⟨_, _, s3, -⟩ := hLw.sp u b i1
        obtain ⟨-, -, -, -, q4, -⟩ := cellsSp s3
        have q4' : w'.cell? ⟨b, 4, none⟩ = some (.int .i64 e) := by rw [h2]; exact q4
        obtain ⟨-, q1, q2, -, -⟩ := cellsL hLw.box
        have q5 := hLd.readE hG h3
        have q6 := hLd.lookV (hG.okV u2 hu2)
        rw [hb2] at q6
        have q6' : (Instr.lookup 48 (.map (some mv)) (.int .i64 u2) false).run Try.prog w'.drew = .ok (.pointer (some ⟨b2, 0, none⟩)) w'.drew := q6
        obtain ⟨g1', hg1⟩ : ∃ g1', g1' = l3.length := ⟨_, rfl⟩
        have HJ : Hid (g1' < g0 ∧ ∃ u l l2, V u = some b2 ∧ L14.fnd T u = true ∧ L14.Chain E s T u l2 ∧ l2.length = g1' ∧ l0 = l ++ l2 ∧ BRow w.heap.size w'.drew (.slice a' n' c') l ∧ Below w.heap.size w w'.drew) := by
          refine ⟨by rw [← i4, hg1, List.length_cons]; omega, u2, l ++ [e], l3, hb2, h4, h5, hg1.symm, by rw [List.append_assoc]; exact i5, brow_kept g1 (fun _ _ => rfl), below_drewN hb' 1⟩
        have z0 : (e != 0) = true := by rw [h2] at hez ⊢; simpa using hez
        clear HI hg i1 i2 i4 i5 i6 i7 hG hR hs hN ha hl0 hL hL2 s1 k4 hll h1 h2 h3 h4 h5 oe hu2 hb2 hez g1 g2 r hb' hLw hLd s3 q4 q6 hg1
        go_upto_region 7 with (at_builtin; refine Lib.wpList_append_run _ rfl _ _ 25 25 rfl _ _ rfl rfl _ _ (unhide HR _) ?_)
        refine wp_region_noPanic ?_
        refine regionL [] (fun y => y.cell? ⟨p, 1, none⟩ = some (.map (some mv)) ∧ y.cell? ⟨p, 2, none⟩ = some (.map (some me)) ∧ y.cell? ⟨b, 4, none⟩ = some (.int .i64 e) ∧ (Instr.lookup 49 (.map (some me)) (.int .i64 e) false).run Try.prog y = .ok (.agg #[.int .i64 u2, .int .i64 u, .float .f32 c2]) y ∧ (Instr.lookup 48 (.map (some mv)) (.int .i64 u2) false).run Try.prog y = .ok (.pointer (some ⟨b2, 0, none⟩)) y) (by kernel_rfl) ⟨q1, q2, q4', q5, q6'⟩ (fun hHeld => ?_)
        refine takeL (i := 0) (v := ?t2v0) (some 30) rfl rfl (by kernel_rfl) (by kernel_rfl) (by kernel_rfl) (by kernel_rfl) (by kernel_rfl) (fun _ _ _ h => h) (Or.inl ⟨by rfl, ?t2h0⟩) (by assumption) ?t2r0
        case t2h0 => (intro y hSu; (try dsimp only at hSu); go_simp; first | done | with_reducible rfl)
        (try simp only [Act.put, List.setIfInBounds_toArray, List.set_cons_zero, List.set_cons_succ])
        refine takeL (i := 1) (v := ?t2v1) (some 31) rfl rfl (by kernel_rfl) (by kernel_rfl) (by kernel_rfl) (by kernel_rfl) (by kernel_rfl) (fun _ _ _ h => h) (Or.inl ⟨by rfl, ?t2h1⟩) (by assumption) ?t2r1
        case t2h1 => (intro y hSu; (try dsimp only at hSu); go_simp; first | done | with_reducible rfl)
        (try simp only [Act.put, List.setIfInBounds_toArray, List.set_cons_zero, List.set_cons_succ])
        refine takeL (i := 2) (v := ?t2v2) (some 32) rfl rfl (by kernel_rfl) (by kernel_rfl) (by kernel_rfl) (by kernel_rfl) (by kernel_rfl) (fun _ _ _ h => h) (Or.inl ⟨by rfl, ?t2h2⟩) (by assumption) ?t2r2
        case t2h2 => (intro y hSu; (try dsimp only at hSu); go_simp; first | done | with_reducible rfl)
        (try simp only [Act.put, List.setIfInBounds_toArray, List.set_cons_zero, List.set_cons_succ])
        refine takeL (i := 3) (v := ?t2v3) (some 33) rfl rfl (by kernel_rfl) (by kernel_rfl) (by kernel_rfl) (by kernel_rfl) (by kernel_rfl) (fun _ _ _ h => h) (Or.inl ⟨by rfl, ?t2h3⟩) (by assumption) ?t2r3
        case t2h3 => (intro y hSu; (try dsimp only at hSu); go_simp; first | done | with_reducible rfl)
        (try simp only [Act.put, List.setIfInBounds_toArray, List.set_cons_zero, List.set_cons_succ])
        refine takeL (i := 4) (v := ?t2v4) (some 34) rfl rfl (by kernel_rfl) (by kernel_rfl) (by kernel_rfl) (by kernel_rfl) (by kernel_rfl) (fun _ _ _ h => h) (Or.inl ⟨by rfl, ?t2h4⟩) (by assumption) ?t2r4
        case t2h4 => (intro y hSu; (try dsimp only at hSu); go_simp; first | done | with_reducible rfl)
        (try simp only [Act.put, List.setIfInBounds_toArray, List.set_cons_zero, List.set_cons_succ])
        refine takeL (i := 5) (v := ?t2v5) (some 35) rfl rfl (by kernel_rfl) (by kernel_rfl) (by kernel_rfl) (by kernel_rfl) (by kernel_rfl) (fun _ _ _ h => h) (Or.inl ⟨by rfl, ?t2h5⟩) (by assumption) ?t2r5
        case t2h5 => (intro y hSu; (try dsimp only at hSu); go_simp; first | done | with_reducible rfl)
        (try simp only [Act.put, List.setIfInBounds_toArray, List.set_cons_zero, List.set_cons_succ])
        refine takeL (i := 6) (v := ?t2v6) (some 36) rfl rfl (by kernel_rfl) (by kernel_rfl) (by kernel_rfl) (by kernel_rfl) (by kernel_rfl) (fun _ _ _ h => h) (Or.inl ⟨by rfl, ?t2h6⟩) (by assumption) ?t2r6
        case t2h6 => (intro y hSu; (try dsimp only at hSu); go_simp; first | done | with_reducible rfl)
        (try simp only [Act.put, List.setIfInBounds_toArray, List.set_cons_zero, List.set_cons_succ])
        refine takeL (i := 7) (v := ?t2v7) (some 37) rfl rfl (by kernel_rfl) (by kernel_rfl) (by kernel_rfl) (by kernel_rfl) (by kernel_rfl) (fun _ _ _ h => h) (Or.inl ⟨by rfl, ?t2h7⟩) (by assumption) ?t2r7
        case t2h7 => (intro y hSu; (try dsimp only at hSu); go_simp; first | done | with_reducible rfl)
        (try simp only [Act.put, List.setIfInBounds_toArray, List.set_cons_zero, List.set_cons_succ])
        refine takeL (i := 8) (v := ?t2v8) (some 38) rfl rfl (by kernel_rfl) (by kernel_rfl) (by kernel_rfl) (by kernel_rfl) (by kernel_rfl) (fun _ _ _ h => h) (Or.inl ⟨by rfl, ?t2h8⟩) (by assumption) ?t2r8
        case t2h8 => (intro y hSu; (try dsimp only at hSu); go_simp; first | done | with_reducible rfl)
        (try simp only [Act.put, List.setIfInBounds_toArray, List.set_cons_zero, List.set_cons_succ])
        refine takeL (i := 9) (v := ?t2v9) (some 39) rfl rfl (by kernel_rfl) (by kernel_rfl) (by kernel_rfl) (by kernel_rfl) (by kernel_rfl) (fun _ _ _ h => h) (Or.inl ⟨by rfl, ?t2h9⟩) (by assumption) ?t2r9
        case t2h9 => (intro y hSu; (try dsimp only at hSu); go_simp; first | done | with_reducible rfl)
        (try simp only [Act.put, List.setIfInBounds_toArray, List.set_cons_zero, List.set_cons_succ])
        refine takeL (i := 10) (v := ?t2v10) (some 40) rfl rfl (by kernel_rfl) (by kernel_rfl) (by kernel_rfl) (by kernel_rfl) (by kernel_rfl) (fun _ _ _ h => h) (Or.inl ⟨by rfl, ?t2h10⟩) (by assumption) ?t2r10
        case t2h10 => (intro y hSu; (try dsimp only at hSu); go_simp; first | done | with_reducible rfl)
        (try simp only [Act.put, List.setIfInBounds_toArray, List.set_cons_zero, List.set_cons_succ])
        refine takeL (i := 11) (v := ?t2v11) (some 41) rfl rfl (by kernel_rfl) (by kernel_rfl) (by kernel_rfl) (by kernel_rfl) (by kernel_rfl) (fun _ _ _ h => h) (Or.inl ⟨by rfl, ?t2h11⟩) (by assumption) ?t2r11
        case t2h11 => (intro y hSu; (try dsimp only at hSu); go_simp; first | done | with_reducible rfl)
        (try simp only [Act.put, List.setIfInBounds_toArray, List.set_cons_zero, List.set_cons_succ])
        refine takeL (i := 12) (v := ?t2v12) (some 42) rfl rfl (by kernel_rfl) (by kernel_rfl) (by kernel_rfl) (by kernel_rfl) (by kernel_rfl) (fun _ _ _ h => h) (Or.inl ⟨by rfl, ?t2h12⟩) (by assumption) ?t2r12
        case t2h12 => (intro y hSu; (try dsimp only at hSu); go_simp; first | done | with_reducible rfl)
        (try simp only [Act.put, List.setIfInBounds_toArray, List.set_cons_zero, List.set_cons_succ])
        refine takeL (i := 13) (v := ?t2v13) (some 43) rfl rfl (by kernel_rfl) (by kernel_rfl) (by kernel_rfl) (by kernel_rfl) (by kernel_rfl) (fun _ _ _ h => h) (Or.inl ⟨by rfl, ?t2h13⟩) (by assumption) ?t2r13
        case t2h13 => (intro y hSu; (try dsimp only at hSu); go_simp; first | done | with_reducible rfl)
        (try simp only [Act.put, List.setIfInBounds_toArray, List.set_cons_zero, List.set_cons_succ])
        refine takeL (i := 14) (v := ?t2v14) (some 44) rfl rfl (by kernel_rfl) (by kernel_rfl) (by kernel_rfl) (by kernel_rfl) (by kernel_rfl) (fun _ _ _ h => h) (Or.inl ⟨by rfl, ?t2h14⟩) (by assumption) ?t2r14
        case t2h14 => (intro y hSu; (try dsimp only at hSu); go_simp; first | done | with_reducible rfl)
        (try simp only [Act.put, List.setIfInBounds_toArray, List.set_cons_zero, List.set_cons_succ])
        refine takeL (i := 15) (v := ?t2v15) (some 6) rfl rfl (by kernel_rfl) (by kernel_rfl) (by kernel_rfl) (by kernel_rfl) (by kernel_rfl) (fun _ _ _ h => h) (Or.inl ⟨by rfl, ?t2h15⟩) (by assumption) ?t2r15
        case t2h15 => (intro y hSu; (try dsimp only at hSu); go_simp; first | done | with_reducible rfl)
        (try simp only [Act.put, List.setIfInBounds_toArray, List.set_cons_zero, List.set_cons_succ])
        refine doneL (by kernel_rfl) ?_ _
        refine NoPanic.normal ?_
        clear hHeld k4' q1 q2 q4' q5 q6' z0 HR
        go_wp2_with fail
        go_roundg g1'
        case measure => have h1 := unhide HGG; have h2 := (unhide HJ).1; omega
        case rel => exact ⟨b2, a', n', c', g1', rfl, rfl, rfl, (unhide HJ).2⟩
  · rw [if_neg ha] at C1
    have C1' : Hid (Calls Try.prog 33 #[.pointer (some ⟨p, 0, none⟩), .int .i64 v] w fun e w' => e = .returned (.tuple #[.pointer none, .int .i64 (askL V T v)]) ∧ w' = w) := C1
    have HE : Hid (PathL w E s T V v (.slice none 0 0) w) := ⟨Below.refl _ _, fun _ => rfl, fun z => absurd z ha⟩
    generalize askL V T v = r at *
    have z0 : (r != 0) = true := by simpa using ha
    clear h hG hR hs hN hv C1 ha
    go_enter Try.func15, Try.ntmps15
    go_wp2_with fail
    refine (unhide C1').mono ?_
    rintro e w1 ⟨rfl, hw⟩
    rw [hw]
    clear C1' hw w1
    go_wp2_with fail
    go_ret2
    exact ⟨_, _, _, rfl, HE⟩
end
end

end Go.Proofs.Ytbmcibofecigeaa
