/- entries, walked. -/
import Derived.Test.YtbmcibofecigeaaLvB142
namespace Go.Proofs.Ytbmcibofecigeaa
open Go.RowKit Go.Maps
attribute [local go_sem] run_storeF run_fieldE0 run_fieldE1
/-- Does an edge begin where a walk leads? -/
def begB (E : L14.Es) (T : L14.Tr) (d : Int) : Bool := match E d with
  | some (u, _, _) => L14.fnd T u
  | none => false
def entL (E : L14.Es) (T : L14.Tr) (I : Int → List Int) (lost : List Int) : List Int := lost.flatMap (fun v => (I v).filter (begB E T))
theorem entL_snoc (E : L14.Es) (T : L14.Tr) (I : Int → List Int) (l : List Int) (x : Int) : entL E T I (l ++ [x]) = entL E T I l ++ (I x).filter (begB E T) := by unfold entL; simp
section
variable {L : Lab} {w : World} {p mv me : Nat} {s tc : Int} {V : Int → Option Nat} {nv : Nat} {E : L14.Es} {ne : Nat} {T : L14.Tr} {O I : Int → List Int} {vs : List Int} {N : Nat}
theorem entL_ed (hG : GL V E O I vs N) {lost : List Int} {d : Int} (h : d ∈ entL E T I lost) : ∃ u x c, E d = some (u, x, c) := by
  unfold entL at h
  obtain ⟨x, -, h2⟩ := List.mem_flatMap.1 h
  obtain ⟨u, c, h3⟩ := (hG.inn x d).1 (List.mem_filter.1 h2).1
  exact ⟨u, x, c, h3⟩
theorem entL_all (hG : GL V E O I vs N) {lost : List Int} {d u x : Int} {c : Nat} (he : E d = some (u, x, c)) (hf : L14.fnd T u = true) (hx : x ∈ lost) : d ∈ entL E T I lost := by
  unfold entL
  refine List.mem_flatMap.2 ⟨x, hx, List.mem_filter.2 ⟨(hG.inn x d).2 ⟨u, c, he⟩, ?_⟩⟩
  unfold begB; rw [he]; exact hf
/-- What entries answers. -/
def EntA (w : World) (es : List Int) (x : Value) (w' : World) : Prop := BRow w.heap.size w' x es ∧ Below w.heap.size w w' ∧ es.length ≤ 40000
set_option maxHeartbeats 4000000 in
set_option maxRecDepth 100000 in
theorem ventriesT (h : LvAt L w p mv me s tc V nv E ne T O I) (hG : GL V E O I vs N) (hN : N ≤ 200) {lost : List Int} {a : Option Addr} {n c : Nat} (hl : NRow w (.slice a n c) lost) (hin : ∀ x ∈ lost, x ∈ vs) (hlen : lost.length ≤ 200) :
    Calls Try.prog 58 #[.pointer (some ⟨p, 0, none⟩), .slice a n c] w fun e w' => ∃ a n c, e = .returned (.slice a n c) ∧ Hid (EntA w (entL E T I lost) (.slice a n c) w') := by
  have HL : Hid (∀ W, Below w.heap.size w W → LvAt L W p mv me s tc V nv E ne T O I) := fun W hW => h.below hW
  have HG : Hid (GL V E O I vs N ∧ N ≤ 200 ∧ (∀ x ∈ lost, x ∈ vs) ∧ lost.length ≤ 200) := ⟨hG, hN, hin, hlen⟩
  have HLO : Hid (∀ W, Below w.heap.size w W → NRow W (.slice a n c) lost) := fun W hW => nrow_kept hl (fun b e => hW.block b (hl.lt b e).2)
  have hn : n = lost.length := by obtain ⟨_, _, e, -⟩ := brow_shape hl; injection e
  have HN := hide hn
  clear h hG hN hin hlen hl hn
  go_enter Try.func58, Try.ntmps58
  go_wp2_with fail
  go_loopw [12, 5] (fun s12 s5 wr => ∃ (i : Nat) (y : Option Addr) (yn yc : Nat), s12 = .int .i64 i ∧ s5 = .slice y yn yc ∧ Hid (∃ es, es = entL E T I (lost.take i) ∧ BRow w.heap.size wr (.slice y yn yc) es ∧ Below w.heap.size w wr ∧ i ≤ n ∧ es.length ≤ 200 * i)) (fun s12 _ _ => n - (intOf s12).toNat)
  case atStart => exact ⟨0, none, 0, 0, rfl, rfl, [], rfl, ⟨rfl, .inl ⟨rfl, rfl⟩⟩, Below.refl _ _, Nat.zero_le _, Nat.zero_le _⟩
  case round =>
    obtain ⟨i, y, yn, yc, rfl, rfl, HI⟩ := hrel
    obtain ⟨es, i0, i1, i2, i3, i4⟩ := unhide HI
    obtain ⟨hG, hN, hin, hlen⟩ := unhide HG
    have hn := unhide HN
    by_cases hlt : i < n
    · obtain ⟨x, hx⟩ : ∃ x, lost[i]? = some x := ⟨_, List.getElem?_eq_getElem (by omega)⟩
      have hlo := unhide HLO wr i2
      obtain ⟨ga, rfl⟩ := brow_some hlo (by omega)
      have k0 := brow_at hlo hx
      obtain ⟨b, ov, iv, hR2⟩ := (unhide HL w (Below.refl _ _)).read2 hG (hin x (List.mem_of_getElem? hx))
      obtain ⟨r1, k2, -, r4, -, r5⟩ := hR2 wr i2
      obtain ⟨-, d0, -⟩ := cellsSp r4
      obtain ⟨xa, xc, ex, -⟩ := brow_shape r5
      obtain ⟨xn, hxn⟩ : ∃ xn, xn = (I x).length := ⟨_, rfl⟩
      rw [← hxn] at ex
      subst ex
      have z1 : (i : Int) < (n : Int) := by omega
      have HROW : Hid (∀ W, Below w.heap.size w W → NRow W (.slice xa xn xc) (I x)) := fun W hW => (hR2 W hW).2.2.2.2.2
      have HS : Hid (∃ es, es = entL E T I (lost.take i) ++ ((I x).take 0).filter (begB E T) ∧ BRow w.heap.size wr (.slice y yn yc) es ∧ Below w.heap.size w wr ∧ es.length ≤ 200 * i + 0) := ⟨es, by rw [i0]; simp, i1, i2, i4⟩
      have HX : Hid (xn = (I x).length ∧ xn ≤ 200 ∧ i < n ∧ lost[i]? = some x ∧ n ≤ 200) := ⟨hxn, by have := hG.li x; omega, hlt, hx, by omega⟩
      clear HI i0 i1 i2 i3 i4 hG hN hin hlen hn hlt hx hlo hR2 r4 r5 hxn
      go_wp2_with fail
      clear k0 r1 k2 d0 z1
      go_loopw [26, 5] (fun s26 s5 wr => ∃ (k : Nat) (y : Option Addr) (yn yc : Nat), s26 = .int .i64 k ∧ s5 = .slice y yn yc ∧ Hid (k ≤ xn ∧ ∃ es, es = entL E T I (lost.take i) ++ ((I x).take k).filter (begB E T) ∧ BRow w.heap.size wr (.slice y yn yc) es ∧ Below w.heap.size w wr ∧ es.length ≤ 200 * i + k)) (fun s26 _ _ => xn - (intOf s26).toNat)
      case atStart =>
        obtain ⟨es, g1, g2, g3, g4⟩ := unhide HS
        exact ⟨0, _, _, _, rfl, rfl, Nat.zero_le _, es, g1, g2, g3, g4⟩
      case round =>
        clear HS
        obtain ⟨k, y, yn, yc, rfl, rfl, HI⟩ := hrel
        obtain ⟨i0, es, i1, i2, i3, i4⟩ := unhide HI
        obtain ⟨hG, hN, hin, hlen⟩ := unhide HG
        obtain ⟨m1, m2, m3, m4, m5⟩ := unhide HX
        by_cases hlt : k < xn
        · obtain ⟨e, he⟩ : ∃ e, (I x)[k]? = some e := ⟨_, List.getElem?_eq_getElem (by omega)⟩
          obtain ⟨u, cu, hE⟩ := (hG.inn x e).1 (List.mem_of_getElem? he)
          obtain ⟨bu, ov, iv, hR2⟩ := (unhide HL w (Below.refl _ _)).read2 hG (hG.ed _ _ _ _ hE).2.1
          obtain ⟨r1, k1, k2, r4, -, -⟩ := hR2 wr.drew (below_drewN i3 1)
          have r0 := (unhide HL wr.drew (below_drewN i3 1)).readE hG hE
          obtain ⟨-, -, d2, -⟩ := cellsSp r4
          have k1' : wr.cell? ⟨p, 1, none⟩ = some (.map (some mv)) := k1
          have k2' : wr.cell? ⟨p, 2, none⟩ = some (.map (some me)) := k2
          have d2' : wr.cell? ⟨bu, 2, none⟩ = some (.bool (L14.fnd T u)) := d2
          have hrw := unhide HROW wr i3
          obtain ⟨gx, rfl⟩ := brow_some hrw (by omega)
          have kk := brow_at hrw he
          obtain ⟨j, hj⟩ : ∃ j, j = k + 1 := ⟨_, rfl⟩
          have z1 : (k : Int) < (xn : Int) := by omega
          have HJ : Hid (j = k + 1 ∧ j ≤ xn ∧ xn - j < xn - k) := ⟨hj, by omega, by omega⟩
          have htk : (I x).take j = (I x).take k ++ [e] := by rw [hj, List.take_add_one, he]; rfl
          have hbg : begB E T e = L14.fnd T u := by unfold begB; rw [hE]
          cases hf : L14.fnd T u with
          | true =>
            have HA : Hid (∃ a' n' c' w', (∀ ty, (Builtin.append_ #[25, 25] ty #[.slice y yn yc, .slice (some ⟨wr.drew.heap.size, 0, none⟩) 1 1]).run Try.prog (wr.drew.alloc (.cells #[.int .i64 e] 3)) = .ok (.slice a' n' c') w') ∧ ∃ es, es = entL E T I (lost.take i) ++ ((I x).take j).filter (begB E T) ∧ BRow w.heap.size w' (.slice a' n' c') es ∧ Below w.heap.size w w' ∧ es.length ≤ 200 * i + j) := by
              have i2' : BRow w.heap.size wr.drew (.slice y yn yc) es := brow_kept i2 (fun _ _ => rfl)
              obtain ⟨a', n', c', w', r, g1, g2, -⟩ := run_app8 e i2' i3.size (by omega)
              refine ⟨a', n', c', w', r, es ++ [e], ?_, g1, (below_drewN i3 1).trans (g2.below i3.size (fun b q => (i2'.lt b q).1)), by rw [List.length_append, List.length_singleton]; omega⟩
              rw [i1, htk, List.filter_append, List.append_assoc]
              congr 2
              rw [List.filter_cons, hbg, hf]; rfl
            obtain ⟨a', n', c', w', r, HQ'⟩ := unhide HA
            have HR := hide r
            have HQ := hide HQ'
            rw [hf] at d2'
            have zk : Hid (wrap64 ((k : Int) + 1) = (j : Int)) := by show wrap64 ((k : Int) + 1) = (j : Int); unfold wrap64; omega
            clear HI i0 i1 i2 i3 i4 hG hN hin hlen m1 m2 m3 m4 m5 hlt he hE hR2 k1 k2 r4 d2 hrw hj htk hbg hf HA HQ' r
            go_upto_region 8 with fail
            refine wp_region_noPanic ?_
            refine regionL [] (fun y => y.cell? ⟨p, 1, none⟩ = some (.map (some mv)) ∧ y.cell? ⟨p, 2, none⟩ = some (.map (some me)) ∧ y.cell? ⟨bu, 2, none⟩ = some (.bool true) ∧ (Instr.lookup 48 (.map (some mv)) (.int .i64 u) false).run Try.prog y = .ok (.pointer (some ⟨bu, 0, none⟩)) y ∧ (Instr.lookup 49 (.map (some me)) (.int .i64 e) false).run Try.prog y = .ok (.agg #[.int .i64 u, .int .i64 x, .float .f32 cu]) y) (by kernel_rfl) ⟨k1', k2', d2', r1, r0⟩ (fun hHeld => ?_)
            refine takeL (i := 0) (v := ?t2v0) (some 30) rfl rfl (by kernel_rfl) (by kernel_rfl) (by kernel_rfl) (by kernel_rfl) (by kernel_rfl) (fun _ _ _ h => h) (Or.inl ⟨by rfl, ?t2h0⟩) (by assumption) ?t2r0
            case t2h0 => (intro y hSu; (try dsimp only at hSu); go_simp; first | done | with_reducible rfl)
            (try simp only [Act.put, List.setIfInBounds_toArray, List.set_cons_zero, List.set_cons_succ])
            refine takeL (i := 1) (v := ?t2v1) (some 31) rfl rfl (by kernel_rfl) (by kernel_rfl) (by kernel_rfl) (by kernel_rfl) (by kernel_rfl) (fun _ _ _ h => h) (Or.inl ⟨by rfl, ?t2h1⟩) (by assumption) ?t2r1
            case t2h1 => (intro y hSu; (try dsimp only at hSu); go_simp; first | done | with_reducible rfl)
            (try simp only [Act.put, List.setIfInBounds_toArray, List.set_cons_zero, List.set_cons_succ])
            refine takeL (i := 2) (v := ?t2v2) (some 32) rfl rfl (by kernel_rfl) (by kernel_rfl) (by kernel_rfl) (by kernel_rfl) (by kernel_rfl) (fun _ _ _ h => h) (Or.inl ⟨by rfl, ?t2h2⟩) (by assumption) ?t2r2
            case t2h2 => (intro y hSu; (try dsimp only at hSu); go_simp; first | done | with_reducible rfl)
            (try simp only [Act.put, List.setIfInBounds_toArray, List.set_cons_zero, List.set_cons_succ])
            refine takeL (i := 3) (v := ?t2v3) (some 33) rfl rfl (by kernel_rfl) (by kernel_rfl) (by kernel_rfl) (by kernel_rfl) (by kernel_rfl) (fun _ _ _ h => h) (Or.inl ⟨by rfl, ?t2h3⟩) (by assumption) ?t2r3
            case t2h3 => (intro y hSu; (try dsimp only at hSu); go_simp; first | done | with_reducible rfl)
            (try simp only [Act.put, List.setIfInBounds_toArray, List.set_cons_zero, List.set_cons_succ])
            refine takeL (i := 4) (v := ?t2v4) (some 34) rfl rfl (by kernel_rfl) (by kernel_rfl) (by kernel_rfl) (by kernel_rfl) (by kernel_rfl) (fun _ _ _ h => h) (Or.inl ⟨by rfl, ?t2h4⟩) (by assumption) ?t2r4
            case t2h4 => (intro y hSu; (try dsimp only at hSu); go_simp; first | done | with_reducible rfl)
            (try simp only [Act.put, List.setIfInBounds_toArray, List.set_cons_zero, List.set_cons_succ])
            refine takeL (i := 5) (v := ?t2v5) (some 35) rfl rfl (by kernel_rfl) (by kernel_rfl) (by kernel_rfl) (by kernel_rfl) (by kernel_rfl) (fun _ _ _ h => h) (Or.inl ⟨by rfl, ?t2h5⟩) (by assumption) ?t2r5
            case t2h5 => (intro y hSu; (try dsimp only at hSu); go_simp; first | done | with_reducible rfl)
            (try simp only [Act.put, List.setIfInBounds_toArray, List.set_cons_zero, List.set_cons_succ])
            refine takeL (i := 6) (v := ?t2v6) (some 36) rfl rfl (by kernel_rfl) (by kernel_rfl) (by kernel_rfl) (by kernel_rfl) (by kernel_rfl) (fun _ _ _ h => h) (Or.inl ⟨by rfl, ?t2h6⟩) (by assumption) ?t2r6
            case t2h6 => (intro y hSu; (try dsimp only at hSu); go_simp; first | done | with_reducible rfl)
            (try simp only [Act.put, List.setIfInBounds_toArray, List.set_cons_zero, List.set_cons_succ])
            refine takeL (i := 7) (v := ?t2v7) (some 37) rfl rfl (by kernel_rfl) (by kernel_rfl) (by kernel_rfl) (by kernel_rfl) (by kernel_rfl) (fun _ _ _ h => h) (Or.inl ⟨by rfl, ?t2h7⟩) (by assumption) ?t2r7
            case t2h7 => (intro y hSu; (try dsimp only at hSu); go_simp; first | done | with_reducible rfl)
            (try simp only [Act.put, List.setIfInBounds_toArray, List.set_cons_zero, List.set_cons_succ])
            refine takeL (i := 8) (v := ?t2v8) (some 38) rfl rfl (by kernel_rfl) (by kernel_rfl) (by kernel_rfl) (by kernel_rfl) (by kernel_rfl) (fun _ _ _ h => h) (Or.inl ⟨by rfl, ?t2h8⟩) (by assumption) ?t2r8
            case t2h8 => (intro y hSu; (try dsimp only at hSu); go_simp; first | done | with_reducible rfl)
            (try simp only [Act.put, List.setIfInBounds_toArray, List.set_cons_zero, List.set_cons_succ])
            refine takeL (i := 9) (v := ?t2v9) (some 39) rfl rfl (by kernel_rfl) (by kernel_rfl) (by kernel_rfl) (by kernel_rfl) (by kernel_rfl) (fun _ _ _ h => h) (Or.inl ⟨by rfl, ?t2h9⟩) (by assumption) ?t2r9
            case t2h9 => (intro y hSu; (try dsimp only at hSu); go_simp; first | done | with_reducible rfl)
            (try simp only [Act.put, List.setIfInBounds_toArray, List.set_cons_zero, List.set_cons_succ])
            refine takeL (i := 10) (v := ?t2v10) (some 40) rfl rfl (by kernel_rfl) (by kernel_rfl) (by kernel_rfl) (by kernel_rfl) (by kernel_rfl) (fun _ _ _ h => h) (Or.inl ⟨by rfl, ?t2h10⟩) (by assumption) ?t2r10
            case t2h10 => (intro y hSu; (try dsimp only at hSu); go_simp; first | done | with_reducible rfl)
            (try simp only [Act.put, List.setIfInBounds_toArray, List.set_cons_zero, List.set_cons_succ])
            refine takeL (i := 11) (v := ?t2v11) (some 41) rfl rfl (by kernel_rfl) (by kernel_rfl) (by kernel_rfl) (by kernel_rfl) (by kernel_rfl) (fun _ _ _ h => h) (Or.inl ⟨by rfl, ?t2h11⟩) (by assumption) ?t2r11
            case t2h11 => (intro y hSu; (try dsimp only at hSu); go_simp; first | done | with_reducible rfl)
            (try simp only [Act.put, List.setIfInBounds_toArray, List.set_cons_zero, List.set_cons_succ])
            refine takeL (i := 12) (v := ?t2v12) (some 42) rfl rfl (by kernel_rfl) (by kernel_rfl) (by kernel_rfl) (by kernel_rfl) (by kernel_rfl) (fun _ _ _ h => h) (Or.inl ⟨by rfl, ?t2h12⟩) (by assumption) ?t2r12
            case t2h12 => (intro y hSu; (try dsimp only at hSu); go_simp; first | done | with_reducible rfl)
            (try simp only [Act.put, List.setIfInBounds_toArray, List.set_cons_zero, List.set_cons_succ])
            refine takeL (i := 13) (v := ?t2v13) (some 43) rfl rfl (by kernel_rfl) (by kernel_rfl) (by kernel_rfl) (by kernel_rfl) (by kernel_rfl) (fun _ _ _ h => h) (Or.inl ⟨by rfl, ?t2h13⟩) (by assumption) ?t2r13
            case t2h13 => (intro y hSu; (try dsimp only at hSu); go_simp; first | done | with_reducible rfl)
            (try simp only [Act.put, List.setIfInBounds_toArray, List.set_cons_zero, List.set_cons_succ])
            refine takeL (i := 14) (v := ?t2v14) (some 44) rfl rfl (by kernel_rfl) (by kernel_rfl) (by kernel_rfl) (by kernel_rfl) (by kernel_rfl) (fun _ _ _ h => h) (Or.inl ⟨by rfl, ?t2h14⟩) (by assumption) ?t2r14
            case t2h14 => (intro y hSu; (try dsimp only at hSu); go_simp; first | done | with_reducible rfl)
            (try simp only [Act.put, List.setIfInBounds_toArray, List.set_cons_zero, List.set_cons_succ])
            refine doneL (by kernel_rfl) ?_ _
            refine NoPanic.normal ?_
            clear hHeld k1' k2' d2' r1 r0 kk z1
            go_wp2_with (at_builtin; refine Lib.wpList_append_run _ rfl _ _ 25 25 rfl _ _ rfl rfl _ _ (unhide HR _) ?_)
            (try rw [unhide zk])
            exact ⟨⟨j, _, _, _, rfl, rfl, (unhide HJ).2.1, unhide HQ⟩, by have := unhide HJ; simp [intOf]; omega⟩
          | false =>
            have HQ : Hid (∃ es, es = entL E T I (lost.take i) ++ ((I x).take j).filter (begB E T) ∧ BRow w.heap.size wr.drew (.slice y yn yc) es ∧ Below w.heap.size w wr.drew ∧ es.length ≤ 200 * i + j) := by
              refine ⟨es, ?_, brow_kept i2 (fun _ _ => rfl), below_drewN i3 1, by omega⟩
              rw [i1, htk, List.filter_append]
              rw [List.filter_cons, hbg, hf]; simp
            rw [hf] at d2'
            have zk : Hid (wrap64 ((k : Int) + 1) = (j : Int)) := by show wrap64 ((k : Int) + 1) = (j : Int); unfold wrap64; omega
            clear HI i0 i1 i2 i3 i4 hG hN hin hlen m1 m2 m3 m4 m5 hlt he hE hR2 k1 k2 r4 d2 hrw hj htk hbg hf
            go_upto_region 8 with fail
            refine wp_region_noPanic ?_
            refine regionL [] (fun y => y.cell? ⟨p, 1, none⟩ = some (.map (some mv)) ∧ y.cell? ⟨p, 2, none⟩ = some (.map (some me)) ∧ y.cell? ⟨bu, 2, none⟩ = some (.bool false) ∧ (Instr.lookup 48 (.map (some mv)) (.int .i64 u) false).run Try.prog y = .ok (.pointer (some ⟨bu, 0, none⟩)) y ∧ (Instr.lookup 49 (.map (some me)) (.int .i64 e) false).run Try.prog y = .ok (.agg #[.int .i64 u, .int .i64 x, .float .f32 cu]) y) (by kernel_rfl) ⟨k1', k2', d2', r1, r0⟩ (fun hHeld => ?_)
            refine takeL (i := 0) (v := ?t5v0) (some 30) rfl rfl (by kernel_rfl) (by kernel_rfl) (by kernel_rfl) (by kernel_rfl) (by kernel_rfl) (fun _ _ _ h => h) (Or.inl ⟨by rfl, ?t5h0⟩) (by assumption) ?t5r0
            case t5h0 => (intro y hSu; (try dsimp only at hSu); go_simp; first | done | with_reducible rfl)
            (try simp only [Act.put, List.setIfInBounds_toArray, List.set_cons_zero, List.set_cons_succ])
            refine takeL (i := 1) (v := ?t5v1) (some 31) rfl rfl (by kernel_rfl) (by kernel_rfl) (by kernel_rfl) (by kernel_rfl) (by kernel_rfl) (fun _ _ _ h => h) (Or.inl ⟨by rfl, ?t5h1⟩) (by assumption) ?t5r1
            case t5h1 => (intro y hSu; (try dsimp only at hSu); go_simp; first | done | with_reducible rfl)
            (try simp only [Act.put, List.setIfInBounds_toArray, List.set_cons_zero, List.set_cons_succ])
            refine takeL (i := 2) (v := ?t5v2) (some 32) rfl rfl (by kernel_rfl) (by kernel_rfl) (by kernel_rfl) (by kernel_rfl) (by kernel_rfl) (fun _ _ _ h => h) (Or.inl ⟨by rfl, ?t5h2⟩) (by assumption) ?t5r2
            case t5h2 => (intro y hSu; (try dsimp only at hSu); go_simp; first | done | with_reducible rfl)
            (try simp only [Act.put, List.setIfInBounds_toArray, List.set_cons_zero, List.set_cons_succ])
            refine takeL (i := 3) (v := ?t5v3) (some 33) rfl rfl (by kernel_rfl) (by kernel_rfl) (by kernel_rfl) (by kernel_rfl) (by kernel_rfl) (fun _ _ _ h => h) (Or.inl ⟨by rfl, ?t5h3⟩) (by assumption) ?t5r3
            case t5h3 => (intro y hSu; (try dsimp only at hSu); go_simp; first | done | with_reducible rfl)
            (try simp only [Act.put, List.setIfInBounds_toArray, List.set_cons_zero, List.set_cons_succ])
            refine takeL (i := 4) (v := ?t5v4) (some 34) rfl rfl (by kernel_rfl) (by kernel_rfl) (by kernel_rfl) (by kernel_rfl) (by kernel_rfl) (fun _ _ _ h => h) (Or.inl ⟨by rfl, ?t5h4⟩) (by assumption) ?t5r4
            case t5h4 => (intro y hSu; (try dsimp only at hSu); go_simp; first | done | with_reducible rfl)
            (try simp only [Act.put, List.setIfInBounds_toArray, List.set_cons_zero, List.set_cons_succ])
            refine takeL (i := 5) (v := ?t5v5) (some 35) rfl rfl (by kernel_rfl) (by kernel_rfl) (by kernel_rfl) (by kernel_rfl) (by kernel_rfl) (fun _ _ _ h => h) (Or.inl ⟨by rfl, ?t5h5⟩) (by assumption) ?t5r5
            case t5h5 => (intro y hSu; (try dsimp only at hSu); go_simp; first | done | with_reducible rfl)
            (try simp only [Act.put, List.setIfInBounds_toArray, List.set_cons_zero, List.set_cons_succ])
            refine takeL (i := 6) (v := ?t5v6) (some 36) rfl rfl (by kernel_rfl) (by kernel_rfl) (by kernel_rfl) (by kernel_rfl) (by kernel_rfl) (fun _ _ _ h => h) (Or.inl ⟨by rfl, ?t5h6⟩) (by assumption) ?t5r6
            case t5h6 => (intro y hSu; (try dsimp only at hSu); go_simp; first | done | with_reducible rfl)
            (try simp only [Act.put, List.setIfInBounds_toArray, List.set_cons_zero, List.set_cons_succ])
            refine takeL (i := 7) (v := ?t5v7) (some 37) rfl rfl (by kernel_rfl) (by kernel_rfl) (by kernel_rfl) (by kernel_rfl) (by kernel_rfl) (fun _ _ _ h => h) (Or.inl ⟨by rfl, ?t5h7⟩) (by assumption) ?t5r7
            case t5h7 => (intro y hSu; (try dsimp only at hSu); go_simp; first | done | with_reducible rfl)
            (try simp only [Act.put, List.setIfInBounds_toArray, List.set_cons_zero, List.set_cons_succ])
            refine takeL (i := 8) (v := ?t5v8) (some 38) rfl rfl (by kernel_rfl) (by kernel_rfl) (by kernel_rfl) (by kernel_rfl) (by kernel_rfl) (fun _ _ _ h => h) (Or.inl ⟨by rfl, ?t5h8⟩) (by assumption) ?t5r8
            case t5h8 => (intro y hSu; (try dsimp only at hSu); go_simp; first | done | with_reducible rfl)
            (try simp only [Act.put, List.setIfInBounds_toArray, List.set_cons_zero, List.set_cons_succ])
            refine takeL (i := 9) (v := ?t5v9) (some 39) rfl rfl (by kernel_rfl) (by kernel_rfl) (by kernel_rfl) (by kernel_rfl) (by kernel_rfl) (fun _ _ _ h => h) (Or.inl ⟨by rfl, ?t5h9⟩) (by assumption) ?t5r9
            case t5h9 => (intro y hSu; (try dsimp only at hSu); go_simp; first | done | with_reducible rfl)
            (try simp only [Act.put, List.setIfInBounds_toArray, List.set_cons_zero, List.set_cons_succ])
            refine takeL (i := 10) (v := ?t5v10) (some 40) rfl rfl (by kernel_rfl) (by kernel_rfl) (by kernel_rfl) (by kernel_rfl) (by kernel_rfl) (fun _ _ _ h => h) (Or.inl ⟨by rfl, ?t5h10⟩) (by assumption) ?t5r10
            case t5h10 => (intro y hSu; (try dsimp only at hSu); go_simp; first | done | with_reducible rfl)
            (try simp only [Act.put, List.setIfInBounds_toArray, List.set_cons_zero, List.set_cons_succ])
            refine takeL (i := 11) (v := ?t5v11) (some 41) rfl rfl (by kernel_rfl) (by kernel_rfl) (by kernel_rfl) (by kernel_rfl) (by kernel_rfl) (fun _ _ _ h => h) (Or.inl ⟨by rfl, ?t5h11⟩) (by assumption) ?t5r11
            case t5h11 => (intro y hSu; (try dsimp only at hSu); go_simp; first | done | with_reducible rfl)
            (try simp only [Act.put, List.setIfInBounds_toArray, List.set_cons_zero, List.set_cons_succ])
            refine takeL (i := 12) (v := ?t5v12) (some 42) rfl rfl (by kernel_rfl) (by kernel_rfl) (by kernel_rfl) (by kernel_rfl) (by kernel_rfl) (fun _ _ _ h => h) (Or.inl ⟨by rfl, ?t5h12⟩) (by assumption) ?t5r12
            case t5h12 => (intro y hSu; (try dsimp only at hSu); go_simp; first | done | with_reducible rfl)
            (try simp only [Act.put, List.setIfInBounds_toArray, List.set_cons_zero, List.set_cons_succ])
            refine takeL (i := 13) (v := ?t5v13) (some 43) rfl rfl (by kernel_rfl) (by kernel_rfl) (by kernel_rfl) (by kernel_rfl) (by kernel_rfl) (fun _ _ _ h => h) (Or.inl ⟨by rfl, ?t5h13⟩) (by assumption) ?t5r13
            case t5h13 => (intro y hSu; (try dsimp only at hSu); go_simp; first | done | with_reducible rfl)
            (try simp only [Act.put, List.setIfInBounds_toArray, List.set_cons_zero, List.set_cons_succ])
            refine takeL (i := 14) (v := ?t5v14) (some 44) rfl rfl (by kernel_rfl) (by kernel_rfl) (by kernel_rfl) (by kernel_rfl) (by kernel_rfl) (fun _ _ _ h => h) (Or.inl ⟨by rfl, ?t5h14⟩) (by assumption) ?t5r14
            case t5h14 => (intro y hSu; (try dsimp only at hSu); go_simp; first | done | with_reducible rfl)
            (try simp only [Act.put, List.setIfInBounds_toArray, List.set_cons_zero, List.set_cons_succ])
            refine doneL (by kernel_rfl) ?_ _
            refine NoPanic.normal ?_
            clear hHeld k1' k2' d2' r1 r0 kk z1
            go_wp2_with fail
            (try rw [unhide zk])
            exact ⟨⟨j, _, _, _, rfl, rfl, (unhide HJ).2.1, unhide HQ⟩, by have := unhide HJ; simp [intOf]; omega⟩
        · obtain ⟨j, hj⟩ : ∃ j, j = i + 1 := ⟨_, rfl⟩
          have HQ : Hid (j = i + 1 ∧ i < n ∧ ∃ es, es = entL E T I (lost.take j) ∧ BRow w.heap.size wr (.slice y yn yc) es ∧ Below w.heap.size w wr ∧ j ≤ n ∧ es.length ≤ 200 * j) := by
            refine ⟨hj, m3, es, ?_, i2, i3, by omega, by omega⟩
            have htk : lost.take j = lost.take i ++ [x] := by rw [hj, List.take_add_one, m4]; rfl
            rw [i1, htk, entL_snoc, show (I x).take k = I x from List.take_of_length_le (by omega)]
          have z1 : ¬ (k : Int) < (xn : Int) := by omega
          have zk : Hid (wrap64 ((i : Int) + 1) = (j : Int)) := by show wrap64 ((i : Int) + 1) = (j : Int); unfold wrap64; omega
          clear HI i0 i1 i2 i3 i4 hG hN hin hlen m1 m2 m3 m4 m5 hlt hj
          go_wp2_with fail
          (try rw [unhide zk])
          exact ⟨⟨j, _, _, _, rfl, rfl, (unhide HQ).2.2⟩, by have := unhide HQ; simp [intOf]; omega⟩
    · have z1 : ¬ (i : Int) < (n : Int) := by omega
      have HE : Hid (EntA w (entL E T I lost) (.slice y yn yc) wr) := by
        rw [List.take_of_length_le (by omega)] at i0
        rw [i0] at i1 i4
        exact ⟨i1, i2, by omega⟩
      clear HI i0 i1 i2 i3 i4 hG hN hin hlen hn hlt
      go_wp2_with fail
      go_ret
      exact ⟨_, _, _, rfl, HE⟩
end
end Go.Proofs.Ytbmcibofecigeaa
