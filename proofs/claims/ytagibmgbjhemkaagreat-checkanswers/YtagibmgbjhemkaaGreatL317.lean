/- CheckAnswers: the walk (made by mkl17.py). -/
import Derived.Test.YtagibmgbjhemkaaGreatAw17
import Derived.Test.YtagibmgbjhemkaaGreatKC17
import Derived.Test.YtagibmgbjhemkaaGreatSa16
namespace Go.Proofs.YtagibmgbjhemkaaGreat
open Go.RowKit Go.Maps
open W16 (WtV Lies u8v i64v dec decV DecAns)
theorem chkA_len {V : Int → Bool} {ps : List (EdgeV × Bool)} {bs : List Nat} (hb : ∀ x ∈ bs, x < 256) : (chkA V ps bs).1.2.2.2.length ≤ 1024 ∧ (decV bs).1.2.2.2.length ≤ 1024 := by
  unfold chkA W16.decV
  cases hd : dec bs with
  | none => exact ⟨Nat.zero_le _, Nat.zero_le _⟩
  | some x =>
    have := (dec_oks hb hd).2.2.2.1
    refine ⟨?_, this⟩
    simp only
    split
    · exact this
    · exact Nat.zero_le _
set_option maxHeartbeats 16000000 in
set_option maxRecDepth 100000 in
theorem answers17 [Inhabited EntI] (a : Option Addr) (len cap : Nat) (o : Nat → OpV) (w : World) (h : IsOps w a len o) {v : Value} {bs : List Nat} (hv : Lies u8v w v bs) (hx : ∀ x ∈ bs, x < 256) (hl : bs.length ≤ 140737488351232) :
    Calls Tryz.prog 3 #[.slice a len cap, v] w fun e w' => e = .returned (.bool true) ∧ Hid (Below w.heap.size w w') := by
  have CB := hide (builtS a len cap o w h)
  have CW : Hid (∀ W : World, Calls Tryz.prog 9 #[] W fun e w' => e = .returned (.bool true) ∧ Hid (Below W.heap.size W w')) := fun W => awake17S W
  have HV : Hid (Lies u8v w v bs ∧ (∀ x ∈ bs, x < 256) ∧ bs.length ≤ 140737488351232) := ⟨hv, hx, hl⟩
  obtain ⟨va, vc, hva⟩ := W16.lies_shape hv
  obtain ⟨bn, hbn⟩ : ∃ bn, bn = bs.length := ⟨_, rfl⟩
  rw [← hbn] at hva
  clear h hv hx hl hbn
  subst hva
  go_enter Tryz.func3, Tryz.ntmps3
  go_wp2_with fail
  refine (unhide CB).mono ?_
  rintro e w1 hh
  obtain ⟨s, a1, m1, q1, a2, m2, q2, rd, wr0, rfl, n, X, g, vs, gs, hn, hG, hs, hL, hB, hrd, hwr⟩ := unhide hh
  obtain ⟨hK, hP, hr0, hr1⟩ := kc_built hG hs hrd hwr hL hB
  have HP := hide hP
  have HR : Hid (0 ≤ rd ∧ rd ≤ 120) := ⟨hr0, by omega⟩
  have HK := hide (hK.box (oG (.slice a1 m1 q1) (.slice a2 m2 q2) rd wr0))
  generalize g.ps = ps at *
  clear hh hG hs hL hB hrd hwr CB hn hK hP hr0 hr1
  go_upto_region 2 with fail
  change Code.wp _ _ _ _ (w1.alloc (oG (.slice a1 m1 q1) (.slice a2 m2 q2) rd wr0))
  generalize w1.alloc (oG (.slice a1 m1 q1) (.slice a2 m2 q2) rd wr0) = w2 at *
  generalize w1.heap.size = b6 at *
  go_wp2_with fail
  refine (unhide CW _).mono ?_
  rintro e w3 ⟨rfl, hb3⟩
  have HK3 := hide ((unhide HK).below (unhide hb3))
  clear HK hb3 CW
  have CR := hide (kcReads (unhide HK3))
  go_wp2_with fail
  refine (unhide CR).mono ?_
  rintro e w4 ⟨rfl, hw4⟩
  rw [hw4]
  clear hw4 w4 CR
  obtain ⟨C, hC⟩ : ∃ C, C = chkA (fun k => decide (k ∈ vs)) ps bs := ⟨_, rfl⟩
  obtain ⟨D, hD⟩ : ∃ D, D = decV bs := ⟨_, rfl⟩
  have hlen := chkA_len (V := fun k => decide (k ∈ vs)) (ps := ps) (unhide HV).2.1
  rw [← hC, ← hD] at hlen
  have HC : Hid (C = chkA (fun k => decide (k ∈ vs)) ps bs ∧ D = decV bs) := ⟨hC, hD⟩
  clear hC hD
  obtain ⟨⟨F, T, u, es⟩, pl, cd⟩ := C
  obtain ⟨⟨dF, dT, du, ds⟩, dc⟩ := D
  have HLN : Hid (es.length ≤ 1024 ∧ ds.length ≤ 1024) := hlen
  clear hlen
  obtain ⟨v5, c5, n5, w5, hr5, g1, g2⟩ := W16.newB (W16.lies_below (unhide HV).1 (unhide HK3).out) (by have := (unhide HV).2.2; omega)
  have HR5 := hide hr5
  have CD := hide (kcCheck (unhide HP) ((unhide HK3).below g2) (W16.byrow_lies g1) (unhide HV).2.1 (by have := (unhide HV).2.2; omega) (fun g e => (g1.lt g e).2) (unhide HR).1 (by have := (unhide HR).2; omega))
  rw [← (unhide HC).1, ← (unhide HC).2] at CD
  clear hr5 g1 g2 HK3
  go_wp2_with (at_builtin; refine Lib.wpList_append_run _ rfl _ _ 23 23 rfl _ _ rfl rfl _ _ (unhide HR5 _) ?_)
  refine (unhide CD).mono ?_
  intro e w6 H6
  obtain ⟨ev, k, rfl, k1, hK6⟩ := unhide H6
  simp only at hK6 k1 ⊢
  obtain ⟨ea, ec, hev⟩ := W16.rrow_shape (hK6.getr (List.mem_cons_self ..))
  obtain ⟨en, hen⟩ : ∃ en, en = es.length := ⟨_, rfl⟩
  rw [← hen] at hev
  clear hen
  subst hev
  have HK7 := hide (hK6.box (oWt F T u (.slice ea en ec)))
  have HKK : Hid (k ≤ ds.length ∧ rd + (k : Int) ≤ 2000) := ⟨k1, by have := (unhide HR).2; have := (unhide HLN).2; omega⟩
  clear CD H6 hK6 k1 HR5
  go_upto_region 6 with fail
  change Code.wp _ _ _ _ (w6.alloc (oWt F T u (.slice ea en ec)))
  generalize w6.alloc (oWt F T u (.slice ea en ec)) = w7 at *
  generalize w6.heap.size = b9 at *
  have CRf := hide (kcRefCheck (rd' := rd) (wr' := wr0) (unhide HP) (unhide HK7) (unhide HV).1 (unhide HV).2.1 (by have := (unhide HV).2.2; omega))
  rw [← (unhide HC).1] at CRf
  obtain ⟨c0, c1, c2, c3, -⟩ := cellsG ((unhide HK7).get (b := b6) (o := oG (.slice a1 m1 q1) (.slice a2 m2 q2) rd wr0) (by simp))
  go_wp2_with fail
  refine (unhide CRf).mono ?_
  intro e w8 H8
  obtain ⟨ev8, rfl, g1, g2⟩ := unhide H8
  simp only at g1 ⊢
  have hK8 := (unhide HK7).row (Nat.le_refl _) g2 g1
  obtain ⟨ea8, ec8, hev⟩ := W16.rrow_shape g1
  obtain ⟨en8, hen⟩ : ∃ en8, en8 = es.length := ⟨_, rfl⟩
  rw [← hen] at hev
  clear hen
  subst hev
  have HK9 := hide (hK8.box (oWt F T u (.slice ea8 en8 ec8)))
  clear CRf H8 g1 g2 HK7 hK8 c0 c1 c2 c3
  go_upto_region 7 with fail
  change Code.wp _ _ _ _ (w8.alloc (oWt F T u (.slice ea8 en8 ec8)))
  generalize w8.alloc (oWt F T u (.slice ea8 en8 ec8)) = w9 at *
  generalize w8.heap.size = b12 at *
  have CDd := hide (W16.decodeR (W16.lies_below (unhide HV).1 (unhide HK9).out) (unhide HV).2.1 (by have := (unhide HV).2.2; omega))
  rw [← (unhide HC).2] at CDd
  go_wp2_with fail
  refine (unhide CDd).mono ?_
  intro e w10 H10
  obtain ⟨ev10, rfl, g1, g2⟩ := unhide H10
  simp only at g1 ⊢
  have hK10 := (unhide HK9).row (Nat.le_refl _) g2 g1
  obtain ⟨da, dcp, hev⟩ := W16.rrow_shape g1
  obtain ⟨dn, hdn⟩ : ∃ dn, dn = ds.length := ⟨_, rfl⟩
  rw [← hdn] at hev
  have HDN := hide hdn
  clear hdn
  subst hev
  have HK11 := hide (hK10.box (oWt dF dT du (.slice da dn dcp)))
  clear CDd H10 g1 g2 HK9 hK10 HC HV
  go_upto_region 8 with fail
  change Code.wp _ _ _ _ (w10.alloc (oWt dF dT du (.slice da dn dcp)))
  generalize w10.alloc (oWt dF dT du (.slice da dn dcp)) = w11 at *
  generalize w10.heap.size = b15 at *
  have HCELL : Hid (∀ W, Below w11.heap.size w11 W → ((W.cell? ⟨b9, 0, none⟩ = some (.int .i64 F) ∧ W.cell? ⟨b9, 1, none⟩ = some (.int .i64 T) ∧ W.cell? ⟨b9, 2, none⟩ = some (.int .u32 (u : Nat)) ∧ W.cell? ⟨b9, 3, none⟩ = some (.slice ea en ec)) ∧ (W.cell? ⟨b12, 0, none⟩ = some (.int .i64 F) ∧ W.cell? ⟨b12, 1, none⟩ = some (.int .i64 T) ∧ W.cell? ⟨b12, 2, none⟩ = some (.int .u32 (u : Nat)) ∧ W.cell? ⟨b12, 3, none⟩ = some (.slice ea8 en8 ec8)) ∧ W.cell? ⟨b15, 3, none⟩ = some (.slice da dn dcp) ∧ W.cell? ⟨b6, 3, none⟩ = some (.int .i64 wr0)) ∧ KC [(b15, oWt dF dT du (.slice da dn dcp)), (b12, oWt F T u (.slice ea8 en8 ec8)), (b9, oWt F T u (.slice ea en ec)), (b6, oG (.slice a1 m1 q1) (.slice a2 m2 q2) rd wr0)] [(.slice da dn dcp, ds), (.slice ea8 en8 ec8, es), (.slice ea en ec, es)] w s ps (.slice a1 m1 q1) (.slice a2 m2 q2) (rd + (k : Int)) wr0 vs gs W) := fun W hW => by
    have hK := (unhide HK11).below hW
    obtain ⟨x0, x1, x2, x3⟩ := oWt_cells (hK.get (b := b9) (o := oWt F T u (.slice ea en ec)) (by simp))
    obtain ⟨y0, y1, y2, y3⟩ := oWt_cells (hK.get (b := b12) (o := oWt F T u (.slice ea8 en8 ec8)) (by simp))
    obtain ⟨z0, z1, z2, z3⟩ := oWt_cells (hK.get (b := b15) (o := oWt dF dT du (.slice da dn dcp)) (by simp))
    obtain ⟨c0, c1, c2, c3, -⟩ := cellsG (hK.get (b := b6) (o := oG (.slice a1 m1 q1) (.slice a2 m2 q2) rd wr0) (by simp))
    exact ⟨⟨⟨x0, x1, x2, x3⟩, ⟨y0, y1, y2, y3⟩, z3, c3⟩, hK⟩
  have CS : Hid (∀ W, Below w11.heap.size w11 W → Calls Tryz.prog 14 #[.agg #[.int .i64 F, .int .i64 T, .int .u32 (u : Nat), .slice ea en ec], .agg #[.int .i64 F, .int .i64 T, .int .u32 (u : Nat), .slice ea8 en8 ec8]] W fun e w' => e = .returned (.bool true) ∧ Hid (Below w11.heap.size w11 w')) := fun W hW => by
    have hK := (unhide HCELL W hW).2
    have := W16.sameR F T F T u u (W16.nrow_lies (hK.getr (v := .slice ea en ec) (ks := es) (by simp))) (W16.nrow_lies (hK.getr (v := .slice ea8 en8 ec8) (ks := es) (by simp))) (by have := (unhide HLN).1; omega)
    refine this.mono ?_
    rintro e w' ⟨rfl, hh⟩
    exact ⟨by simp, hW.trans ((unhide hh).mono hW.size)⟩
  have CRd : Hid (∀ W, Below w11.heap.size w11 W → Calls Tryz.prog 10 #[.pointer (some ⟨s, 0, none⟩)] W fun e w' => e = .returned (.int .i64 (rd + (k : Int))) ∧ w' = W) := fun W hW => kcReads (unhide HCELL W hW).2
  have CWr : Hid (∀ W, Below w11.heap.size w11 W → Calls Tryz.prog 15 #[.pointer (some ⟨s, 0, none⟩)] W fun e w' => e = .returned (.int .i64 wr0) ∧ w' = W) := fun W hW => kcWrites (unhide HCELL W hW).2
  have HOUT : Hid (∀ W, Below w11.heap.size w11 W → Below w.heap.size w W) := fun W hW => (unhide HCELL W hW).2.out
  obtain ⟨hr0, hr1⟩ := unhide HR
  obtain ⟨hk1, hk2⟩ := unhide HKK
  have hdn := unhide HDN
  have zs : IntKind.i64.wrap (rd + (k : Int) - rd) = (k : Int) := by rw [IntKind.wrap_i64]; omega
  have zl : (k : Int) ≤ (dn : Int) := by omega
  have zg : rd ≤ rd + (k : Int) := by omega
  generalize hrk : rd + (k : Int) = rk at *
  clear HK11 hr0 hr1 hk1 hk2 hdn HR HKK HDN HLN hrk HP
  have hS := (unhide HCELL w11 (Below.refl _ _)).1
  refine wp_region_noPanic ?_
  refine regionL [] (fun y => (y.cell? ⟨b9, 0, none⟩ = some (.int .i64 F) ∧ y.cell? ⟨b9, 1, none⟩ = some (.int .i64 T) ∧ y.cell? ⟨b9, 2, none⟩ = some (.int .u32 (u : Nat)) ∧ y.cell? ⟨b9, 3, none⟩ = some (.slice ea en ec)) ∧ (y.cell? ⟨b12, 0, none⟩ = some (.int .i64 F) ∧ y.cell? ⟨b12, 1, none⟩ = some (.int .i64 T) ∧ y.cell? ⟨b12, 2, none⟩ = some (.int .u32 (u : Nat)) ∧ y.cell? ⟨b12, 3, none⟩ = some (.slice ea8 en8 ec8)) ∧ y.cell? ⟨b15, 3, none⟩ = some (.slice da dn dcp) ∧ y.cell? ⟨b6, 3, none⟩ = some (.int .i64 wr0)) (by kernel_rfl) hS (fun hHeld => ?_)
  refine takeL (i := 0) (v := ?t2v0) (some 53) rfl rfl (by kernel_rfl) (by kernel_rfl) (by kernel_rfl) (by kernel_rfl) (by kernel_rfl) (fun _ _ _ h => h) (Or.inl ⟨by rfl, ?t2h0⟩) (by assumption) ?t2r0
  case t2h0 => (intro y hSu; (try dsimp only at hSu); go_simp; first | done | with_reducible rfl)
  (try simp only [Act.put, List.setIfInBounds_toArray, List.set_cons_zero, List.set_cons_succ])
  refine takeL (i := 1) (v := ?t2v1) (some 54) rfl rfl (by kernel_rfl) (by kernel_rfl) (by kernel_rfl) (by kernel_rfl) (by kernel_rfl) (fun _ _ _ h => h) (Or.inl ⟨by rfl, ?t2h1⟩) (by assumption) ?t2r1
  case t2h1 => (intro y hSu; (try dsimp only at hSu); go_simp; first | done | with_reducible rfl)
  (try simp only [Act.put, List.setIfInBounds_toArray, List.set_cons_zero, List.set_cons_succ])
  refine takeL (i := 2) (v := ?t2v2) (some 55) rfl rfl (by kernel_rfl) (by kernel_rfl) (by kernel_rfl) (by kernel_rfl) (by kernel_rfl) (fun _ _ _ h => h) (Or.inl ⟨by rfl, ?t2h2⟩) (by assumption) ?t2r2
  case t2h2 => (intro y hSu; (try dsimp only at hSu); go_simp; first | done | with_reducible rfl)
  (try simp only [Act.put, List.setIfInBounds_toArray, List.set_cons_zero, List.set_cons_succ])
  refine takeL (i := 3) (v := ?t2v3) (some 56) rfl rfl (by kernel_rfl) (by kernel_rfl) (by kernel_rfl) (by kernel_rfl) (by kernel_rfl) (fun _ _ _ h => h) (Or.inl ⟨by rfl, ?t2h3⟩) (by assumption) ?t2r3
  case t2h3 => (intro y hSu; (try dsimp only at hSu); go_simp; first | done | with_reducible rfl)
  (try simp only [Act.put, List.setIfInBounds_toArray, List.set_cons_zero, List.set_cons_succ])
  refine takeL (i := 4) (v := ?t2v4) (some 57) rfl rfl (by kernel_rfl) (by kernel_rfl) (by kernel_rfl) (by kernel_rfl) (by kernel_rfl) (fun _ _ _ h => h) (Or.inl ⟨by rfl, ?t2h4⟩) (by assumption) ?t2r4
  case t2h4 => (intro y hSu; (try dsimp only at hSu); go_simp; first | done | with_reducible rfl)
  (try simp only [Act.put, List.setIfInBounds_toArray, List.set_cons_zero, List.set_cons_succ])
  refine takeL (i := 5) (v := ?t2v5) (some 58) rfl rfl (by kernel_rfl) (by kernel_rfl) (by kernel_rfl) (by kernel_rfl) (by kernel_rfl) (fun _ _ _ h => h) (Or.inl ⟨by rfl, ?t2h5⟩) (by assumption) ?t2r5
  case t2h5 => (intro y hSu; (try dsimp only at hSu); go_simp; first | done | with_reducible rfl)
  (try simp only [Act.put, List.setIfInBounds_toArray, List.set_cons_zero, List.set_cons_succ])
  refine takeL (i := 6) (v := ?t2v6) (some 59) rfl rfl (by kernel_rfl) (by kernel_rfl) (by kernel_rfl) (by kernel_rfl) (by kernel_rfl) (fun _ _ _ h => h) (Or.inl ⟨by rfl, ?t2h6⟩) (by assumption) ?t2r6
  case t2h6 => (intro y hSu; (try dsimp only at hSu); go_simp; first | done | with_reducible rfl)
  (try simp only [Act.put, List.setIfInBounds_toArray, List.set_cons_zero, List.set_cons_succ])
  refine takeL (i := 7) (v := ?t2v7) (some 60) rfl rfl (by kernel_rfl) (by kernel_rfl) (by kernel_rfl) (by kernel_rfl) (by kernel_rfl) (fun _ _ _ h => h) (Or.inl ⟨by rfl, ?t2h7⟩) (by assumption) ?t2r7
  case t2h7 => (intro y hSu; (try dsimp only at hSu); go_simp; first | done | with_reducible rfl)
  (try simp only [Act.put, List.setIfInBounds_toArray, List.set_cons_zero, List.set_cons_succ])
  refine takeL (i := 8) (v := ?t2v8) (some 61) rfl rfl (by kernel_rfl) (by kernel_rfl) (by kernel_rfl) (by kernel_rfl) (by kernel_rfl) (fun _ _ _ h => h) (Or.inl ⟨by rfl, ?t2h8⟩) (by assumption) ?t2r8
  case t2h8 => (intro y hSu; (try dsimp only at hSu); go_simp; first | done | with_reducible rfl)
  (try simp only [Act.put, List.setIfInBounds_toArray, List.set_cons_zero, List.set_cons_succ])
  refine takeL (i := 9) (v := ?t2v9) (some 62) rfl rfl (by kernel_rfl) (by kernel_rfl) (by kernel_rfl) (by kernel_rfl) (by kernel_rfl) (fun _ _ _ h => h) (Or.inl ⟨by rfl, ?t2h9⟩) (by assumption) ?t2r9
  case t2h9 => (intro y hSu; (try dsimp only at hSu); go_simp; first | done | with_reducible rfl)
  (try simp only [Act.put, List.setIfInBounds_toArray, List.set_cons_zero, List.set_cons_succ])
  refine takeL (i := 10) (v := ?t2v10) (some 63) rfl rfl (by kernel_rfl) (by kernel_rfl) (by kernel_rfl) (by kernel_rfl) (by kernel_rfl) (fun _ _ _ h => h) (Or.inl ⟨by rfl, ?t2h10⟩) (by assumption) ?t2r10
  case t2h10 => (intro y hSu; (try dsimp only at hSu); go_simp; first | done | with_reducible rfl)
  (try simp only [Act.put, List.setIfInBounds_toArray, List.set_cons_zero, List.set_cons_succ])
  refine readyL (i := 11) (by kernel_rfl) rfl (fun K hK => ?_)
  go_simp
  refine (unhide CS _ ((Below.refl _ _).drew)).mono ?_
  rintro e w12 ⟨rfl, H12⟩
  have hS12 := (unhide HCELL w12 (unhide H12)).1
  (try dsimp only)
  refine hK.out _ _ (fun _ => hS12) ?_
  clear hK K
  (try simp only [Act.put, List.setIfInBounds_toArray, List.set_cons_zero, List.set_cons_succ])
  have hH4 := hS12
  refine takeL (i := 12) (v := ?t5v12) (some 65) rfl rfl (by kernel_rfl) (by kernel_rfl) (by kernel_rfl) (by kernel_rfl) (by kernel_rfl) (fun _ _ _ h => h) (Or.inl ⟨by rfl, ?t5h12⟩) (by assumption) ?t5r12
  case t5h12 => (intro y hSu; (try dsimp only at hSu); go_simp; first | done | with_reducible rfl)
  (try simp only [Act.put, List.setIfInBounds_toArray, List.set_cons_zero, List.set_cons_succ])
  refine takeL (i := 13) (v := ?t5v13) (some 66) rfl rfl (by kernel_rfl) (by kernel_rfl) (by kernel_rfl) (by kernel_rfl) (by kernel_rfl) (fun _ _ _ h => h) (Or.inl ⟨by rfl, ?t5h13⟩) (by assumption) ?t5r13
  case t5h13 => (intro y hSu; (try dsimp only at hSu); go_simp; first | done | with_reducible rfl)
  (try simp only [Act.put, List.setIfInBounds_toArray, List.set_cons_zero, List.set_cons_succ])
  refine takeL (i := 14) (v := ?t5v14) (some 67) rfl rfl (by kernel_rfl) (by kernel_rfl) (by kernel_rfl) (by kernel_rfl) (by kernel_rfl) (fun _ _ _ h => h) (Or.inl ⟨by rfl, ?t5h14⟩) (by assumption) ?t5r14
  case t5h14 => (intro y hSu; (try dsimp only at hSu); go_simp; first | done | with_reducible rfl)
  (try simp only [Act.put, List.setIfInBounds_toArray, List.set_cons_zero, List.set_cons_succ])
  refine takeL (i := 16) (v := ?t5v16) (some 69) rfl rfl (by kernel_rfl) (by kernel_rfl) (by kernel_rfl) (by kernel_rfl) (by kernel_rfl) (fun _ _ _ h => h) (Or.inl ⟨by rfl, ?t5h16⟩) (by assumption) ?t5r16
  case t5h16 => (intro y hSu; (try dsimp only at hSu); go_simp; first | done | with_reducible rfl)
  (try simp only [Act.put, List.setIfInBounds_toArray, List.set_cons_zero, List.set_cons_succ])
  refine takeL (i := 18) (v := ?t5v18) (some 71) rfl rfl (by kernel_rfl) (by kernel_rfl) (by kernel_rfl) (by kernel_rfl) (by kernel_rfl) (fun _ _ _ h => h) (Or.inl ⟨by rfl, ?t5h18⟩) (by assumption) ?t5r18
  case t5h18 => (intro y hSu; (try dsimp only at hSu); go_simp; first | done | with_reducible rfl)
  (try simp only [Act.put, List.setIfInBounds_toArray, List.set_cons_zero, List.set_cons_succ])
  refine takeL (i := 19) (v := ?t5v19) (some 72) rfl rfl (by kernel_rfl) (by kernel_rfl) (by kernel_rfl) (by kernel_rfl) (by kernel_rfl) (fun _ _ _ h => h) (Or.inl ⟨by rfl, ?t5h19⟩) (by assumption) ?t5r19
  case t5h19 => (intro y hSu; (try dsimp only at hSu); go_simp; first | done | with_reducible rfl)
  (try simp only [Act.put, List.setIfInBounds_toArray, List.set_cons_zero, List.set_cons_succ])
  refine takeL (i := 20) (v := ?t5v20) (some 73) rfl rfl (by kernel_rfl) (by kernel_rfl) (by kernel_rfl) (by kernel_rfl) (by kernel_rfl) (fun _ _ _ h => h) (Or.inl ⟨by rfl, ?t5h20⟩) (by assumption) ?t5r20
  case t5h20 => (intro y hSu; (try dsimp only at hSu); go_simp; first | done | with_reducible rfl)
  (try simp only [Act.put, List.setIfInBounds_toArray, List.set_cons_zero, List.set_cons_succ])
  refine readyL (i := 15) (by kernel_rfl) rfl (fun K hK => ?_)
  go_simp
  refine (unhide CRd _ (unhide H12)).mono ?_
  rintro e w13 ⟨rfl, hw13⟩
  rw [hw13]
  clear hw13
  (try dsimp only)
  refine hK.out _ _ (fun _ => hS12) ?_
  clear hK K
  (try simp only [Act.put, List.setIfInBounds_toArray, List.set_cons_zero, List.set_cons_succ])
  have hH7 := hS12
  refine takeL (i := 17) (v := ?t8v17) (some 70) rfl rfl (by kernel_rfl) (by kernel_rfl) (by kernel_rfl) (by kernel_rfl) (by kernel_rfl) (fun _ _ _ h => h) (Or.inl ⟨by rfl, ?t8h17⟩) (by assumption) ?t8r17
  case t8h17 => (intro y hSu; (try dsimp only at hSu); go_simp; first | done | with_reducible rfl)
  (try simp only [Act.put, List.setIfInBounds_toArray, List.set_cons_zero, List.set_cons_succ])
  refine takeL (i := 21) (v := ?t8v21) (some 74) rfl rfl (by kernel_rfl) (by kernel_rfl) (by kernel_rfl) (by kernel_rfl) (by kernel_rfl) (fun _ _ _ h => h) (Or.inl ⟨by rfl, ?t8h21⟩) (by assumption) ?t8r21
  case t8h21 => (intro y hSu; (try dsimp only at hSu); go_simp; first | done | with_reducible rfl)
  (try simp only [Act.put, List.setIfInBounds_toArray, List.set_cons_zero, List.set_cons_succ])
  refine takeL (i := 22) (v := ?t8v22) (some 75) rfl rfl (by kernel_rfl) (by kernel_rfl) (by kernel_rfl) (by kernel_rfl) (by kernel_rfl) (fun _ _ _ h => h) (Or.inl ⟨by rfl, ?t8h22⟩) (by assumption) ?t8r22
  case t8h22 => (intro y hSu; (try dsimp only at hSu); go_simp; first | done | with_reducible rfl)
  (try simp only [Act.put, List.setIfInBounds_toArray, List.set_cons_zero, List.set_cons_succ])
  refine takeL (i := 23) (v := ?t8v23) (some 76) rfl rfl (by kernel_rfl) (by kernel_rfl) (by kernel_rfl) (by kernel_rfl) (by kernel_rfl) (fun _ _ _ h => h) (Or.inl ⟨by rfl, ?t8h23⟩) (by assumption) ?t8r23
  case t8h23 => (intro y hSu; (try dsimp only at hSu); go_simp; first | done | with_reducible rfl)
  (try simp only [Act.put, List.setIfInBounds_toArray, List.set_cons_zero, List.set_cons_succ])
  refine takeL (i := 24) (v := ?t8v24) (some 77) rfl rfl (by kernel_rfl) (by kernel_rfl) (by kernel_rfl) (by kernel_rfl) (by kernel_rfl) (fun _ _ _ h => h) (Or.inl ⟨by rfl, ?t8h24⟩) (by assumption) ?t8r24
  case t8h24 => (intro y hSu; (try dsimp only at hSu); go_simp; first | done | with_reducible rfl)
  (try simp only [Act.put, List.setIfInBounds_toArray, List.set_cons_zero, List.set_cons_succ])
  refine takeL (i := 26) (v := ?t8v26) (some 79) rfl rfl (by kernel_rfl) (by kernel_rfl) (by kernel_rfl) (by kernel_rfl) (by kernel_rfl) (fun _ _ _ h => h) (Or.inl ⟨by rfl, ?t8h26⟩) (by assumption) ?t8r26
  case t8h26 => (intro y hSu; (try dsimp only at hSu); go_simp; first | done | with_reducible rfl)
  (try simp only [Act.put, List.setIfInBounds_toArray, List.set_cons_zero, List.set_cons_succ])
  refine readyL (i := 25) (by kernel_rfl) rfl (fun K hK => ?_)
  go_simp
  refine (unhide CRd _ (unhide H12)).mono ?_
  rintro e w13 ⟨rfl, hw13⟩
  rw [hw13]
  clear hw13
  (try dsimp only)
  refine hK.out _ _ (fun _ => hS12) ?_
  clear hK K
  (try simp only [Act.put, List.setIfInBounds_toArray, List.set_cons_zero, List.set_cons_succ])
  have hH10 := hS12
  refine takeL (i := 27) (v := ?t11v27) (some 80) rfl rfl (by kernel_rfl) (by kernel_rfl) (by kernel_rfl) (by kernel_rfl) (by kernel_rfl) (fun _ _ _ h => h) (Or.inl ⟨by rfl, ?t11h27⟩) (by assumption) ?t11r27
  case t11h27 => (intro y hSu; (try dsimp only at hSu); go_simp; first | done | with_reducible rfl)
  (try simp only [Act.put, List.setIfInBounds_toArray, List.set_cons_zero, List.set_cons_succ])
  refine takeL (i := 28) (v := ?t11v28) (some 81) rfl rfl (by kernel_rfl) (by kernel_rfl) (by kernel_rfl) (by kernel_rfl) (by kernel_rfl) (fun _ _ _ h => h) (Or.inl ⟨by rfl, ?t11h28⟩) (by assumption) ?t11r28
  case t11h28 => (intro y hSu; (try dsimp only at hSu); go_simp; first | done | with_reducible rfl)
  (try simp only [Act.put, List.setIfInBounds_toArray, List.set_cons_zero, List.set_cons_succ])
  refine takeL (i := 29) (v := ?t11v29) (some 82) rfl rfl (by kernel_rfl) (by kernel_rfl) (by kernel_rfl) (by kernel_rfl) (by kernel_rfl) (fun _ _ _ h => h) (Or.inl ⟨by rfl, ?t11h29⟩) (by assumption) ?t11r29
  case t11h29 => (intro y hSu; (try dsimp only at hSu); go_simp; first | done | with_reducible rfl)
  (try simp only [Act.put, List.setIfInBounds_toArray, List.set_cons_zero, List.set_cons_succ])
  refine takeL (i := 30) (v := ?t11v30) (some 83) rfl rfl (by kernel_rfl) (by kernel_rfl) (by kernel_rfl) (by kernel_rfl) (by kernel_rfl) (fun _ _ _ h => h) (Or.inl ⟨by rfl, ?t11h30⟩) (by assumption) ?t11r30
  case t11h30 => (intro y hSu; (try dsimp only at hSu); go_simp; first | done | with_reducible rfl)
  (try simp only [Act.put, List.setIfInBounds_toArray, List.set_cons_zero, List.set_cons_succ])
  refine takeL (i := 32) (v := ?t11v32) (some 85) rfl rfl (by kernel_rfl) (by kernel_rfl) (by kernel_rfl) (by kernel_rfl) (by kernel_rfl) (fun _ _ _ h => h) (Or.inl ⟨by rfl, ?t11h32⟩) (by assumption) ?t11r32
  case t11h32 => (intro y hSu; (try dsimp only at hSu); go_simp; first | done | with_reducible rfl)
  (try simp only [Act.put, List.setIfInBounds_toArray, List.set_cons_zero, List.set_cons_succ])
  refine takeL (i := 33) (v := ?t11v33) (some 86) rfl rfl (by kernel_rfl) (by kernel_rfl) (by kernel_rfl) (by kernel_rfl) (by kernel_rfl) (fun _ _ _ h => h) (Or.inl ⟨by rfl, ?t11h33⟩) (by assumption) ?t11r33
  case t11h33 => (intro y hSu; (try dsimp only at hSu); go_simp; first | done | with_reducible rfl)
  (try simp only [Act.put, List.setIfInBounds_toArray, List.set_cons_zero, List.set_cons_succ])
  refine readyL (i := 31) (by kernel_rfl) rfl (fun K hK => ?_)
  go_simp
  refine (unhide CWr _ (unhide H12)).mono ?_
  rintro e w13 ⟨rfl, hw13⟩
  rw [hw13]
  clear hw13
  (try dsimp only)
  refine hK.out _ _ (fun _ => hS12) ?_
  clear hK K
  (try simp only [Act.put, List.setIfInBounds_toArray, List.set_cons_zero, List.set_cons_succ])
  have hH13 := hS12
  refine takeL (i := 34) (v := ?t14v34) (some 87) rfl rfl (by kernel_rfl) (by kernel_rfl) (by kernel_rfl) (by kernel_rfl) (by kernel_rfl) (fun _ _ _ h => h) (Or.inl ⟨by rfl, ?t14h34⟩) (by assumption) ?t14r34
  case t14h34 => (intro y hSu; (try dsimp only at hSu); go_simp; first | done | with_reducible rfl)
  (try simp only [Act.put, List.setIfInBounds_toArray, List.set_cons_zero, List.set_cons_succ])
  refine takeL (i := 35) (v := ?t14v35) (some 88) rfl rfl (by kernel_rfl) (by kernel_rfl) (by kernel_rfl) (by kernel_rfl) (by kernel_rfl) (fun _ _ _ h => h) (Or.inl ⟨by rfl, ?t14h35⟩) (by assumption) ?t14r35
  case t14h35 => (intro y hSu; (try dsimp only at hSu); go_simp; first | done | with_reducible rfl)
  (try simp only [Act.put, List.setIfInBounds_toArray, List.set_cons_zero, List.set_cons_succ])
  refine takeL (i := 36) (v := ?t14v36) (some 4) rfl rfl (by kernel_rfl) (by kernel_rfl) (by kernel_rfl) (by kernel_rfl) (by kernel_rfl) (fun _ _ _ h => h) (Or.inl ⟨by rfl, ?t14h36⟩) (by assumption) ?t14r36
  case t14h36 => (intro y hSu; (try dsimp only at hSu); go_simp; first | done | with_reducible rfl)
  (try simp only [Act.put, List.setIfInBounds_toArray, List.set_cons_zero, List.set_cons_succ])
  refine doneL (by kernel_rfl) ?_ _
  refine NoPanic.normal ?_
  have HE := hide (unhide HOUT _ (unhide H12))
  clear hHeld HCELL CS CRd CWr HOUT hS hS12 H12
  go_wp2_with fail
  go_ret
  exact ⟨rfl, HE⟩
end Go.Proofs.YtagibmgbjhemkaaGreat
