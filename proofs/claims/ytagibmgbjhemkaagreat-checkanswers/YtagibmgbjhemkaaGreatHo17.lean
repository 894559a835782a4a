/- hold: what is told, against a store. -/
import Derived.Test.YtagibmgbjhemkaaGreatNr17
namespace Go.Proofs.YtagibmgbjhemkaaGreat
open Go.RowKit Go.Maps
/-- What hold answers: the place, the error. -/
def holdA (hF hT : Bool) (t : List EdgeV × Option Int) (F T : Int) (u : Nat) : Nat × Int :=
  if hF = false ∨ hT = false then (0, 5) else if t.2 ≠ none then (t.1.length, tCode t) else if endOf F t.1 ≠ T then (0, 170) else if costOf t.1 ≠ u then (0, 171) else (0, 0)
/-- Some records of the store were read, at most n. -/
def RdT [Inhabited EntI] (w : World) (X : Sto) (n : Nat) (w' : World) : Prop := ∃ k : Nat, k ≤ n ∧ Step w X w' { X with rd := X.rd + (k : Int) }
theorem RdT.zero [Inhabited EntI] {w w' : World} {X : Sto} {n : Nat} (h : StAt w X) (hb : Below w.heap.size w w') : RdT w X n w' := ⟨0, Nat.zero_le _, by have := Step.below h hb; simpa using this⟩
theorem rdT_of [Inhabited EntI] {w w1 w' : World} {X : Sto} {m n : Nat} (hb : Below w.heap.size w w1) (h : RdM w1 X m n w') (hm : w.heap.size ≤ m) : RdT w X n w' := by
  obtain ⟨⟨k, h1, h2⟩, h3⟩ := h
  refine ⟨k, h1, h2, rfl, (turned_of_below hb).then_ h3 (fun i hi hs => hs.elim id (fun e => by omega)), fun b hb => .inl hb⟩
def oWt (F T : Int) (u : Nat) (ev : Value) : Obj := .cells #[.int .i64 F, .int .i64 T, .int .u32 (u : Nat), ev] 35
theorem oWt_cells {w : World} {b : Nat} {F T : Int} {u : Nat} {ev : Value} (h : w.heap[b]? = some (oWt F T u ev)) :
    w.cell? ⟨b, 0, none⟩ = some (.int .i64 F) ∧ w.cell? ⟨b, 1, none⟩ = some (.int .i64 T) ∧ w.cell? ⟨b, 2, none⟩ = some (.int .u32 (u : Nat)) ∧ w.cell? ⟨b, 3, none⟩ = some ev :=
  ⟨(cell_of_row _ _ 0 _ _ (0, 0) h).trans rfl, (cell_of_row _ _ 1 _ _ (0, 0) h).trans rfl, (cell_of_row _ _ 2 _ _ (0, 0) h).trans rfl, (cell_of_row _ _ 3 _ _ (0, 0) h).trans rfl⟩

set_option maxHeartbeats 4000000 in
set_option maxRecDepth 100000 in
theorem holdS [Inhabited EntI] {w : World} {X : Sto} (F T : Int) (u : Nat) {ev : Value} {es : List Int} (h : StAt w X) (hr : SRow w ev es) (oF : okN F) (oT : okN T) (hok : ∀ e ∈ es, okN e) (hl : es.length ≤ 2000) (hx0 : 0 ≤ X.rd) (hx1 : X.rd ≤ 100000000)
    (hQ : ∀ (i : Nat) (x : EdgeV), X.ps[i]? = some (x, true) → Wt x) (hb : ∀ b, blkOf ev = some b → b < w.heap.size ∧ X.L b = none) :
    Calls Tryz.prog 33 #[.iface 24 (.pointer (some ⟨X.s, 0, none⟩)), .agg #[.int .i64 F, .int .i64 T, .int .u32 (u : Nat), ev]] w fun e w' => e = .returned (.tuple #[.int .i64 ((holdA (X.f F).isSome (X.f T).isSome (trip X.ps F es) F T u).1 : Nat), .int .i64 (holdA (X.f F).isSome (X.f T).isSome (trip X.ps F es) F T u).2]) ∧ Hid (RdT w X es.length w') := by
  have hb0 := below_new w (oWt F T u ev)
  have CF : Hid (∀ W, Below (w.alloc (oWt F T u ev)).heap.size (w.alloc (oWt F T u ev)) W → Calls Tryz.prog 18 #[.pointer (some ⟨X.s, 0, none⟩), .int .i64 F] W fun e w' => e = .returned (.bool (X.f F).isSome) ∧ w' = W) := fun W hW => hasS F ((h.below hb0).below hW) oF
  have CT : Hid (∀ W, Below (w.alloc (oWt F T u ev)).heap.size (w.alloc (oWt F T u ev)) W → Calls Tryz.prog 18 #[.pointer (some ⟨X.s, 0, none⟩), .int .i64 T] W fun e w' => e = .returned (.bool (X.f T).isSome) ∧ w' = W) := fun W hW => hasS T ((h.below hb0).below hW) oT
  have CW : Hid (∀ W m, Below (w.alloc (oWt F T u ev)).heap.size (w.alloc (oWt F T u ev)) W → (w.alloc (oWt F T u ev)).heap.size ≤ m → (∀ ps, Kn ps 0 W m) → Calls Tryz.prog 21 #[.iface 139 (.agg #[.iface 24 (.pointer (some ⟨X.s, 0, none⟩)), .map (some m)]), .int .i64 F, ev] W fun e w' => e = .returned (fAns F (trip X.ps F es)) ∧ Hid (RdT w X es.length w' ∧ w'.heap[w.heap.size]? = some (oWt F T u ev))) := fun W m hW hm hk => by
    have hB : Below w.heap.size w W := hb0.trans (hW.mono hb0.size)
    have hs1 : (w.alloc (oWt F T u ev)).heap.size = w.heap.size + 1 := by simp
    have hsz := hW.size
    have hmL : X.L m = none := h.mem.new (by omega)
    refine (followR (m := m) F (h.below hB) (hk _) hmL hok (hr.below hB) (by omega) hx0 hx1 hQ (fun b hb' => ?_)).mono ?_
    · obtain ⟨q1, q2⟩ := hb b hb'
      exact ⟨by omega, q2, by omega⟩
    · rintro e w' ⟨rfl, hh⟩
      refine ⟨rfl, rdT_of hB (unhide hh) (by omega), ?_⟩
      have hT := (unhide hh).2
      refine (hT.block _ (by omega) (fun z => z.elim (fun q => q (h.mem.new (Nat.le_refl _))) (fun q => by omega))).trans ((hW.block _ (by omega)).trans (heap_alloc_new _ _))
  have HZ : Hid (∀ W, Below (w.alloc (oWt F T u ev)).heap.size (w.alloc (oWt F T u ev)) W → RdT w X es.length W ∧ W.heap[w.heap.size]? = some (oWt F T u ev)) := fun W hW => ⟨RdT.zero h (hb0.trans (hW.mono hb0.size)), (hW.block _ (by simp)).trans (heap_alloc_new _ _)⟩
  obtain ⟨t, ht⟩ : ∃ t, t = trip X.ps F es := ⟨_, rfl⟩
  have HT : Hid (t.2 ≠ none → tCode t ≠ 0) := fun hn => by
    rw [ht] at hn ⊢
    rcases tCode_ne hn with e | e <;> (unfold tCode; rw [e]; decide)
  rw [← ht] at CW ⊢
  clear hb0 h hr hok hl hx0 hx1 hQ hb ht oF oT
  generalize X.s = s at *
  generalize (X.f F).isSome = bF at *
  generalize (X.f T).isSome = bT at *
  generalize es.length = n at *
  unfold oWt at *
  cases bF with
  | false =>
    go_enter Tryz.func33, Tryz.ntmps33
    go_upto_region 1 with fail
    change Code.wp _ _ _ _ (w.alloc (.cells #[.int .i64 F, .int .i64 T, .int .u32 (u : Nat), ev] 35))
    generalize w.alloc (.cells #[.int .i64 F, .int .i64 T, .int .u32 (u : Nat), ev] 35) = w1 at *
    generalize hbb : w.heap.size = b at *
    obtain ⟨c0, c1, c2, c3⟩ := oWt_cells (F := F) (T := T) (u := u) (ev := ev) (unhide HZ w1 (Below.refl _ _)).2
    have C1 := hide (unhide CF w1 (Below.refl _ _))
    have C2 := hide (unhide CT w1 (Below.refl _ _))
    go_wp2_with fail
    refine (unhide C1).mono ?_
    rintro e w2 ⟨rfl, rfl⟩
    go_wp2_with fail
    go_ret2
    exact ⟨by simp [holdA], (unhide HZ _ (Below.refl _ _)).1⟩
  | true =>
    cases bT with
    | false =>
      go_enter Tryz.func33, Tryz.ntmps33
      go_upto_region 1 with fail
      change Code.wp _ _ _ _ (w.alloc (.cells #[.int .i64 F, .int .i64 T, .int .u32 (u : Nat), ev] 35))
      generalize w.alloc (.cells #[.int .i64 F, .int .i64 T, .int .u32 (u : Nat), ev] 35) = w1 at *
      generalize hbb : w.heap.size = b at *
      obtain ⟨c0, c1, c2, c3⟩ := oWt_cells (F := F) (T := T) (u := u) (ev := ev) (unhide HZ w1 (Below.refl _ _)).2
      have C1 := hide (unhide CF w1 (Below.refl _ _))
      have C2 := hide (unhide CT w1 (Below.refl _ _))
      go_wp2_with fail
      refine (unhide C1).mono ?_
      rintro e w2 ⟨rfl, hw⟩
      rw [hw]
      go_wp2_with fail
      refine (unhide C2).mono ?_
      rintro e w3 ⟨rfl, rfl⟩
      go_wp2_with fail
      go_ret2
      exact ⟨by simp [holdA], (unhide HZ _ (Below.refl _ _)).1⟩
    | true =>
      by_cases hn : t.2 = none
      · have e2 : fAns F t = .tuple #[.int .i64 (endOf F t.1), .int .u32 (costOf t.1), .int .i64 0, .int .i64 0] := if_pos hn
        have eh : holdA true true t F T u = if endOf F t.1 ≠ T then (0, 170) else if costOf t.1 ≠ u then (0, 171) else (0, 0) := by
          unfold holdA; rw [if_neg (by simp), if_neg (by simpa using hn)]
        rw [eh]
        rw [e2] at CW
        clear e2 eh HT
        generalize costOf t.1 = cs at *
        generalize endOf F t.1 = en at *
        go_enter Tryz.func33, Tryz.ntmps33
        go_upto_region 1 with fail
        change Code.wp _ _ _ _ (w.alloc (.cells #[.int .i64 F, .int .i64 T, .int .u32 (u : Nat), ev] 35))
        generalize w.alloc (.cells #[.int .i64 F, .int .i64 T, .int .u32 (u : Nat), ev] 35) = w1 at *
        generalize hbb : w.heap.size = b at *
        obtain ⟨c0, c1, c2, c3⟩ := oWt_cells (F := F) (T := T) (u := u) (ev := ev) (unhide HZ w1 (Below.refl _ _)).2
        have C1 := hide (unhide CF w1 (Below.refl _ _))
        have C2 := hide (unhide CT w1 (Below.refl _ _))
        go_wp2_with fail
        refine (unhide C1).mono ?_
        rintro e w2 ⟨rfl, hw⟩
        rw [hw]
        go_wp2_with fail
        refine (unhide C2).mono ?_
        rintro e w3 ⟨rfl, hw3⟩
        rw [hw3]
        clear hw hw3
        go_upto_region 3 with fail
        refine wp_region_noPanic ?_
        refine regionL [] (fun y => y.cell? ⟨b, 0, none⟩ = some (.int .i64 F) ∧ y.cell? ⟨b, 3, none⟩ = some ev) (by kernel_rfl) ⟨c0, c3⟩ (fun hHeld => ?_)
        refine takeL (i := 0) (v := ?t2v0) (some 23) rfl rfl (by kernel_rfl) (by kernel_rfl) (by kernel_rfl) (by kernel_rfl) (by kernel_rfl) (fun _ _ _ h => h) (Or.inl ⟨by rfl, ?t2h0⟩) (by assumption) ?t2r0
        case t2h0 => (intro y hSu; (try dsimp only at hSu); go_simp; first | done | with_reducible rfl)
        (try simp only [Act.put, List.setIfInBounds_toArray, List.set_cons_zero, List.set_cons_succ])
        refine takeL (i := 3) (v := ?t2v3) (some 26) rfl rfl (by kernel_rfl) (by kernel_rfl) (by kernel_rfl) (by kernel_rfl) (by kernel_rfl) (fun _ _ _ h => h) (Or.inl ⟨by rfl, ?t2h3⟩) (by assumption) ?t2r3
        case t2h3 => (intro y hSu; (try dsimp only at hSu); go_simp; first | done | with_reducible rfl)
        (try simp only [Act.put, List.setIfInBounds_toArray, List.set_cons_zero, List.set_cons_succ])
        refine takeL (i := 4) (v := ?t2v4) (some 27) rfl rfl (by kernel_rfl) (by kernel_rfl) (by kernel_rfl) (by kernel_rfl) (by kernel_rfl) (fun _ _ _ h => h) (Or.inl ⟨by rfl, ?t2h4⟩) (by assumption) ?t2r4
        case t2h4 => (intro y hSu; (try dsimp only at hSu); go_simp; first | done | with_reducible rfl)
        (try simp only [Act.put, List.setIfInBounds_toArray, List.set_cons_zero, List.set_cons_succ])
        refine takeL (i := 5) (v := ?t2v5) (some 28) rfl rfl (by kernel_rfl) (by kernel_rfl) (by kernel_rfl) (by kernel_rfl) (by kernel_rfl) (fun _ _ _ h => h) (Or.inl ⟨by rfl, ?t2h5⟩) (by assumption) ?t2r5
        case t2h5 => (intro y hSu; (try dsimp only at hSu); go_simp; first | done | with_reducible rfl)
        (try simp only [Act.put, List.setIfInBounds_toArray, List.set_cons_zero, List.set_cons_succ])
        refine takeL (i := 6) (v := ?t2v6) (some 29) rfl rfl (by kernel_rfl) (by kernel_rfl) (by kernel_rfl) (by kernel_rfl) (by kernel_rfl) (fun _ _ _ h => h) (Or.inl ⟨by rfl, ?t2h6⟩) (by assumption) ?t2r6
        case t2h6 => (intro y hSu; (try dsimp only at hSu); go_simp; first | done | with_reducible rfl)
        (try simp only [Act.put, List.setIfInBounds_toArray, List.set_cons_zero, List.set_cons_succ])
        refine readyL (i := 1) (by kernel_rfl) rfl (fun K hK => ?_)
        go_simp
        refine (newRecS _ s).mono ?_
        rintro e w4 ⟨m, rfl, H4⟩
        obtain ⟨k1, k2, k3⟩ := unhide H4
        have hB4 : Below w1.heap.size w1 w4 := ((Below.refl _ _).drew).trans k2
        obtain ⟨d0, -, -, d3⟩ := oWt_cells (F := F) (T := T) (u := u) (ev := ev) (unhide HZ w4 hB4).2
        have CW4 := hide (unhide CW w4 m hB4 k1 k3)
        clear H4 k1 k2 k3
        (try dsimp only)
        refine hK.out _ _ (fun _ => (And.intro d0 d3)) ?_
        clear hK K
        (try simp only [Act.put, List.setIfInBounds_toArray, List.set_cons_zero, List.set_cons_succ])
        have hH4 := (And.intro d0 d3)
        refine takeL (i := 2) (v := ?t5v2) (some 25) rfl rfl (by kernel_rfl) (by kernel_rfl) (by kernel_rfl) (by kernel_rfl) (by kernel_rfl) (fun _ _ _ h => h) (Or.inl ⟨by rfl, ?t5h2⟩) (by assumption) ?t5r2
        case t5h2 => (intro y hSu; (try dsimp only at hSu); go_simp; first | done | with_reducible rfl)
        (try simp only [Act.put, List.setIfInBounds_toArray, List.set_cons_zero, List.set_cons_succ])
        refine readyL (i := 7) (by kernel_rfl) rfl (fun K hK => ?_)
        go_simp
        refine (unhide CW4).mono ?_
        rintro e w5 ⟨rfl, H5⟩
        obtain ⟨x0, x1, x2, x3⟩ := oWt_cells (F := F) (T := T) (u := u) (ev := ev) (unhide H5).2
        (try dsimp only)
        refine hK.out _ _ (fun _ => (And.intro x0 x3)) ?_
        clear hK K
        (try simp only [Act.put, List.setIfInBounds_toArray, List.set_cons_zero, List.set_cons_succ])
        have hH7 := (And.intro x0 x3)
        refine takeL (i := 8) (v := ?t8v8) (some 22) rfl rfl (by kernel_rfl) (by kernel_rfl) (by kernel_rfl) (by kernel_rfl) (by kernel_rfl) (fun _ _ _ h => h) (Or.inl ⟨by rfl, ?t8h8⟩) (by assumption) ?t8r8
        case t8h8 => (intro y hSu; (try dsimp only at hSu); go_simp; first | done | with_reducible rfl)
        (try simp only [Act.put, List.setIfInBounds_toArray, List.set_cons_zero, List.set_cons_succ])
        refine takeL (i := 9) (v := ?t8v9) (some 31) rfl rfl (by kernel_rfl) (by kernel_rfl) (by kernel_rfl) (by kernel_rfl) (by kernel_rfl) (fun _ _ _ h => h) (Or.inl ⟨by rfl, ?t8h9⟩) (by assumption) ?t8r9
        case t8h9 => (intro y hSu; (try dsimp only at hSu); go_simp; first | done | with_reducible rfl)
        (try simp only [Act.put, List.setIfInBounds_toArray, List.set_cons_zero, List.set_cons_succ])
        refine takeL (i := 10) (v := ?t8v10) (some 32) rfl rfl (by kernel_rfl) (by kernel_rfl) (by kernel_rfl) (by kernel_rfl) (by kernel_rfl) (fun _ _ _ h => h) (Or.inl ⟨by rfl, ?t8h10⟩) (by assumption) ?t8r10
        case t8h10 => (intro y hSu; (try dsimp only at hSu); go_simp; first | done | with_reducible rfl)
        (try simp only [Act.put, List.setIfInBounds_toArray, List.set_cons_zero, List.set_cons_succ])
        refine takeL (i := 11) (v := ?t8v11) (some 33) rfl rfl (by kernel_rfl) (by kernel_rfl) (by kernel_rfl) (by kernel_rfl) (by kernel_rfl) (fun _ _ _ h => h) (Or.inl ⟨by rfl, ?t8h11⟩) (by assumption) ?t8r11
        case t8h11 => (intro y hSu; (try dsimp only at hSu); go_simp; first | done | with_reducible rfl)
        (try simp only [Act.put, List.setIfInBounds_toArray, List.set_cons_zero, List.set_cons_succ])
        refine takeL (i := 12) (v := ?t8v12) (some 34) rfl rfl (by kernel_rfl) (by kernel_rfl) (by kernel_rfl) (by kernel_rfl) (by kernel_rfl) (fun _ _ _ h => h) (Or.inl ⟨by rfl, ?t8h12⟩) (by assumption) ?t8r12
        case t8h12 => (intro y hSu; (try dsimp only at hSu); go_simp; first | done | with_reducible rfl)
        (try simp only [Act.put, List.setIfInBounds_toArray, List.set_cons_zero, List.set_cons_succ])
        refine takeL (i := 13) (v := ?t8v13) (some 6) rfl rfl (by kernel_rfl) (by kernel_rfl) (by kernel_rfl) (by kernel_rfl) (by kernel_rfl) (fun _ _ _ h => h) (Or.inl ⟨by rfl, ?t8h13⟩) (by assumption) ?t8r13
        case t8h13 => (intro y hSu; (try dsimp only at hSu); go_simp; first | done | with_reducible rfl)
        (try simp only [Act.put, List.setIfInBounds_toArray, List.set_cons_zero, List.set_cons_succ])
        refine takeL (i := 14) (v := ?t8v14) (some 7) rfl rfl (by kernel_rfl) (by kernel_rfl) (by kernel_rfl) (by kernel_rfl) (by kernel_rfl) (fun _ _ _ h => h) (Or.inl ⟨by rfl, ?t8h14⟩) (by assumption) ?t8r14
        case t8h14 => (intro y hSu; (try dsimp only at hSu); go_simp; first | done | with_reducible rfl)
        (try simp only [Act.put, List.setIfInBounds_toArray, List.set_cons_zero, List.set_cons_succ])
        refine takeL (i := 15) (v := ?t8v15) (some 8) rfl rfl (by kernel_rfl) (by kernel_rfl) (by kernel_rfl) (by kernel_rfl) (by kernel_rfl) (fun _ _ _ h => h) (Or.inl ⟨by rfl, ?t8h15⟩) (by assumption) ?t8r15
        case t8h15 => (intro y hSu; (try dsimp only at hSu); go_simp; first | done | with_reducible rfl)
        (try simp only [Act.put, List.setIfInBounds_toArray, List.set_cons_zero, List.set_cons_succ])
        refine takeL (i := 16) (v := ?t8v16) (some 9) rfl rfl (by kernel_rfl) (by kernel_rfl) (by kernel_rfl) (by kernel_rfl) (by kernel_rfl) (fun _ _ _ h => h) (Or.inl ⟨by rfl, ?t8h16⟩) (by assumption) ?t8r16
        case t8h16 => (intro y hSu; (try dsimp only at hSu); go_simp; first | done | with_reducible rfl)
        (try simp only [Act.put, List.setIfInBounds_toArray, List.set_cons_zero, List.set_cons_succ])
        refine doneL (by kernel_rfl) ?_ _
        refine NoPanic.normal ?_
        have HR := hide (unhide H5).1
        clear CW CW4 H5 HZ CF CT C1 C2 c0 c1 c2 c3 d0 d3 hB4
        by_cases h1 : en = T
        · subst h1
          by_cases h2 : cs = u
          · subst h2
            go_wp2_with fail
            go_ret2
            exact ⟨by simp, unhide HR⟩
          · have z2 : ((cs : Int) == (u : Int)) = false := by simp; omega
            go_wp2_with fail
            go_ret2
            exact ⟨by simp [h2], unhide HR⟩
        · have z1 : (en == T) = false := by simpa using h1
          go_wp2_with fail
          go_ret2
          exact ⟨by simp [h1], unhide HR⟩
      · have e2 : fAns F t = .tuple #[.int .i64 0, .int .u32 0, .int .i64 t.1.length, .int .i64 (tCode t)] := if_neg hn
        have eh : holdA true true t F T u = (t.1.length, tCode t) := by
          unfold holdA; rw [if_neg (by simp), if_pos hn]
        have z4 : (tCode t == 0) = false := by simp [unhide HT hn]
        rw [eh]
        rw [e2] at CW
        clear e2 eh HT
        generalize t.1.length = tl at *
        generalize tCode t = tc at *
        go_enter Tryz.func33, Tryz.ntmps33
        go_upto_region 1 with fail
        change Code.wp _ _ _ _ (w.alloc (.cells #[.int .i64 F, .int .i64 T, .int .u32 (u : Nat), ev] 35))
        generalize w.alloc (.cells #[.int .i64 F, .int .i64 T, .int .u32 (u : Nat), ev] 35) = w1 at *
        generalize hbb : w.heap.size = b at *
        obtain ⟨c0, c1, c2, c3⟩ := oWt_cells (F := F) (T := T) (u := u) (ev := ev) (unhide HZ w1 (Below.refl _ _)).2
        have C1 := hide (unhide CF w1 (Below.refl _ _))
        have C2 := hide (unhide CT w1 (Below.refl _ _))
        go_wp2_with fail
        refine (unhide C1).mono ?_
        rintro e w2 ⟨rfl, hw⟩
        rw [hw]
        go_wp2_with fail
        refine (unhide C2).mono ?_
        rintro e w3 ⟨rfl, hw3⟩
        rw [hw3]
        clear hw hw3
        go_upto_region 3 with fail
        refine wp_region_noPanic ?_
        refine regionL [] (fun y => y.cell? ⟨b, 0, none⟩ = some (.int .i64 F) ∧ y.cell? ⟨b, 3, none⟩ = some ev) (by kernel_rfl) ⟨c0, c3⟩ (fun hHeld => ?_)
        refine takeL (i := 0) (v := ?t11v0) (some 23) rfl rfl (by kernel_rfl) (by kernel_rfl) (by kernel_rfl) (by kernel_rfl) (by kernel_rfl) (fun _ _ _ h => h) (Or.inl ⟨by rfl, ?t11h0⟩) (by assumption) ?t11r0
        case t11h0 => (intro y hSu; (try dsimp only at hSu); go_simp; first | done | with_reducible rfl)
        (try simp only [Act.put, List.setIfInBounds_toArray, List.set_cons_zero, List.set_cons_succ])
        refine takeL (i := 3) (v := ?t11v3) (some 26) rfl rfl (by kernel_rfl) (by kernel_rfl) (by kernel_rfl) (by kernel_rfl) (by kernel_rfl) (fun _ _ _ h => h) (Or.inl ⟨by rfl, ?t11h3⟩) (by assumption) ?t11r3
        case t11h3 => (intro y hSu; (try dsimp only at hSu); go_simp; first | done | with_reducible rfl)
        (try simp only [Act.put, List.setIfInBounds_toArray, List.set_cons_zero, List.set_cons_succ])
        refine takeL (i := 4) (v := ?t11v4) (some 27) rfl rfl (by kernel_rfl) (by kernel_rfl) (by kernel_rfl) (by kernel_rfl) (by kernel_rfl) (fun _ _ _ h => h) (Or.inl ⟨by rfl, ?t11h4⟩) (by assumption) ?t11r4
        case t11h4 => (intro y hSu; (try dsimp only at hSu); go_simp; first | done | with_reducible rfl)
        (try simp only [Act.put, List.setIfInBounds_toArray, List.set_cons_zero, List.set_cons_succ])
        refine takeL (i := 5) (v := ?t11v5) (some 28) rfl rfl (by kernel_rfl) (by kernel_rfl) (by kernel_rfl) (by kernel_rfl) (by kernel_rfl) (fun _ _ _ h => h) (Or.inl ⟨by rfl, ?t11h5⟩) (by assumption) ?t11r5
        case t11h5 => (intro y hSu; (try dsimp only at hSu); go_simp; first | done | with_reducible rfl)
        (try simp only [Act.put, List.setIfInBounds_toArray, List.set_cons_zero, List.set_cons_succ])
        refine takeL (i := 6) (v := ?t11v6) (some 29) rfl rfl (by kernel_rfl) (by kernel_rfl) (by kernel_rfl) (by kernel_rfl) (by kernel_rfl) (fun _ _ _ h => h) (Or.inl ⟨by rfl, ?t11h6⟩) (by assumption) ?t11r6
        case t11h6 => (intro y hSu; (try dsimp only at hSu); go_simp; first | done | with_reducible rfl)
        (try simp only [Act.put, List.setIfInBounds_toArray, List.set_cons_zero, List.set_cons_succ])
        refine readyL (i := 1) (by kernel_rfl) rfl (fun K hK => ?_)
        go_simp
        refine (newRecS _ s).mono ?_
        rintro e w4 ⟨m, rfl, H4⟩
        obtain ⟨k1, k2, k3⟩ := unhide H4
        have hB4 : Below w1.heap.size w1 w4 := ((Below.refl _ _).drew).trans k2
        obtain ⟨d0, -, -, d3⟩ := oWt_cells (F := F) (T := T) (u := u) (ev := ev) (unhide HZ w4 hB4).2
        have CW4 := hide (unhide CW w4 m hB4 k1 k3)
        clear H4 k1 k2 k3
        (try dsimp only)
        refine hK.out _ _ (fun _ => (And.intro d0 d3)) ?_
        clear hK K
        (try simp only [Act.put, List.setIfInBounds_toArray, List.set_cons_zero, List.set_cons_succ])
        have hH13 := (And.intro d0 d3)
        refine takeL (i := 2) (v := ?t14v2) (some 25) rfl rfl (by kernel_rfl) (by kernel_rfl) (by kernel_rfl) (by kernel_rfl) (by kernel_rfl) (fun _ _ _ h => h) (Or.inl ⟨by rfl, ?t14h2⟩) (by assumption) ?t14r2
        case t14h2 => (intro y hSu; (try dsimp only at hSu); go_simp; first | done | with_reducible rfl)
        (try simp only [Act.put, List.setIfInBounds_toArray, List.set_cons_zero, List.set_cons_succ])
        refine readyL (i := 7) (by kernel_rfl) rfl (fun K hK => ?_)
        go_simp
        refine (unhide CW4).mono ?_
        rintro e w5 ⟨rfl, H5⟩
        obtain ⟨x0, x1, x2, x3⟩ := oWt_cells (F := F) (T := T) (u := u) (ev := ev) (unhide H5).2
        (try dsimp only)
        refine hK.out _ _ (fun _ => (And.intro x0 x3)) ?_
        clear hK K
        (try simp only [Act.put, List.setIfInBounds_toArray, List.set_cons_zero, List.set_cons_succ])
        have hH16 := (And.intro x0 x3)
        refine takeL (i := 8) (v := ?t17v8) (some 22) rfl rfl (by kernel_rfl) (by kernel_rfl) (by kernel_rfl) (by kernel_rfl) (by kernel_rfl) (fun _ _ _ h => h) (Or.inl ⟨by rfl, ?t17h8⟩) (by assumption) ?t17r8
        case t17h8 => (intro y hSu; (try dsimp only at hSu); go_simp; first | done | with_reducible rfl)
        (try simp only [Act.put, List.setIfInBounds_toArray, List.set_cons_zero, List.set_cons_succ])
        refine takeL (i := 9) (v := ?t17v9) (some 31) rfl rfl (by kernel_rfl) (by kernel_rfl) (by kernel_rfl) (by kernel_rfl) (by kernel_rfl) (fun _ _ _ h => h) (Or.inl ⟨by rfl, ?t17h9⟩) (by assumption) ?t17r9
        case t17h9 => (intro y hSu; (try dsimp only at hSu); go_simp; first | done | with_reducible rfl)
        (try simp only [Act.put, List.setIfInBounds_toArray, List.set_cons_zero, List.set_cons_succ])
        refine takeL (i := 10) (v := ?t17v10) (some 32) rfl rfl (by kernel_rfl) (by kernel_rfl) (by kernel_rfl) (by kernel_rfl) (by kernel_rfl) (fun _ _ _ h => h) (Or.inl ⟨by rfl, ?t17h10⟩) (by assumption) ?t17r10
        case t17h10 => (intro y hSu; (try dsimp only at hSu); go_simp; first | done | with_reducible rfl)
        (try simp only [Act.put, List.setIfInBounds_toArray, List.set_cons_zero, List.set_cons_succ])
        refine takeL (i := 11) (v := ?t17v11) (some 33) rfl rfl (by kernel_rfl) (by kernel_rfl) (by kernel_rfl) (by kernel_rfl) (by kernel_rfl) (fun _ _ _ h => h) (Or.inl ⟨by rfl, ?t17h11⟩) (by assumption) ?t17r11
        case t17h11 => (intro y hSu; (try dsimp only at hSu); go_simp; first | done | with_reducible rfl)
        (try simp only [Act.put, List.setIfInBounds_toArray, List.set_cons_zero, List.set_cons_succ])
        refine takeL (i := 12) (v := ?t17v12) (some 34) rfl rfl (by kernel_rfl) (by kernel_rfl) (by kernel_rfl) (by kernel_rfl) (by kernel_rfl) (fun _ _ _ h => h) (Or.inl ⟨by rfl, ?t17h12⟩) (by assumption) ?t17r12
        case t17h12 => (intro y hSu; (try dsimp only at hSu); go_simp; first | done | with_reducible rfl)
        (try simp only [Act.put, List.setIfInBounds_toArray, List.set_cons_zero, List.set_cons_succ])
        refine takeL (i := 13) (v := ?t17v13) (some 6) rfl rfl (by kernel_rfl) (by kernel_rfl) (by kernel_rfl) (by kernel_rfl) (by kernel_rfl) (fun _ _ _ h => h) (Or.inl ⟨by rfl, ?t17h13⟩) (by assumption) ?t17r13
        case t17h13 => (intro y hSu; (try dsimp only at hSu); go_simp; first | done | with_reducible rfl)
        (try simp only [Act.put, List.setIfInBounds_toArray, List.set_cons_zero, List.set_cons_succ])
        refine takeL (i := 14) (v := ?t17v14) (some 7) rfl rfl (by kernel_rfl) (by kernel_rfl) (by kernel_rfl) (by kernel_rfl) (by kernel_rfl) (fun _ _ _ h => h) (Or.inl ⟨by rfl, ?t17h14⟩) (by assumption) ?t17r14
        case t17h14 => (intro y hSu; (try dsimp only at hSu); go_simp; first | done | with_reducible rfl)
        (try simp only [Act.put, List.setIfInBounds_toArray, List.set_cons_zero, List.set_cons_succ])
        refine takeL (i := 15) (v := ?t17v15) (some 8) rfl rfl (by kernel_rfl) (by kernel_rfl) (by kernel_rfl) (by kernel_rfl) (by kernel_rfl) (fun _ _ _ h => h) (Or.inl ⟨by rfl, ?t17h15⟩) (by assumption) ?t17r15
        case t17h15 => (intro y hSu; (try dsimp only at hSu); go_simp; first | done | with_reducible rfl)
        (try simp only [Act.put, List.setIfInBounds_toArray, List.set_cons_zero, List.set_cons_succ])
        refine takeL (i := 16) (v := ?t17v16) (some 9) rfl rfl (by kernel_rfl) (by kernel_rfl) (by kernel_rfl) (by kernel_rfl) (by kernel_rfl) (fun _ _ _ h => h) (Or.inl ⟨by rfl, ?t17h16⟩) (by assumption) ?t17r16
        case t17h16 => (intro y hSu; (try dsimp only at hSu); go_simp; first | done | with_reducible rfl)
        (try simp only [Act.put, List.setIfInBounds_toArray, List.set_cons_zero, List.set_cons_succ])
        refine doneL (by kernel_rfl) ?_ _
        refine NoPanic.normal ?_
        have HR := hide (unhide H5).1
        clear CW CW4 H5 HZ CF CT C1 C2 c0 c1 c2 c3 d0 d3 hB4
        go_wp2_with fail
        go_ret2
        exact ⟨rfl, unhide HR⟩
end Go.Proofs.YtagibmgbjhemkaaGreat
