/- hold: what is told, against a store. -/
import Derived.Test.YtagibmgbjhemkaaGreatMt16
import Derived.Deep.MidRow
import Derived.Test.YtagibmgbjhemkaaGreatFo17
namespace Go.Proofs.YtagibmgbjhemkaaGreat

namespace W16
open Go.RowKit Go.Maps
theorem loadW (w : World) (g : Nat) (a b c d : Value) (h : w.heap[g]? = some (.cells #[a, b, c, d] 35 (0, 0))) : (loadVar 35 ⟨g, 0, none⟩).run Tryz.prog w = .ok (.agg #[a, b, c, d]) w :=
  run_loadVar_mid (P := Tryz.prog) w g 0 35 [a, b, c, d] _ (fun j v hj => by
    match j with
    | 0 => simp at hj; subst hj; exact (cell_of_row _ _ 0 _ 35 (0, 0) h).trans rfl
    | 1 => simp at hj; subst hj; exact (cell_of_row _ _ 1 _ 35 (0, 0) h).trans rfl
    | 2 => simp at hj; subst hj; exact (cell_of_row _ _ 2 _ 35 (0, 0) h).trans rfl
    | 3 => simp at hj; subst hj; exact (cell_of_row _ _ 3 _ 35 (0, 0) h).trans rfl
    | j + 4 => simp at hj) Tryz.underlying35 rfl (by kernel_rfl)
def set4 (w : World) (g : Nat) (a b c d : Value) : World := (((w.setCell ⟨g, 0, none⟩ a).setCell ⟨g, 1, none⟩ b).setCell ⟨g, 2, none⟩ c).setCell ⟨g, 3, none⟩ d
theorem set4_at {w : World} {g : Nat} {x0 x1 x2 x3 : Value} (h : w.heap[g]? = some (.cells #[x0, x1, x2, x3] 35 (0, 0))) (a b c d : Value) : (set4 w g a b c d).heap[g]? = some (.cells #[a, b, c, d] 35 (0, 0)) := by
  have e0 : (w.setCell ⟨g, 0, none⟩ a).heap[g]? = some (.cells #[a, x1, x2, x3] 35 (0, 0)) := by rw [heap_setCell_same _ _ _ _ _ _ h]; rfl
  have e1 : ((w.setCell ⟨g, 0, none⟩ a).setCell ⟨g, 1, none⟩ b).heap[g]? = some (.cells #[a, b, x2, x3] 35 (0, 0)) := by rw [heap_setCell_same _ _ _ _ _ _ e0]; rfl
  have e2 : (((w.setCell ⟨g, 0, none⟩ a).setCell ⟨g, 1, none⟩ b).setCell ⟨g, 2, none⟩ c).heap[g]? = some (.cells #[a, b, c, x3] 35 (0, 0)) := by rw [heap_setCell_same _ _ _ _ _ _ e1]; rfl
  unfold set4; rw [heap_setCell_same _ _ _ _ _ _ e2]; rfl
theorem set4_turned {S : Nat → Prop} (w : World) {g : Nat} (hg : S g) (a b c d : Value) : Turned S w (set4 w g a b c d) :=
  (((turned_setCell w ⟨g, 0, none⟩ a hg).trans (turned_setCell _ ⟨g, 1, none⟩ b hg)).trans (turned_setCell _ ⟨g, 2, none⟩ c hg)).trans (turned_setCell _ ⟨g, 3, none⟩ d hg)
theorem set4_other {w : World} {g k : Nat} (hk : k ≠ g) (a b c d : Value) : (set4 w g a b c d).heap[k]? = w.heap[k]? := by
  unfold set4; rw [heap_setCell_other _ _ _ _ hk, heap_setCell_other _ _ _ _ hk, heap_setCell_other _ _ _ _ hk, heap_setCell_other _ _ _ _ hk]
theorem results_cell1 {fn : Func} {p : Tmp} {ty : TypeId} (h : fn.results = #[.cell p ty]) (tmps : Array Value) (P : Program) (w : World) (x : Addr) (vx : Value) (hp : tmps.getD p undef = .pointer (some x)) (hx : (loadVar ty x).run P w = .ok vx w) :
    (results fn tmps).run P w = .ok vx w := by
  have hp' : tmps[p]?.getD undef = .pointer (some x) := by simpa using hp
  simp only [results, h]; simp [hp', asAddr, hx]
theorem results_cell_tmp1 {fn : Func} {p u : Tmp} {ty : TypeId} (h : fn.results = #[.cell p ty, .tmp u]) (tmps : Array Value) (P : Program) (w : World) (x : Addr) (vx : Value) (hp : tmps.getD p undef = .pointer (some x)) (hx : (loadVar ty x).run P w = .ok vx w) :
    (results fn tmps).run P w = .ok (.tuple #[vx, tmps.getD u undef]) w := by
  rw [results_cell_tmp h, hp]; simp only [asAddr, Sem.run_pure, Result.andThen_ok, hx]
theorem results_cell_cell {fn : Func} {p q : Tmp} {ty ty2 : TypeId} (h : fn.results = #[.cell p ty, .cell q ty2]) (tmps : Array Value) (P : Program) (w : World) (x y : Addr) (vx vy : Value) (hp : tmps.getD p undef = .pointer (some x)) (hq : tmps.getD q undef = .pointer (some y)) (hx : (loadVar ty x).run P w = .ok vx w) (hy : (loadVar ty2 y).run P w = .ok vy w) :
    (results fn tmps).run P w = .ok (.tuple #[vx, vy]) w := by
  have hp' : tmps[p]?.getD undef = .pointer (some x) := by simpa using hp
  have hq' : tmps[q]?.getD undef = .pointer (some y) := by simpa using hq
  simp only [results, h]; simp [Sem.run_bind, Result.andThen, hp', hq', asAddr, hx, hy]
def decV (bs : List Nat) : WtV × Int := match dec bs with | some x => (x, 0) | none => ((0, 0, 0, []), 160)
def DecAns (w : World) (r : WtV × Int) (e : Ending) (w' : World) : Prop :=
  ∃ ev, e = .returned (.tuple #[.agg #[.int .i64 r.1.1, .int .i64 r.1.2.1, .int .u32 (r.1.2.2.1 : Nat), ev], .int .i64 r.2]) ∧ NRow w.heap.size w' ev r.1.2.2.2 ∧ Below w.heap.size w w'
end W16

section
open Go.RowKit Go.Maps
theorem load_rec (w : World) (g s m : Nat) (h : w.heap[g]? = some (oRec s m)) : (loadVar 139 ⟨g, 0, none⟩).run Tryz.prog w = .ok (.agg #[.iface 24 (.pointer (some ⟨s, 0, none⟩)), .map (some m)]) w :=
  run_loadVar_mid (P := Tryz.prog) w g 0 139 [.iface 24 (.pointer (some ⟨s, 0, none⟩)), .map (some m)] _ (fun j v hj => by
    match j with
    | 0 => simp at hj; subst hj; exact (oRec_cells h).1
    | 1 => simp at hj; subst hj; exact (oRec_cells h).2
    | j + 2 => simp at hj) Tryz.underlying139 rfl (by kernel_rfl)
set_option maxHeartbeats 2000000 in
set_option maxRecDepth 100000 in
theorem newRecS (w : World) (s : Nat) :
    Calls Tryz.prog 77 #[.iface 24 (.pointer (some ⟨s, 0, none⟩))] w fun e w' => ∃ m, e = .returned (.agg #[.iface 24 (.pointer (some ⟨s, 0, none⟩)), .map (some m)]) ∧ Hid (w.heap.size ≤ m ∧ Below w.heap.size w w' ∧ ∀ ps, Kn ps 0 w' m) := by
  have h1 := below_new w (oRec s (w.heap.size + 1)); have h2 := below_new (w.alloc (oRec s (w.heap.size + 1))) (.map #[] 0); have s1 : (w.alloc (oRec s (w.heap.size + 1))).heap.size = w.heap.size + 1 := by simp
  have HE : Hid (((w.alloc (oRec s (w.heap.size + 1))).alloc (.map #[] 0)).heap[w.heap.size]? = some (oRec s (w.heap.size + 1)) ∧ w.heap.size ≤ w.heap.size + 1 ∧ Below w.heap.size w ((w.alloc (oRec s (w.heap.size + 1))).alloc (.map #[] 0)) ∧ ∀ ps, Kn ps 0 ((w.alloc (oRec s (w.heap.size + 1))).alloc (.map #[] 0)) (w.heap.size + 1)) :=
    ⟨(h2.block _ (by omega)).trans (heap_alloc_new _ _), by omega, h1.trans (h2.mono (by omega)), fun ps => by have := kn_new ps (w.alloc (oRec s (w.heap.size + 1))); rw [s1] at this; exact this⟩
  clear h1 h2 s1; have hmm := @run_makeMap Tryz.prog
  go_enter Tryz.func77, Tryz.ntmps77
  go_wp2_with fail
  (try simp only [Exit.inBlock, Exit.then])
  change bodyPost _ _ _ _ _ ((w.alloc (oRec s (w.heap.size + 1))).alloc (.map #[] 0)); refine bodyPost_ret (W16.results_cell1 rfl _ _ _ ⟨w.heap.size, 0, none⟩ _ rfl (load_rec _ _ _ _ (unhide HE).1)) rfl ?_; exact ⟨_, rfl, (unhide HE).2⟩
end

section
open Go.RowKit Go.Maps
def holdA (hF hT : Bool) (t : List EdgeV × Option Int) (F T : Int) (u : Nat) : Nat × Int :=
  if hF = false ∨ hT = false then (0, 5) else if t.2 ≠ none then (t.1.length, tCode t) else if endOf F t.1 ≠ T then (0, 170) else if costOf t.1 ≠ u then (0, 171) else (0, 0)
def RdT [Inhabited EntI] (w : World) (X : Sto) (n : Nat) (w' : World) : Prop := ∃ k : Nat, k ≤ n ∧ Step w X w' { X with rd := X.rd + (k : Int) }
theorem RdT.zero [Inhabited EntI] {w w' : World} {X : Sto} {n : Nat} (h : StAt w X) (hb : Below w.heap.size w w') : RdT w X n w' := ⟨0, Nat.zero_le _, by have := Step.below h hb; simpa using this⟩
theorem RdT.draw [Inhabited EntI] {w w' : World} {X : Sto} {n : Nat} (h : RdT w X n w') (q : Nat) : RdT w X n (w'.drewN q) := by
  obtain ⟨k, h1, h2⟩ := h; exact ⟨k, h1, h2.draw q⟩
theorem rdT_of [Inhabited EntI] {w w1 w' : World} {X : Sto} {m n : Nat} (hb : Below w.heap.size w w1) (h : RdM w1 X m n w') (hm : w.heap.size ≤ m) : RdT w X n w' := by
  obtain ⟨⟨k, h1, h2⟩, h3⟩ := h; refine ⟨k, h1, h2, rfl, (turned_of_below hb).then_ h3 (fun i hi hs => hs.elim id (fun e => by omega)), fun b hb => .inl hb⟩
def oWt (F T : Int) (u : Nat) (ev : Value) : Obj := .cells #[.int .i64 F, .int .i64 T, .int .u32 (u : Nat), ev] 35
theorem oWt_cells {w : World} {b : Nat} {F T : Int} {u : Nat} {ev : Value} (h : w.heap[b]? = some (oWt F T u ev)) :
    w.cell? ⟨b, 0, none⟩ = some (.int .i64 F) ∧ w.cell? ⟨b, 1, none⟩ = some (.int .i64 T) ∧ w.cell? ⟨b, 2, none⟩ = some (.int .u32 (u : Nat)) ∧ w.cell? ⟨b, 3, none⟩ = some ev :=
  ⟨(cell_of_row _ _ 0 _ _ (0, 0) h).trans rfl, (cell_of_row _ _ 1 _ _ (0, 0) h).trans rfl, (cell_of_row _ _ 2 _ _ (0, 0) h).trans rfl, (cell_of_row _ _ 3 _ _ (0, 0) h).trans rfl⟩
set_option maxHeartbeats 4000000 in
set_option maxRecDepth 100000 in
theorem holdS [Inhabited EntI] {w : World} {X : Sto} (F T : Int) (u : Nat) {ev : Value} {es : List Int} (h : StAt w X) (hr : SRow w ev es) (oF : okN F) (oT : okN T) (hok : ∀ e ∈ es, okN e) (hl : es.length ≤ 2000) (hx0 : 0 ≤ X.rd) (hx1 : X.rd ≤ 100000000)
    (hQ : ∀ (i : Nat) (x : EdgeV), X.ps[i]? = some (x, true) → Wt x) (hb : ∀ b, blkOf ev = some b → b < w.heap.size ∧ X.L b = none) :
    Calls Tryz.prog 33 #[.iface 24 (.pointer (some ⟨X.s, 0, none⟩)), .agg #[.int .i64 F, .int .i64 T, .int .u32 (u : Nat), ev]] w fun e w' => e = .returned (.tuple #[.int .i64 ((holdA (X.f F).isSome (X.f T).isSome (trip X.ps F es) F T u).1 : Nat), .int .i64 (holdA (X.f F).isSome (X.f T).isSome (trip X.ps F es) F T u).2]) ∧ Hid (RdT w X es.length w') := by
  have hb0 := below_new w (oWt F T u ev); have CF : Hid (∀ W, Below (w.alloc (oWt F T u ev)).heap.size (w.alloc (oWt F T u ev)) W → Calls Tryz.prog 18 #[.pointer (some ⟨X.s, 0, none⟩), .int .i64 F] W fun e w' => e = .returned (.bool (X.f F).isSome) ∧ w' = W) := fun W hW => hasS F ((h.below hb0).below hW) oF
  have CT : Hid (∀ W, Below (w.alloc (oWt F T u ev)).heap.size (w.alloc (oWt F T u ev)) W → Calls Tryz.prog 18 #[.pointer (some ⟨X.s, 0, none⟩), .int .i64 T] W fun e w' => e = .returned (.bool (X.f T).isSome) ∧ w' = W) := fun W hW => hasS T ((h.below hb0).below hW) oT
  have CW : Hid (∀ W m, Below (w.alloc (oWt F T u ev)).heap.size (w.alloc (oWt F T u ev)) W → (w.alloc (oWt F T u ev)).heap.size ≤ m → (∀ ps, Kn ps 0 W m) → Calls Tryz.prog 21 #[.iface 139 (.agg #[.iface 24 (.pointer (some ⟨X.s, 0, none⟩)), .map (some m)]), .int .i64 F, ev] W fun e w' => e = .returned (fAns F (trip X.ps F es)) ∧ Hid (RdT w X es.length w' ∧ w'.heap[w.heap.size]? = some (oWt F T u ev))) := fun W m hW hm hk => by
    have hB : Below w.heap.size w W := hb0.trans (hW.mono hb0.size); have hs1 : (w.alloc (oWt F T u ev)).heap.size = w.heap.size + 1 := by simp
    have hsz := hW.size; have hmL : X.L m = none := h.mem.new (by omega)
    refine (followR (m := m) F (h.below hB) (hk _) hmL hok (hr.below hB) (by omega) hx0 hx1 hQ (fun b hb' => ?_)).mono ?_
    · obtain ⟨q1, q2⟩ := hb b hb'; exact ⟨by omega, q2, by omega⟩
    · rintro e w' ⟨rfl, hh⟩
      refine ⟨rfl, rdT_of hB (unhide hh) (by omega), ?_⟩
      have hT := (unhide hh).2; refine (hT.block _ (by omega) (fun z => z.elim (fun q => q (h.mem.new (Nat.le_refl _))) (fun q => by omega))).trans ((hW.block _ (by omega)).trans (heap_alloc_new _ _))
  have HZ : Hid (∀ W, Below (w.alloc (oWt F T u ev)).heap.size (w.alloc (oWt F T u ev)) W → RdT w X es.length W ∧ W.heap[w.heap.size]? = some (oWt F T u ev)) := fun W hW => ⟨RdT.zero h (hb0.trans (hW.mono hb0.size)), (hW.block _ (by simp)).trans (heap_alloc_new _ _)⟩
  obtain ⟨t, ht⟩ : ∃ t, t = trip X.ps F es := ⟨_, rfl⟩; have HT : Hid (t.2 ≠ none → tCode t ≠ 0) := fun hn => by
    rw [ht] at hn ⊢; rcases tCode_ne hn with e | e <;> (unfold tCode; rw [e]; decide)
  rw [← ht] at CW ⊢; clear hb0 h hr hok hl hx0 hx1 hQ hb ht oF oT; generalize X.s = s at *; generalize (X.f F).isSome = bF at *; generalize (X.f T).isSome = bT at *; generalize es.length = n at *; unfold oWt at *
  cases bF with
  | false =>
    go_enter Tryz.func33, Tryz.ntmps33
    go_upto_region 1 with fail
    change Code.wp _ _ _ _ (w.alloc (.cells #[.int .i64 F, .int .i64 T, .int .u32 (u : Nat), ev] 35)); generalize w.alloc (.cells #[.int .i64 F, .int .i64 T, .int .u32 (u : Nat), ev] 35) = w1 at *; generalize hbb : w.heap.size = b at *; obtain ⟨c0, c1, c2, c3⟩ := oWt_cells (F := F) (T := T) (u := u) (ev := ev) (unhide HZ w1 (Below.refl _ _)).2; have C1 := hide (unhide CF w1 (Below.refl _ _)); have C2 := hide (unhide CT w1 (Below.refl _ _))
    go_wp2_with fail
    refine (unhide C1).mono ?_
    rintro e w2 ⟨rfl, rfl⟩
    go_wp2_with fail
    go_ret2
    exact ⟨by simp [holdA], (unhide HZ _ (Below.refl _ _)).1⟩
  | true =>
    cases bT with
    | false =>
      go_enter Tryz.func33, Tryz.ntmps33
      go_upto_region 1 with fail
      change Code.wp _ _ _ _ (w.alloc (.cells #[.int .i64 F, .int .i64 T, .int .u32 (u : Nat), ev] 35)); generalize w.alloc (.cells #[.int .i64 F, .int .i64 T, .int .u32 (u : Nat), ev] 35) = w1 at *; generalize hbb : w.heap.size = b at *; obtain ⟨c0, c1, c2, c3⟩ := oWt_cells (F := F) (T := T) (u := u) (ev := ev) (unhide HZ w1 (Below.refl _ _)).2; have C1 := hide (unhide CF w1 (Below.refl _ _)); have C2 := hide (unhide CT w1 (Below.refl _ _))
      go_wp2_with fail
      refine (unhide C1).mono ?_
      rintro e w2 ⟨rfl, hw⟩
      rw [hw]
      go_wp2_with fail
      refine (unhide C2).mono ?_
      rintro e w3 ⟨rfl, rfl⟩
      go_wp2_with fail
      go_ret2
      exact ⟨by simp [holdA], (unhide HZ _ (Below.refl _ _)).1⟩
    | true =>
      by_cases hn : t.2 = none
      · have e2 : fAns F t = .tuple #[.int .i64 (endOf F t.1), .int .u32 (costOf t.1), .int .i64 0, .int .i64 0] := if_pos hn; have eh : holdA true true t F T u = if endOf F t.1 ≠ T then (0, 170) else if costOf t.1 ≠ u then (0, 171) else (0, 0) := by
          unfold holdA; rw [if_neg (by simp), if_neg (by simpa using hn)]
        rw [eh]; rw [e2] at CW; clear e2 eh HT; generalize costOf t.1 = cs at *; generalize endOf F t.1 = en at *
        go_enter Tryz.func33, Tryz.ntmps33
        go_upto_region 1 with fail
        change Code.wp _ _ _ _ (w.alloc (.cells #[.int .i64 F, .int .i64 T, .int .u32 (u : Nat), ev] 35)); generalize w.alloc (.cells #[.int .i64 F, .int .i64 T, .int .u32 (u : Nat), ev] 35) = w1 at *; generalize hbb : w.heap.size = b at *; obtain ⟨c0, c1, c2, c3⟩ := oWt_cells (F := F) (T := T) (u := u) (ev := ev) (unhide HZ w1 (Below.refl _ _)).2; have C1 := hide (unhide CF w1 (Below.refl _ _)); have C2 := hide (unhide CT w1 (Below.refl _ _))
        go_wp2_with fail
        refine (unhide C1).mono ?_
        rintro e w2 ⟨rfl, hw⟩
        rw [hw]
        go_wp2_with fail
        refine (unhide C2).mono ?_
        rintro e w3 ⟨rfl, hw3⟩
        rw [hw3]; clear hw hw3
        go_upto_region 3 with fail
        refine wp_region_noPanic ?_; refine regionL [] (fun y => y.cell? ⟨b, 0, none⟩ = some (.int .i64 F) ∧ y.cell? ⟨b, 3, none⟩ = some ev) (by kernel_rfl) ⟨c0, c3⟩ (fun hHeld => ?_)
        refine takeN 0 23 rfl ?_
        (try simp only [sl])
        refine takeN 3 26 rfl ?_
        (try simp only [sl])
        refine takeN 4 27 rfl ?_
        (try simp only [sl])
        refine takeN 5 28 rfl ?_
        (try simp only [sl])
        refine takeN 6 29 rfl ?_
        (try simp only [sl])
        refine readyL (i := 1) (by kernel_rfl) rfl (fun K hK => ?_)
        go_simp
        refine (newRecS _ s).mono ?_
        rintro e w4 ⟨m, rfl, H4⟩
        obtain ⟨k1, k2, k3⟩ := unhide H4; have hB4 : Below w1.heap.size w1 w4 := ((Below.refl _ _).drew).trans k2; obtain ⟨d0, -, -, d3⟩ := oWt_cells (F := F) (T := T) (u := u) (ev := ev) (unhide HZ w4 hB4).2; have CW4 := hide (unhide CW w4 m hB4 k1 k3); clear H4 k1 k2 k3
        (try dsimp only)
        refine hK.out _ _ (fun _ => (And.intro d0 d3)) ?_
        clear hK K
        (try simp only [sl])
        have hH4 := (And.intro d0 d3); refine takeN 2 25 rfl ?_
        (try simp only [sl])
        refine readyL (i := 7) (by kernel_rfl) rfl (fun K hK => ?_)
        go_simp
        refine (unhide CW4).mono ?_
        rintro e w5 ⟨rfl, H5⟩
        obtain ⟨x0, x1, x2, x3⟩ := oWt_cells (F := F) (T := T) (u := u) (ev := ev) (unhide H5).2
        (try dsimp only)
        refine hK.out _ _ (fun _ => (And.intro x0 x3)) ?_
        clear hK K
        (try simp only [sl])
        have hH7 := (And.intro x0 x3); refine takeN 8 22 rfl ?_
        (try simp only [sl])
        refine takeN 9 31 rfl ?_
        (try simp only [sl])
        refine takeN 10 32 rfl ?_
        (try simp only [sl])
        refine takeN 11 33 rfl ?_
        (try simp only [sl])
        refine takeN 12 34 rfl ?_
        (try simp only [sl])
        refine takeN 13 6 rfl ?_
        (try simp only [sl])
        refine takeN 14 7 rfl ?_
        (try simp only [sl])
        refine takeN 15 8 rfl ?_
        (try simp only [sl])
        refine takeN 16 9 rfl ?_
        (try simp only [sl])
        refine doneL (by kernel_rfl) ?_ _
        refine NoPanic.normal ?_; have HR := hide (unhide H5).1; clear CW CW4 H5 HZ CF CT C1 C2 c0 c1 c2 c3 d0 d3 hB4
        by_cases h1 : en = T
        · subst h1
          by_cases h2 : cs = u
          · subst h2
            go_wp2_with fail
            go_ret2
            exact ⟨by simp, unhide HR⟩
          · have z2 : ((cs : Int) == (u : Int)) = false := by simp; omega
            go_wp2_with fail
            go_ret2
            exact ⟨by simp, unhide HR⟩
        · have z1 : (en == T) = false := by simpa using h1
          go_wp2_with fail
          go_ret2
          exact ⟨by simp, unhide HR⟩
      · have e2 : fAns F t = .tuple #[.int .i64 0, .int .u32 0, .int .i64 t.1.length, .int .i64 (tCode t)] := if_neg hn; have eh : holdA true true t F T u = (t.1.length, tCode t) := by
          unfold holdA; rw [if_neg (by simp), if_pos hn]
        have z4 : (tCode t == 0) = false := by simp [unhide HT hn]
        rw [eh]; rw [e2] at CW; clear e2 eh HT; generalize t.1.length = tl at *; generalize tCode t = tc at *
        go_enter Tryz.func33, Tryz.ntmps33
        go_upto_region 1 with fail
        change Code.wp _ _ _ _ (w.alloc (.cells #[.int .i64 F, .int .i64 T, .int .u32 (u : Nat), ev] 35)); generalize w.alloc (.cells #[.int .i64 F, .int .i64 T, .int .u32 (u : Nat), ev] 35) = w1 at *; generalize hbb : w.heap.size = b at *; obtain ⟨c0, c1, c2, c3⟩ := oWt_cells (F := F) (T := T) (u := u) (ev := ev) (unhide HZ w1 (Below.refl _ _)).2; have C1 := hide (unhide CF w1 (Below.refl _ _)); have C2 := hide (unhide CT w1 (Below.refl _ _))
        go_wp2_with fail
        refine (unhide C1).mono ?_
        rintro e w2 ⟨rfl, hw⟩
        rw [hw]
        go_wp2_with fail
        refine (unhide C2).mono ?_
        rintro e w3 ⟨rfl, hw3⟩
        rw [hw3]; clear hw hw3
        go_upto_region 3 with fail
        refine wp_region_noPanic ?_; refine regionL [] (fun y => y.cell? ⟨b, 0, none⟩ = some (.int .i64 F) ∧ y.cell? ⟨b, 3, none⟩ = some ev) (by kernel_rfl) ⟨c0, c3⟩ (fun hHeld => ?_)
        refine takeN 0 23 rfl ?_
        (try simp only [sl])
        refine takeN 3 26 rfl ?_
        (try simp only [sl])
        refine takeN 4 27 rfl ?_
        (try simp only [sl])
        refine takeN 5 28 rfl ?_
        (try simp only [sl])
        refine takeN 6 29 rfl ?_
        (try simp only [sl])
        refine readyL (i := 1) (by kernel_rfl) rfl (fun K hK => ?_)
        go_simp
        refine (newRecS _ s).mono ?_
        rintro e w4 ⟨m, rfl, H4⟩
        obtain ⟨k1, k2, k3⟩ := unhide H4; have hB4 : Below w1.heap.size w1 w4 := ((Below.refl _ _).drew).trans k2; obtain ⟨d0, -, -, d3⟩ := oWt_cells (F := F) (T := T) (u := u) (ev := ev) (unhide HZ w4 hB4).2; have CW4 := hide (unhide CW w4 m hB4 k1 k3); clear H4 k1 k2 k3
        (try dsimp only)
        refine hK.out _ _ (fun _ => (And.intro d0 d3)) ?_
        clear hK K
        (try simp only [sl])
        have hH13 := (And.intro d0 d3); refine takeN 2 25 rfl ?_
        (try simp only [sl])
        refine readyL (i := 7) (by kernel_rfl) rfl (fun K hK => ?_)
        go_simp
        refine (unhide CW4).mono ?_
        rintro e w5 ⟨rfl, H5⟩
        obtain ⟨x0, x1, x2, x3⟩ := oWt_cells (F := F) (T := T) (u := u) (ev := ev) (unhide H5).2
        (try dsimp only)
        refine hK.out _ _ (fun _ => (And.intro x0 x3)) ?_
        clear hK K
        (try simp only [sl])
        have hH16 := (And.intro x0 x3); refine takeN 8 22 rfl ?_
        (try simp only [sl])
        refine takeN 9 31 rfl ?_
        (try simp only [sl])
        refine takeN 10 32 rfl ?_
        (try simp only [sl])
        refine takeN 11 33 rfl ?_
        (try simp only [sl])
        refine takeN 12 34 rfl ?_
        (try simp only [sl])
        refine takeN 13 6 rfl ?_
        (try simp only [sl])
        refine takeN 14 7 rfl ?_
        (try simp only [sl])
        refine takeN 15 8 rfl ?_
        (try simp only [sl])
        refine takeN 16 9 rfl ?_
        (try simp only [sl])
        refine doneL (by kernel_rfl) ?_ _
        refine NoPanic.normal ?_; have HR := hide (unhide H5).1; clear CW CW4 H5 HZ CF CT C1 C2 c0 c1 c2 c3 d0 d3 hB4
        go_wp2_with fail
        go_ret2
        exact ⟨rfl, unhide HR⟩
end

end Go.Proofs.YtagibmgbjhemkaaGreat
