/- CheckWalks from region 37 on (made by mkw172.py). -/
import Derived.Test.YtagibmgbjhemkaaGreatKC17
import Derived.Test.YtagibmgbjhemkaaGreatRefPutD
import Derived.Test.YtagibmgbjhemkaaGreatL317
namespace Go.Proofs.YtagibmgbjhemkaaGreat

section
open Go.RowKit Go.Maps
open W16 (WtV Lies u8v i64v dec decV DecAns)
def KG [Inhabited EntI] (kb : List (Nat × Obj)) (rows : List (Value × List Int)) (rv : Value) (rb : List Nat) (w : World) (X0 : Sto) (rd : Int) (ps : List (EdgeV × Bool)) (vv gv : Value) (vs : List Int) (gs : List EdgeV) (W : World) : Prop :=
  KXc kb rows w { X0 with rd := rd } ps vv gv vs gs W ∧ W16.ByRow 0 W rv rb ∧ ∀ c, rv.ownBlock = some c → w.heap.size ≤ c ∧ X0.L c = none ∧ (∀ p ∈ kb, p.1 ≠ c) ∧ (∀ r ∈ rows, r.1.ownBlock ≠ some c) ∧ vv.ownBlock ≠ some c ∧ gv.ownBlock ≠ some c
theorem row_cap17 {X : Type} {t : TypeId} {k : Nat} {enc : X → List Value} {B : Nat} {w : World} {a : Option Addr} {n c : Nat} {xs : List X} (h : W16.RRow t k enc B w (.slice a n c) xs) : n ≤ c := by
  rcases h.2 with ⟨e, h0⟩ | ⟨g, cap, cur, e, -, -, h3, -⟩
  · injection e with e1 e2 e3; omega
  · injection e with e1 e2 e3; omega
section
variable [Inhabited EntI] {kb : List (Nat × Obj)} {rows : List (Value × List Int)} {rv : Value} {rb : List Nat} {w W W' : World} {X0 : Sto} {ps : List (EdgeV × Bool)} {vv gv : Value} {rd : Int} {vs : List Int} {gs : List EdgeV}
theorem KG.move {r : Int} (h : KG kb rows rv rb w X0 rd ps vv gv vs gs W) (hS : Step W { X0 with rd := rd } W' { X0 with rd := r }) : KG kb rows rv rb w X0 r ps vv gv vs gs W' := by
  obtain ⟨h1, h2, h3⟩ := h; have hT : Turned (fun b => X0.L b ≠ none) W W' := hS.2.2.1
  exact ⟨h1.move hS, W16.rrow_kept h2 (fun b e => hT.block b (h2.lt b e).2 (fun z => z (h3 b e).2.1)), h3⟩
theorem KG.below (h : KG kb rows rv rb w X0 rd ps vv gv vs gs W) (hb : Below W.heap.size W W') : KG kb rows rv rb w X0 rd ps vv gv vs gs W' := h.move (r := rd) (Step.below h.1.st hb)
theorem KG.box (h : KG kb rows rv rb w X0 rd ps vv gv vs gs W) (o : Obj) : KG ((W.heap.size, o) :: kb) rows rv rb w X0 rd ps vv gv vs gs (W.alloc o) := by
  have h5 := h.below (below_new W o); obtain ⟨h1, h2, h3⟩ := h; refine ⟨⟨h5.1.st, h5.1.ps, h5.1.f, h5.1.lo, h5.1.bel, h5.1.vs, h5.1.gs, fun p hp => ?_, h5.1.rows⟩, h5.2.1, fun c e => ?_⟩
  · rcases List.mem_cons.1 hp with e | e
    · subst e; exact ⟨heap_alloc_new _ _, h1.st.mem.new (Nat.le_refl _)⟩
    · exact h5.1.kb p e
  · obtain ⟨q0, q1, q2, q3⟩ := h3 c e; refine ⟨q0, q1, fun p hp => ?_, q3⟩
    rcases List.mem_cons.1 hp with e' | e'
    · subst e'; have := (h2.lt c e).2; show W.heap.size ≠ c; omega
    · exact q2 p e'
theorem KG.row (h : KG kb rows rv rb w X0 rd ps vv gv vs gs W) {v : Value} {ks : List Int} {B : Nat} {rd' : Int} (hB : W.heap.size ≤ B) (h' : KG kb rows rv rb w X0 rd' ps vv gv vs gs W') (hr : W16.NRow B W' v ks) : KG kb ((v, ks) :: rows) rv rb w X0 rd' ps vv gv vs gs W' := by
  obtain ⟨h1, h2, h3⟩ := h; obtain ⟨g1, g2, g3⟩ := h'; refine ⟨⟨g1.st, g1.ps, g1.f, g1.lo, g1.bel, g1.vs, g1.gs, g1.kb, fun r hr' => ?_⟩, g2, fun c e => ?_⟩
  · rcases List.mem_cons.1 hr' with e | e
    · subst e; exact ⟨W16.rrow_low hr (Nat.zero_le _), fun b e => h1.st.mem.new (by have := (hr.lt b e).1; omega)⟩
    · exact g1.rows r e
  · obtain ⟨q0, q1, q2, q3, q4⟩ := g3 c e; refine ⟨q0, q1, q2, fun r hr' => ?_, q4⟩
    rcases List.mem_cons.1 hr' with e' | e'
    · subst e'; intro z; have := (hr.lt c z).1; have := (h2.lt c e).2; omega
    · exact q3 r e'
theorem KG.get (h : KG kb rows rv rb w X0 rd ps vv gv vs gs W) {b : Nat} {o : Obj} (hb : (b, o) ∈ kb) : W.heap[b]? = some o := (h.1.kb _ hb).1
theorem KG.getr (h : KG kb rows rv rb w X0 rd ps vv gv vs gs W) {v : Value} {ks : List Int} (hb : (v, ks) ∈ rows) : W16.NRow 0 W v ks := (h.1.rows _ hb).1
theorem KG.byte {g n c i : Nat} (h : KG kb rows (.slice (some ⟨g, 0, none⟩) n c) rb w X0 rd ps vv gv vs gs W) {x : Nat} (hi : rb[i]? = some x) (y : Nat) : KG kb rows (.slice (some ⟨g, 0, none⟩) n c) (rb.set i y) w X0 rd ps vv gv vs gs (W.setCell ⟨g, i, none⟩ (.int .u8 (y : Nat))) := by
  obtain ⟨h1, h2, h3⟩ := h; obtain ⟨q0, q1, q2, q3, q4, q5⟩ := h3 g rfl; have hT : Turned (fun b => b = g) W (W.setCell ⟨g, i, none⟩ (.int .u8 (y : Nat))) := turned_setCell _ _ _ rfl
  have old : ∀ b, b < W.heap.size → b ≠ g → (W.setCell ⟨g, i, none⟩ (.int .u8 (y : Nat))).heap[b]? = W.heap[b]? := fun b z1 z2 => hT.block b z1 z2
  refine ⟨⟨h1.st.kept (fun b hb => old b (h1.st.mem.lt b hb) (fun e => hb (by rw [e]; exact q1))) hT.size, h1.ps, h1.f, h1.lo, h1.bel.trans (hT.below h1.bel.size (fun b e => by rw [e]; exact q0)), ⟨nrow_kept h1.vs.1 (fun b e => old b (h1.vs.1.lt b e).2 (fun z => q4 (by rw [← z]; exact e))), h1.vs.2⟩, ⟨grow_kept h1.gs.1 (fun b e => old b (h1.gs.1.lt b e).2 (fun z => q5 (by rw [← z]; exact e))), h1.gs.2⟩, fun p hp => ⟨(old _ (heap_lt (h1.kb p hp).1) (q2 p hp)).trans (h1.kb p hp).1, (h1.kb p hp).2⟩, fun r hr => ⟨W16.rrow_kept (h1.rows r hr).1 (fun b e => old b ((h1.rows r hr).1.lt b e).2 (fun z => q3 r hr (by rw [← z]; exact e))), (h1.rows r hr).2⟩⟩, ?_, h3⟩
  have := W16.rrow_set W16.kitB h2 hi (j := 0) (by omega) (x' := y) (u := .int .u8 (y : Nat)) rfl
  simpa using this
theorem kgCheck (hp : PF ps vs gs) (h : KG kb rows rv rb w X0 rd ps vv gv vs gs W) {v : Value} {bs : List Nat} (hv : Lies u8v W v bs) (hb : ∀ x ∈ bs, x < 256) (hl : bs.length ≤ 140737488355328) (ho : ∀ b, v.ownBlock = some b → b < W.heap.size) (hr0 : 0 ≤ rd) (hr1 : rd ≤ 100000000) :
    Calls Tryz.prog 11 #[.iface 24 (.pointer (some ⟨X0.s, 0, none⟩)), v] W fun e w' => Hid (∃ ev k, e = .returned (.tuple #[.agg #[.int .i64 (chkA (fun k => decide (k ∈ vs)) ps bs).1.1, .int .i64 (chkA (fun k => decide (k ∈ vs)) ps bs).1.2.1, .int .u32 ((chkA (fun k => decide (k ∈ vs)) ps bs).1.2.2.1 : Nat), ev], .int .i64 ((chkA (fun k => decide (k ∈ vs)) ps bs).2.1 : Nat), .int .i64 (chkA (fun k => decide (k ∈ vs)) ps bs).2.2]) ∧ k ≤ (decV bs).1.2.2.2.length ∧ KG kb ((ev, (chkA (fun k => decide (k ∈ vs)) ps bs).1.2.2.2) :: rows) rv rb w X0 (rd + (k : Nat)) ps vv gv vs gs w') := by
  have eV : (fun k => (X0.f k).isSome) = fun k => decide (k ∈ vs) := funext fun k => h.1.f k
  have e2 : X0.ps = ps := h.1.ps; subst e2; have := checkS (X := { X0 with rd := rd }) h.1.st hv hb hl ho hr0 hr1 hp.wp
  rw [show (fun k => (({ X0 with rd := rd } : Sto).f k).isSome) = fun k => decide (k ∈ vs) from eV] at this
  refine this.mono ?_; intro e w' hh; obtain ⟨ev, rfl, g1, k, g2, g3⟩ := unhide hh; exact ⟨ev, k, rfl, g2, h.row (Nat.le_refl _) (h.move (r := rd + (k : Int)) g3) g1⟩
theorem kgClaim (hp : PF ps vs gs) (h : KG kb rows rv rb w X0 rd ps vv gv vs gs W) (f t : Int) (u : Nat) {v : Value} {bs : List Nat} (hv : Lies u8v W v bs) (hb : ∀ x ∈ bs, x < 256) (hl : bs.length ≤ 140737488355328) (ho : ∀ b, v.ownBlock = some b → b < W.heap.size) (hr0 : 0 ≤ rd) (hr1 : rd ≤ 100000000) :
    Calls Tryz.prog 16 #[.iface 24 (.pointer (some ⟨X0.s, 0, none⟩)), .int .i64 f, .int .i64 t, .int .u32 (u : Nat), v] W fun e w' => e = .returned (.tuple #[.int .i64 ((clmA (fun k => decide (k ∈ vs)) ps bs f t u).1 : Nat), .int .i64 (clmA (fun k => decide (k ∈ vs)) ps bs f t u).2]) ∧ Hid (∃ k : Nat, k ≤ (decV bs).1.2.2.2.length ∧ KG kb rows rv rb w X0 (rd + (k : Nat)) ps vv gv vs gs w') := by
  have eV : (fun k => (X0.f k).isSome) = fun k => decide (k ∈ vs) := funext fun k => h.1.f k
  have e2 : X0.ps = ps := h.1.ps; subst e2; have := claimS (X := { X0 with rd := rd }) f t u h.1.st hv hb hl ho hr0 hr1 hp.wp
  rw [show (fun k => (({ X0 with rd := rd } : Sto).f k).isSome) = fun k => decide (k ∈ vs) from eV] at this
  refine this.mono ?_
  rintro e w' ⟨rfl, hh⟩
  obtain ⟨k, g2, g3⟩ := unhide hh; exact ⟨rfl, k, g2, h.move (r := rd + (k : Int)) g3⟩
theorem KG.less {kb' : List (Nat × Obj)} (h : KG kb rows rv rb w X0 rd ps vv gv vs gs W) (hs : ∀ p ∈ kb', p ∈ kb) : KG kb' rows rv rb w X0 rd ps vv gv vs gs W := by
  obtain ⟨h1, h2, h3⟩ := h; exact ⟨⟨h1.st, h1.ps, h1.f, h1.lo, h1.bel, h1.vs, h1.gs, fun p hp => h1.kb p (hs p hp), h1.rows⟩, h2, fun c e => ⟨(h3 c e).1, (h3 c e).2.1, fun p hp => (h3 c e).2.2.1 p (hs p hp), (h3 c e).2.2.2⟩⟩
theorem kg_start {m : Nat} {g : Gr} (hG : Game m X0 g vv gv vs gs W) (hps : g.ps = ps) (hL : ∀ b, X0.L b ≠ none → w.heap.size ≤ b) (hB : Below w.heap.size w W) (o : Obj) : KG [(W.heap.size, o)] [] (.slice none 0 0) [] w X0 g.rd ps vv gv vs gs (W.alloc o) := by
  have h0 : KG [] [] (.slice none 0 0) [] w X0 g.rd ps vv gv vs gs W := by
    have e : ({ X0 with rd := g.rd } : Sto) = X0 := by rw [← hG.sh.rd]
    refine ⟨?_, ⟨rfl, .inl ⟨rfl, rfl⟩⟩, fun c e => by cases e⟩
    rw [e]; refine ⟨hG.st, hG.sh.ps.trans hps, fun k => ?_, hL, hB, ⟨hG.vrow, hG.vfr⟩, ⟨hG.erow, hG.efr⟩, fun p hp => (by cases hp), fun r hr => (by cases hr)⟩
    rw [hG.sh.V, Bool.eq_iff_iff, decide_eq_true_iff]; exact hG.rel.V k
  exact h0.box o
theorem KG.room {rv' : Value} {rb' : List Nat} (h : KG kb rows rv rb w X0 rd ps vv gv vs gs W) (hb : Below W.heap.size W W') (hr : W16.ByRow W.heap.size W' rv' rb') : KG kb rows rv' rb' w X0 rd ps vv gv vs gs W' := by
  have h5 := h.below hb; refine ⟨h5.1, W16.rrow_low hr (Nat.zero_le _), fun c e => ?_⟩
  have hc := (hr.lt c e).1; refine ⟨Nat.le_trans h.1.bel.size hc, h.1.st.mem.new hc, fun p hp z => ?_, fun r hr' z => ?_, fun z => ?_, fun z => ?_⟩
  · have := heap_lt (h.1.kb p hp).1; omega
  · have := ((h.1.rows r hr').1.lt c z).2; omega
  · have := (h.1.vs.1.lt c z).2; omega
  · have := (h.1.gs.1.lt c z).2; omega
end
end

section
open Go.RowKit Go.Maps
open W16 (WtV Lies u8v i64v dec decV DecAns)
theorem xor_ne (u : Nat) : u ^^^ 1 ≠ u := fun h => by
  have := congrArg (· ^^^ u) h; simp only [Nat.xor_self] at this; rw [Nat.xor_comm u 1, Nat.xor_assoc, Nat.xor_self] at this
  cases this
theorem clm_same {V : Int → Bool} {ps : List (EdgeV × Bool)} {bs : List Nat} {F T : Int} {u : Nat} {es : List Int} (hd : dec bs = some (F, T, u, es)) : clmA V ps bs F T u = (chkA V ps bs).2 := by
  rw [chk_hold hd]; unfold clmA; rw [hd]; exact if_pos ⟨rfl, rfl, rfl⟩
theorem xor_lt {u : Nat} (h : u < 4294967296) : u ^^^ 1 < 4294967296 := Nat.xor_lt_two_pow (n := 32) h (by decide)
theorem bits_xor1 {u : Nat} (h : u < 4294967296) : bits .xor .u32 (u : Int) 1 = ((u ^^^ 1 : Nat) : Int) := by
  have h1 : (BitVec.ofInt 32 (u : Int) ^^^ BitVec.ofInt 32 1).toNat = u ^^^ 1 := by
    rw [BitVec.toNat_xor, BitVec.ofInt_natCast, show BitVec.ofInt 32 1 = 1#32 from rfl]
    simp only [BitVec.toNat_ofNat, Nat.mod_eq_of_lt (show u < 2 ^ 32 by simpa using h)]
  show IntKind.u32.wrap ((BitVec.ofInt 32 (u : Int) ^^^ BitVec.ofInt 32 1).toNat : Int) = _; rw [h1]; have := xor_lt h; generalize u ^^^ 1 = n at *; show IntKind.u32.wrap (n : Int) = _; rw [IntKind.wrap_u32]; omega
end

section
open Go.RowKit Go.Maps
open W16 (WtV Lies u8v i64v dec decV DecAns)
theorem chk_enc {V : Int → Bool} {ps : List (EdgeV × Bool)} {x : WtV} (hg : W16.Good x) : (chkA V ps (W16.encWt x)).2 = holdA (V x.1) (V x.2.1) (trip ps x.1 x.2.2.2) x.1 x.2.1 x.2.2.1 ∧ ((chkA V ps (W16.encWt x)).2.2 = 0 → (chkA V ps (W16.encWt x)).1 = x) := by
  have hd := W16.dec_enc hg; refine ⟨chk_hold hd, fun h => ?_⟩
  have hc := chk_hold (V := V) (ps := ps) hd; rw [hc] at h; unfold chkA; rw [hd]; simp only; rw [if_pos h]
theorem hold_all {d : List EdgeV} {f t : Int} {u : Nat} (h1 : endOf f d = t) (h2 : costOf d = u) : holdA true true (d, none) f t u = (0, 0) := by
  unfold holdA; rw [if_neg (by simp), if_neg (by simp), if_neg (by simpa using h1), if_neg (by simpa using h2)]
theorem hold_cost {d : List EdgeV} {f t : Int} {u : Nat} (h1 : endOf f d = t) (h2 : costOf d ≠ u) : holdA true true (d, none) f t u = (0, 171) := by
  unfold holdA; rw [if_neg (by simp), if_neg (by simp), if_neg (by simpa using h1), if_pos h2]
theorem hold_end {d : List EdgeV} {f t : Int} {u : Nat} (h1 : endOf f d ≠ t) : holdA true true (d, none) f t u = (0, 170) := by
  unfold holdA; rw [if_neg (by simp), if_neg (by simp), if_pos h1]
theorem hold_err {d : List EdgeV} {f t c : Int} {u : Nat} : holdA true true (d, some c) f t u = (d.length, c) := by
  unfold holdA; rw [if_neg (by simp), if_pos (by simp)]; rfl
theorem trip_else {ps : List (EdgeV × Bool)} {e a v : Int} {l : List Int} {d : List EdgeV} (h : Way ps a (e :: l) d) (hv : v ≠ a) : trip ps v (e :: l) = ([], some 80) := by
  obtain ⟨x, d', rfl, h2, h3, h4⟩ := h; rw [trip, h2]; simp only; rw [if_neg (fun z => hv (z.symm.trans h3))]
theorem trip_gone {ps : List (EdgeV × Bool)} {e a : Int} {l : List Int} (h : lk ps e = none) : trip ps a (e :: l) = ([], some 6) := by
  rw [trip, h]
theorem way_take {ps : List (EdgeV × Bool)} {l : List Int} {a : Int} {d : List EdgeV} (h : Way ps a l d) (m : Nat) : Way ps a (l.take m) (trip ps a (l.take m)).1 ∧ (trip ps a (l.take m)).2 = none := by
  have h1 := h; rw [← List.take_append_drop m l] at h1; obtain ⟨d1, d2, -, h2, -⟩ := Way.split h1; rw [h2.all]; exact ⟨h2, rfl⟩
def Less8 (ps ps' : List (EdgeV × Bool)) (e : Int) : Prop := lk ps' e = none ∧ ∀ e', e' ≠ e → lk ps' e' = lk ps e'
theorem less_set {ps : List (EdgeV × Bool)} (i : Nat) (z : EdgeV) : Less8 ps (ps.set i (z, false)) ((i : Int) + 1) := by
  constructor
  · cases h : lk (ps.set i (z, false)) ((i : Int) + 1) with
    | none => rfl
    | some x =>
      obtain ⟨j, hj, hx⟩ := lk_some h; obtain rfl : j = i := by omega
      rw [List.getElem?_set] at hx; simp only [if_true] at hx; split at hx <;> cases hx
  · intro e' he
    cases h : lk ps e' with
    | none =>
      cases h2 : lk (ps.set i (z, false)) e' with
      | none => rfl
      | some x =>
        obtain ⟨j, rfl, hx⟩ := lk_some h2; have hne : i ≠ j := fun e => he (by omega)
        rw [List.getElem?_set_ne hne] at hx; rw [lk_yes hx] at h; cases h
    | some x =>
      obtain ⟨j, rfl, hx⟩ := lk_some h; have hne : i ≠ j := fun e => he (by omega)
      exact lk_yes (by rw [List.getElem?_set_ne hne]; exact hx)
theorem flat_int (ks : List Int) : ks.flatMap W16.encN = ks.map (Value.int .i64) := by
  induction ks with
  | nil => rfl
  | cons k ks ih => rw [List.flatMap_cons, ih]; rfl
theorem nrow16_of {B : Nat} {w : World} {v : Value} {ks : List Int} (h : BRow B w v ks) : W16.NRow B w v ks := by
  show World.ownsRow _ _ _ _ _ _ _; rw [flat_int]; exact h
theorem nrow_of16 {B : Nat} {w : World} {v : Value} {ks : List Int} (h : W16.NRow B w v ks) : BRow B w v ks := by
  have h' : World.ownsRow w B 3 1 v ks.length (ks.flatMap W16.encN) := h; rw [flat_int] at h'; exact h'
structure PV (ps : List (EdgeV × Bool)) (vs : List Int) : Prop where
  rng : ∀ v ∈ vs, 0 ≤ v ∧ v ≤ 2147483647
  num : ∀ e x, lk ps e = some x → 1 ≤ e ∧ e ≤ 1024 ∧ x.2.1 ∈ vs ∧ x.2.2.1 ∈ vs
theorem way_nums {ps : List (EdgeV × Bool)} {vs : List Int} (hp : PV ps vs) : ∀ {l : List Int} {a : Int} {d : List EdgeV}, Way ps a l d → (∀ e ∈ l, 1 ≤ e ∧ e ≤ 1024) ∧ (a ∈ vs → endOf a d ∈ vs)
  | [], a, d, h => by
    have h' : d = [] := h; subst h'; exact ⟨fun e he => (by cases he), fun ha => ha⟩
  | e :: l, a, d, h => by
    obtain ⟨x, d', rfl, h2, h3, h4⟩ := h; obtain ⟨q1, q2, q3, q4⟩ := hp.num e x h2; obtain ⟨i1, i2⟩ := way_nums hp h4; refine ⟨fun z hz => ?_, fun ha => ?_⟩
    · rcases List.mem_cons.1 hz with e' | e'
      · rw [e']; exact ⟨q1, q2⟩
      · exact i1 z e'
    · exact i2 q4
section
variable [Inhabited EntI] {kb : List (Nat × Obj)} {rows : List (Value × List Int)} {rv : Value} {rb : List Nat} {w W W' : World} {X0 : Sto} {ps : List (EdgeV × Bool)} {vv gv : Value} {rd : Int} {vs : List Int} {gs : List EdgeV}
theorem KG.pv (h : KG kb rows rv rb w X0 rd ps vv gv vs gs W) : PV ps vs := by
  have hm : ∀ k, X0.f k ≠ none ↔ k ∈ vs := fun k => by
    have := h.1.f k; have e : (X0.f k).isSome = decide (k ∈ vs) := this; constructor
    · intro hk; have : (X0.f k).isSome = true := by cases hq : X0.f k with | none => exact absurd hq hk | some q => rfl
      rw [e] at this; simpa using this
    · intro hk hn; rw [hn] at e; simp [hk] at e
  refine ⟨fun v hv => h.1.st.mem.keys v ((hm v).2 hv), fun e x hk => ?_⟩
  obtain ⟨i, rfl, hi⟩ := lk_some hk; have hi' : ({ X0 with rd := rd } : Sto).ps[i]? = some (x, true) := by rw [h.1.ps]; exact hi
  obtain ⟨q1, q2, q3⟩ := h.1.st.edge i x hi'; have hl := h.1.st.mem.tab.len; have hlt := (List.getElem?_eq_some_iff.1 hi').1; exact ⟨by omega, by omega, (hm _).1 q2, (hm _).1 q3⟩
theorem KG.lessr {rows' : List (Value × List Int)} (h : KG kb rows rv rb w X0 rd ps vv gv vs gs W) (hs : ∀ p ∈ rows', p ∈ rows) : KG kb rows' rv rb w X0 rd ps vv gv vs gs W := by
  obtain ⟨h1, h2, h3⟩ := h; exact ⟨⟨h1.st, h1.ps, h1.f, h1.lo, h1.bel, h1.vs, h1.gs, h1.kb, fun r hr => h1.rows r (hs r hr)⟩, h2, fun c e => ⟨(h3 c e).1, (h3 c e).2.1, (h3 c e).2.2.1, fun r hr => (h3 c e).2.2.2.1 r (hs r hr), (h3 c e).2.2.2.2⟩⟩
theorem kgHas (h : KG kb rows rv rb w X0 rd ps vv gv vs gs W) {k : Int} (hk : okN k) : Calls Tryz.prog 18 #[.pointer (some ⟨X0.s, 0, none⟩), .int .i64 k] W fun e w' => e = .returned (.bool (decide (k ∈ vs))) ∧ w' = W := by
  have := hasS (X := { X0 with rd := rd }) k h.1.st hk
  rw [h.1.f k] at this; exact this
theorem kgFollow (hp : PF ps vs gs) (h : KG kb rows rv rb w X0 rd ps vv gv vs gs W) (from_ : Int) {v : Value} {ks : List Int} (hr : (v, ks) ∈ rows) (hl : ks.length ≤ 100000) (hr0 : 0 ≤ rd) (hr1 : rd ≤ 100000000) :
    Calls Tryz.prog 21 #[.iface 24 (.pointer (some ⟨X0.s, 0, none⟩)), .int .i64 from_, v] W fun e w' => e = .returned (fAns from_ (trip ps from_ ks)) ∧ Hid (KG kb rows rv rb w X0 (rd + (tReads (trip ps from_ ks) : Int)) ps vv gv vs gs w') := by
  have e2 : X0.ps = ps := h.1.ps; subst e2; have h5 := h.1.rows _ hr; refine (followS (X := { X0 with rd := rd }) from_ h.1.st (srow_of (W16.nrow_lies h5.1)) hl hr0 hr1 hp.wp (fun b e => ⟨(h5.1.lt b (nrow16_blk h5.1 e)).2, h5.2 b (nrow16_blk h5.1 e)⟩)).mono ?_
  rintro e w' ⟨rfl, hh⟩
  exact ⟨rfl, h.move (r := rd + (tReads (trip X0.ps from_ ks) : Int)) (unhide hh)⟩
theorem kgWander (hp : PF ps vs gs) (h : KG kb rows rv rb w X0 rd ps vv gv vs gs W) {rd' wr' : Int} (from_ : Int) {pv : Value} {pks : List Int} (hpv : SRow w pv pks) :
    Calls Tryz.prog 20 #[.agg #[vv, gv, .int .i64 rd', .int .i64 wr'], .int .i64 from_, pv] W fun e w' => ∃ a n' c, e = .returned (.slice a n' c) ∧ Hid (∃ l d, Way ps from_ l d ∧ l.length ≤ 60 ∧ n' = l.length ∧ KG kb ((.slice a n' c, l) :: rows) rv rb w X0 rd ps vv gv vs gs w') := by
  refine (wanderS (vv := vv) (rd := rd') (wr0 := wr') from_ h.1.gs.1 hp.g8.len hp.g8.re hp.g8.lk (hpv.below h.1.bel)).mono ?_
  rintro e w' ⟨a, n', c, rfl, hh⟩
  obtain ⟨l, d, h1, h2, h3, h4⟩ := unhide hh; obtain ⟨a', c', e, -⟩ := brow_shape h3; injection e with e1 e2 e3
  exact ⟨a, n', c, rfl, l, d, h1, h2, e2, h.row (Nat.le_refl _) (h.below h4) (nrow16_of h3)⟩
theorem KG.rowtake {g n c m : Nat} {ks : List Int} (h : KG kb rows rv rb w X0 rd ps vv gv vs gs W) (hr : (.slice (some ⟨g, 0, none⟩) n c, ks) ∈ rows) (hm : m ≤ n) : KG kb ((.slice (some ⟨g, 0, none⟩) m c, ks.take m) :: rows) rv rb w X0 rd ps vv gv vs gs W := by
  obtain ⟨h1, h2, h3⟩ := h; obtain ⟨k1, k2⟩ := h1.rows _ hr; refine ⟨⟨h1.st, h1.ps, h1.f, h1.lo, h1.bel, h1.vs, h1.gs, h1.kb, fun q hq => ?_⟩, h2, fun d e => ⟨(h3 d e).1, (h3 d e).2.1, (h3 d e).2.2.1, fun q hq => ?_, (h3 d e).2.2.2.2⟩⟩
  · rcases List.mem_cons.1 hq with e | e
    · subst e; exact ⟨W16.rrow_take W16.kitN k1 hm, fun b e => k2 b e⟩
    · exact h1.rows q e
  · rcases List.mem_cons.1 hq with e' | e'
    · subst e'; exact fun z => (h3 d e).2.2.2.1 (.slice (some ⟨g, 0, none⟩) n c, ks) hr z
    · exact (h3 d e).2.2.2.1 q e'
theorem kgThrough (hp : PF ps vs gs) (h : KG kb rows rv rb w X0 rd ps vv gv vs gs W) {rd' wr' : Int} (from_ : Int) {v : Value} {ks : List Int} (hr : (v, ks) ∈ rows) (hl : ks.length ≤ 2000) (ht : (trip ps from_ ks).2 = none) :
    Calls Tryz.prog 24 #[.agg #[vv, gv, .int .i64 rd', .int .i64 wr'], .int .i64 from_, v] W fun e w' => ∃ sg sm sc : Nat, e = .returned (.tuple #[.slice (some ⟨sg, 0, none⟩) (sm + 1) sc, .int .i64 0, .int .i64 0]) ∧ Hid (Below W.heap.size W w' ∧ sm ≤ 3000 ∧ ∀ W', Below w'.heap.size w' W' → W'.cell? ⟨sg, sm, none⟩ = some (.int .i64 (endOf from_ (trip ps from_ ks).1))) := by
  refine (refThroughS from_ h.1.gs.1 hp.g8 (srow_of (W16.nrow_lies (h.getr hr))) hl).mono ?_; intro e w' hh; obtain ⟨sa, sn, sc, rfl, g1, g2⟩ := unhide hh; rw [if_pos ht] at g1; obtain ⟨a', c', e', -⟩ := brow_shape g1; injection e' with e2 e3 e4
  rw [stopsOf_len] at e3; obtain ⟨g, hg⟩ := brow_some g1 (by rw [stopsOf_len]; omega)
  have hlt : (trip ps from_ ks).1.length ≤ ks.length := trip_len _ _; refine ⟨g, (trip ps from_ ks).1.length, sc, ?_, g2, by omega, fun W' hW' => ?_⟩
  · rw [hg, e3, show tPlace (trip ps from_ ks) = 0 from if_pos ht, show tCode (trip ps from_ ks) = 0 from by unfold tCode; rw [ht]; rfl]; rfl
  · subst hg; exact brow_at (brow_kept g1 (fun b eb => hW'.block b (g1.lt b eb).2)) (stops_end from_ _)
theorem kgCost (hp : PF ps vs gs) (h : KG kb rows rv rb w X0 rd ps vv gv vs gs W) {rd' wr' : Int} (from_ : Int) {v : Value} {ks : List Int} {dd : List EdgeV} (hr : (v, ks) ∈ rows) (hl : ks.length ≤ 2000) (hW : Way ps from_ ks dd) :
    Calls Tryz.prog 25 #[.agg #[vv, gv, .int .i64 rd', .int .i64 wr'], v] W fun e w' => e = .returned (.int .u32 (costOf dd)) ∧ Hid (Below W.heap.size W w') :=
  refCostS (vv := vv) (rd := rd') (wr0 := wr') from_ h.1.gs.1 hp.g8 (srow_of (W16.nrow_lies (h.getr hr))) hl hW hp.wt
theorem kgDrop {m : Nat} {g : Gr} {W1 : World} (hG : Game m X0 g vv gv vs gs W1) (hp : PF ps vs gs) {f t : Int} {u : Nat} {e0 : Int} {l' : List Int} {d : List EdgeV} (hgd : W16.Good (f, t, u, e0 :: l')) (h : KG kb rows rv (W16.encWt (f, t, u, e0 :: l')) w X0 rd ps vv gv vs gs W) (hW : Way ps f (e0 :: l') d) (hf : f ∈ vs) (ht : t ∈ vs) (hr0 : 0 ≤ rd) (hr1 : rd ≤ 100000000) :
    Calls Tryz.prog 26 #[.pointer (some ⟨X0.s, 0, none⟩), .int .i64 e0] W fun r w' => (∃ x : EdgeV, r = .returned (.tuple #[.agg #[.int .i64 x.1, .int .i64 x.2.1, .int .i64 x.2.2.1, .int .u32 x.2.2.2], .int .i64 0])) ∧ Hid (Calls Tryz.prog 11 #[.iface 24 (.pointer (some ⟨X0.s, 0, none⟩)), rv] w' fun e w2 => ∃ (F T : Int) (u' : Nat) (ev : Value), e = .returned (.tuple #[.agg #[.int .i64 F, .int .i64 T, .int .u32 (u' : Nat), ev], .int .i64 0, .int .i64 6]) ∧ Hid (Below w.heap.size w w2)) := by
  obtain ⟨x, d', -, hk, -, -⟩ := hW; obtain ⟨i, rfl, hi⟩ := lk_some hk; obtain ⟨h1, h2, h3⟩ := h; have hi' : ({ X0 with rd := rd } : Sto).ps[i]? = some (x, true) := by rw [h1.ps]; exact hi
  have hwr := hG.wrs; have hn := hG.nb; have hn2 := hG.sh.n; have hw2 := hG.sh.wr; refine (dropES (X := { X0 with rd := rd }) i h1.st hi' (by show X0.n ≤ 900000000; omega) (by show 0 ≤ X0.wr; omega) (by show X0.wr ≤ 1000000000; omega)).mono ?_
  rintro e w' ⟨rfl, hh⟩
  obtain ⟨X', hS, r1, r2, r3, r4, r5, r6⟩ := unhide hh; obtain ⟨t1, t2, t3⟩ := hS; have hT : Turned (fun b => X0.L b ≠ none) W w' := t3.1
  have hrow : W16.ByRow 0 w' rv (W16.encWt (f, t, u, ((i : Int) + 1) :: l')) := W16.rrow_kept h2 (fun b e => hT.block b (h2.lt b e).2 (fun z => z (h3 b e).2.1))
  have hbel : Below w.heap.size w w' := h1.bel.trans (hT.below h1.bel.size (fun b hb => h1.lo b hb))
  refine ⟨⟨x, rfl⟩, ?_⟩; have hps' : X'.ps = ps.set i (((0, 0, 0, 0) : EdgeV), false) := by rw [r1, h1.ps]
  have hgone : lk X'.ps ((i : Int) + 1) = none := by rw [hps']; exact (less_set i _).1
  have hc := checkS (X := X') t1 (W16.byrow_lies hrow) (W16.enc_byte _) (by have := W16.enc_len hgd; omega) (fun b e => (hrow.lt b e).2) (by rw [r4]; exact hr0) (by rw [r4]; exact hr1) (fun j y hy => by
    rw [hps'] at hy
    by_cases hj : i = j
    · subst hj; rw [List.getElem?_set] at hy; simp only [if_true] at hy; split at hy <;> cases hy
    · rw [List.getElem?_set_ne hj] at hy; exact hp.wp j y hy)
  have hs : X'.s = X0.s := t2; rw [hs] at hc; have hV : ∀ k, (X'.f k).isSome = decide (k ∈ vs) := fun k => by rw [r2]; exact h1.f k
  have hch := (chk_enc (V := fun k => (X'.f k).isSome) (ps := X'.ps) hgd).1
  simp only at hch; rw [hV f, hV t, decide_eq_true hf, decide_eq_true ht, trip_gone hgone, hold_err] at hch; refine hc.mono ?_; intro e w2 hh2; obtain ⟨ev, rfl, -, k, -, g3⟩ := unhide hh2; rw [hch]; exact ⟨_, _, _, ev, rfl, hbel.trans (g3.2.2.1.below hbel.size (fun b hb => (t3.2 b hb).elim (fun q => h1.lo b q) (fun q => Nat.le_trans h1.bel.size q)))⟩
end
end

section
open Go.RowKit Go.Maps
open W16 (WtV Lies u8v i64v dec decV DecAns)
def firstId : Code → Option Nat
  | .region id _ _ => some id
  | .seq a _ => firstId a
  | .block _ c => firstId c
  | .loop c => firstId c
  | .scope c => firstId c
  | _ => none
def fromRegion (n : Nat) : Code → Option Code
  | .seq a b => if firstId a = some n then some (.seq a b) else match fromRegion n a with
    | some c => some c
    | none => fromRegion n b
  | .cond _ a b => match fromRegion n a with
    | some c => some c
    | none => fromRegion n b
  | .block _ c => fromRegion n c
  | .loop c => fromRegion n c
  | .scope c => fromRegion n c
  | _ => none
set_option maxHeartbeats 16000000 in
set_option maxRecDepth 100000 in
theorem wlk37 [Inhabited EntI] {w wr : World} {sb gg gm gc : Nat} {ba1 : Option Addr} {bn1 bc1 : Nat} {e0 : Int} (t0 t1 t2 t3 t4 t5 t6 t8 t9 t11 t12 t13 t14 t16 t17 t18 t19 t20 t21 t22 t23 t24 t25 t26 t27 t28 t29 t30 t31 t32 t33 t34 t35 t36 t37 t38 t39 t40 t41 t42 t43 t44 t45 t46 t47 t48 t49 t50 t51 t52 t53 t54 t55 t56 t57 t58 t59 t60 t61 t62 t63 t64 t65 t66 t67 t68 t69 t70 t71 t72 t73 t74 t75 t76 t77 t78 t79 t80 t81 t82 t83 t84 t85 t86 t87 t88 t89 t90 t91 t92 t93 t94 t95 t96 t97 t98 t99 t100 t101 t102 t103 t104 t105 t106 t107 t108 t109 t110 t111 t112 t113 t114 t115 t116 t117 t118 t119 t120 t121 t122 t123 t124 t125 t126 t127 t128 t129 t130 t131 t132 t133 t134 t135 t136 t137 t138 t139 t140 t141 t142 t143 t144 t145 t146 t147 t148 t149 t150 t151 t152 t153 t154 t155 t156 t157 t158 t159 t160 t161 t162 t163 t164 t165 t166 t167 t168 t169 t170 t171 t172 t173 t174 t175 t176 t177 t178 t179 t180 t181 t182 t183 t184 t185 t186 t187 t188 t189 t190 t191 t192 t193 t194 t195 t196 t197 t198 t199 t200 t201 t202 t203 t204 t205 t206 t207 t208 t209 t210 t211 t212 t213 t214 t215 t216 t217 t218 t219 t220 t221 t222 t223 t224 t225 t226 t227 t228 t229 t230 t231 t232 t233 t234 t235 t236 t237 t238 t239 t240 t241 t242 t243 t244 t245 t246 t247 t248 t249 t250 t251 t252 t253 t254 t255 t256 t257 t258 t259 t260 t261 t262 t263 t264 t265 t266 t267 t268 t269 t270 t271 t272 t273 t274 t275 t276 t277 t278 t279 t280 t281 t282 t283 t284 t285 t286 t287 t288 t289 t290 t291 t292 t293 t294 t295 t296 t297 t298 t299 t300 t301 t302 t303 t304 t305 t306 t307 t308 t309 t310 t311 t312 t313 t314 t315 t316 t317 : Value) (Q : Exit → Act → World → Prop)
    (HC : Hid (wr.cell? ⟨gg, 0, none⟩ = some (.int .i64 e0))) (CD : Hid (Calls Tryz.prog 26 #[.pointer (some ⟨sb, 0, none⟩), .int .i64 e0] wr fun r w' => (∃ x : EdgeV, r = .returned (.tuple #[.agg #[.int .i64 x.1, .int .i64 x.2.1, .int .i64 x.2.2.1, .int .u32 x.2.2.2], .int .i64 0])) ∧ Hid (Calls Tryz.prog 11 #[.iface 24 (.pointer (some ⟨sb, 0, none⟩)), .slice ba1 bn1 bc1] w' fun e w2 => ∃ (F T : Int) (u' : Nat) (ev : Value), e = .returned (.tuple #[.agg #[.int .i64 F, .int .i64 T, .int .u32 (u' : Nat), ev], .int .i64 0, .int .i64 6]) ∧ Hid (Below w.heap.size w w2))))
    (HQ : Hid (∀ (b20 b34 b299 b300 b301 b302 b303 b304 b305 b306 b307 b308 b309 b310 b311 b312 b313 b314 b315 b316 b317 : Value) (wz : World), Below w.heap.size w wz → Q .ret ⟨#[t0, t1, t2, t3, t4, t5, .bool true, .pointer (some ⟨sb, 0, none⟩), t8, t9, .slice (some ⟨gg, 0, none⟩) (gm + 1) gc, t11, t12, t13, t14, .slice ba1 bn1 bc1, t16, t17, t18, t19, b20, t21, t22, t23, t24, t25, t26, t27, t28, t29, t30, t31, t32, t33, b34, t35, t36, t37, t38, t39, t40, t41, t42, t43, t44, t45, t46, t47, t48, t49, t50, t51, t52, t53, t54, t55, t56, t57, t58, t59, t60, t61, t62, t63, t64, t65, t66, t67, t68, t69, t70, t71, t72, t73, t74, t75, t76, t77, t78, t79, t80, t81, t82, t83, t84, t85, t86, t87, t88, t89, t90, t91, t92, t93, t94, t95, t96, t97, t98, t99, t100, t101, t102, t103, t104, t105, t106, t107, t108, t109, t110, t111, t112, t113, t114, t115, t116, t117, t118, t119, t120, t121, t122, t123, t124, t125, t126, t127, t128, t129, t130, t131, t132, t133, t134, t135, t136, t137, t138, t139, t140, t141, t142, t143, t144, t145, t146, t147, t148, t149, t150, t151, t152, t153, t154, t155, t156, t157, t158, t159, t160, t161, t162, t163, t164, t165, t166, t167, t168, t169, t170, t171, t172, t173, t174, t175, t176, t177, t178, t179, t180, t181, t182, t183, t184, t185, t186, t187, t188, t189, t190, t191, t192, t193, t194, t195, t196, t197, t198, t199, t200, t201, t202, t203, t204, t205, t206, t207, t208, t209, t210, t211, t212, t213, t214, t215, t216, t217, t218, t219, t220, t221, t222, t223, t224, t225, t226, t227, t228, t229, t230, t231, t232, t233, t234, t235, t236, t237, t238, t239, t240, t241, t242, t243, t244, t245, t246, t247, t248, t249, t250, t251, t252, t253, t254, t255, t256, t257, t258, t259, t260, t261, t262, t263, t264, t265, t266, t267, t268, t269, t270, t271, t272, t273, t274, t275, t276, t277, t278, t279, t280, t281, t282, t283, t284, t285, t286, t287, t288, t289, t290, t291, t292, t293, t294, t295, t296, t297, t298, b299, b300, b301, b302, b303, b304, b305, b306, b307, b308, b309, b310, b311, b312, b313, b314, b315, b316, b317], []⟩ wz)) :
    Code.wp Tryz.prog ((Tryz.f5.body.bind (fromRegion 37)).getD .skip) Q ⟨#[t0, t1, t2, t3, t4, t5, t6, .pointer (some ⟨sb, 0, none⟩), t8, t9, .slice (some ⟨gg, 0, none⟩) (gm + 1) gc, t11, t12, t13, t14, .slice ba1 bn1 bc1, t16, t17, t18, t19, t20, t21, t22, t23, t24, t25, t26, t27, t28, t29, t30, t31, t32, t33, t34, t35, t36, t37, t38, t39, t40, t41, t42, t43, t44, t45, t46, t47, t48, t49, t50, t51, t52, t53, t54, t55, t56, t57, t58, t59, t60, t61, t62, t63, t64, t65, t66, t67, t68, t69, t70, t71, t72, t73, t74, t75, t76, t77, t78, t79, t80, t81, t82, t83, t84, t85, t86, t87, t88, t89, t90, t91, t92, t93, t94, t95, t96, t97, t98, t99, t100, t101, t102, t103, t104, t105, t106, t107, t108, t109, t110, t111, t112, t113, t114, t115, t116, t117, t118, t119, t120, t121, t122, t123, t124, t125, t126, t127, t128, t129, t130, t131, t132, t133, t134, t135, t136, t137, t138, t139, t140, t141, t142, t143, t144, t145, t146, t147, t148, t149, t150, t151, t152, t153, t154, t155, t156, t157, t158, t159, t160, t161, t162, t163, t164, t165, t166, t167, t168, t169, t170, t171, t172, t173, t174, t175, t176, t177, t178, t179, t180, t181, t182, t183, t184, t185, t186, t187, t188, t189, t190, t191, t192, t193, t194, t195, t196, t197, t198, t199, t200, t201, t202, t203, t204, t205, t206, t207, t208, t209, t210, t211, t212, t213, t214, t215, t216, t217, t218, t219, t220, t221, t222, t223, t224, t225, t226, t227, t228, t229, t230, t231, t232, t233, t234, t235, t236, t237, t238, t239, t240, t241, t242, t243, t244, t245, t246, t247, t248, t249, t250, t251, t252, t253, t254, t255, t256, t257, t258, t259, t260, t261, t262, t263, t264, t265, t266, t267, t268, t269, t270, t271, t272, t273, t274, t275, t276, t277, t278, t279, t280, t281, t282, t283, t284, t285, t286, t287, t288, t289, t290, t291, t292, t293, t294, t295, t296, t297, t298, t299, t300, t301, t302, t303, t304, t305, t306, t307, t308, t309, t310, t311, t312, t313, t314, t315, t316, t317], []⟩ wr := by
  conv => arg 2; whnf
  obtain hc := unhide HC; have z5 : (0 : Int) < (gm : Int) + 1 := by omega
  go_wp2_with fail
  refine (unhide CD).mono ?_
  rintro e w37 ⟨⟨x, rfl⟩, H37⟩
  clear hc CD HC
  go_wp2_with fail
  refine (unhide H37).mono ?_
  rintro e w38 ⟨F, T, u', ev, rfl, HE38⟩
  clear H37
  go_wp2_with fail
  exact unhide HQ _ _ _ _ _ _ _ _ _ _ _ _ _ _ _ _ _ _ _ _ _ _ (unhide HE38)
end

end Go.Proofs.YtagibmgbjhemkaaGreat
