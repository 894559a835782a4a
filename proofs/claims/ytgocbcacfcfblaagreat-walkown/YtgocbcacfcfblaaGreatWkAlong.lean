/- walk.along: over a store, with any step. -/
import Derived.Test.YtgocbcacfcfblaaGreatStBoth
import Derived.Test.YtgocbcacfcfblaaGreatRefSeg
import Derived.Handy
namespace Go.Proofs.YtgocbcacfcfblaaGreat

section
open Go.RowKit Go.Maps
/-- The record that is answered of e. -/
def lk (ps : List (EdgeV × Bool)) (e : Int) : Option EdgeV :=
  if e < 1 then none else match ps[(e - 1).toNat]? with
    | some (x, true) => some x
    | _ => none
theorem lk_yes {ps : List (EdgeV × Bool)} {i : Nat} {x : EdgeV} (h : ps[i]? = some (x, true)) : lk ps ((i : Int) + 1) = some x := by
  unfold lk
  rw [if_neg (by omega)]
  have e : ((i : Int) + 1 - 1).toNat = i := by omega
  rw [e, h]
theorem lk_some {ps : List (EdgeV × Bool)} {e : Int} {x : EdgeV} (h : lk ps e = some x) : ∃ i : Nat, e = (i : Int) + 1 ∧ ps[i]? = some (x, true) := by
  unfold lk at h
  by_cases he : e < 1
  · rw [if_pos he] at h; cases h
  · rw [if_neg he] at h
    refine ⟨(e - 1).toNat, by omega, ?_⟩
    generalize ps[(e - 1).toNat]? = o at h ⊢
    match o, h with
    | some (y, true), h => simp at h; rw [h]
theorem lk_none {ps : List (EdgeV × Bool)} {e : Int} (h : lk ps e = none) (i : Nat) (a : EdgeV) (he : e = (i : Int) + 1) : ps[i]? ≠ some (a, true) := fun hc => by
  subst he; rw [lk_yes hc] at h; cases h

/-- Along these edges from a: the records gone along, and the fault. -/
def trip (ps : List (EdgeV × Bool)) : Int → List Int → List EdgeV × Option Int
  | _, [] => ([], none)
  | a, e :: es => match lk ps e with
    | none => ([], some 6)
    | some x => if x.2.1 = a then (x :: (trip ps x.2.2.1 es).1, (trip ps x.2.2.1 es).2) else ([], some 80)
def endOf (a : Int) (d : List EdgeV) : Int := d.foldl (fun _ x => x.2.2.1) a
theorem endOf_snoc (a : Int) (d : List EdgeV) (x : EdgeV) : endOf a (d ++ [x]) = x.2.2.1 := by simp [endOf]
theorem endOf_append (a : Int) (d d' : List EdgeV) : endOf a (d ++ d') = endOf (endOf a d) d' := by simp [endOf]
/-- The records of a walk. -/
def Way (ps : List (EdgeV × Bool)) : Int → List Int → List EdgeV → Prop
  | _, [], d => d = []
  | a, e :: es, d => ∃ x d', d = x :: d' ∧ lk ps e = some x ∧ x.2.1 = a ∧ Way ps x.2.2.1 es d'
theorem Way.len {ps : List (EdgeV × Bool)} : ∀ {es : List Int} {a : Int} {d : List EdgeV}, Way ps a es d → d.length = es.length
  | [], a, d, h => by have h' : d = [] := h; rw [h']; rfl
  | e :: es, a, d, h => by obtain ⟨x, d', rfl, -, -, h4⟩ := h; simp [Way.len h4]
theorem Way.trip {ps : List (EdgeV × Bool)} (es2 : List Int) : ∀ {es : List Int} {a : Int} {d : List EdgeV}, Way ps a es d → trip ps a (es ++ es2) = (d ++ (Go.Proofs.YtgocbcacfcfblaaGreat.trip ps (endOf a d) es2).1, (Go.Proofs.YtgocbcacfcfblaaGreat.trip ps (endOf a d) es2).2)
  | [], a, d, h => by have h' : d = [] := h; rw [h']; rfl
  | e :: es, a, d, h => by
    obtain ⟨x, d', rfl, h2, h3, h4⟩ := h
    have ih := Way.trip es2 h4
    show Go.Proofs.YtgocbcacfcfblaaGreat.trip ps a (e :: (es ++ es2)) = _
    rw [Go.Proofs.YtgocbcacfcfblaaGreat.trip, h2]
    simp only
    rw [if_pos h3, ih]
    rfl
theorem Way.all {ps : List (EdgeV × Bool)} {es : List Int} {a : Int} {d : List EdgeV} (h : Way ps a es d) : Go.Proofs.YtgocbcacfcfblaaGreat.trip ps a es = (d, none) := by
  have := Way.trip [] h
  rw [List.append_nil] at this
  rw [this]; simp [Go.Proofs.YtgocbcacfcfblaaGreat.trip]
theorem Way.append {ps : List (EdgeV × Bool)} {es2 : List Int} {d2 : List EdgeV} : ∀ {es : List Int} {a : Int} {d : List EdgeV}, Way ps a es d → Way ps (endOf a d) es2 d2 → Way ps a (es ++ es2) (d ++ d2)
  | [], a, d, h, h2 => by have h' : d = [] := h; rw [h'] at h2 ⊢; exact h2
  | e :: es, a, d, h, h2 => by
    obtain ⟨x, d', rfl, h3, h4, h5⟩ := h
    exact ⟨x, d' ++ d2, rfl, h3, h4, Way.append h5 h2⟩
theorem Way.snoc {ps : List (EdgeV × Bool)} {es : List Int} {a e : Int} {d : List EdgeV} {x : EdgeV} (h : Way ps a es d) (hl : lk ps e = some x) (hx : x.2.1 = endOf a d) : Way ps a (es ++ [e]) (d ++ [x]) :=
  h.append ⟨x, [], rfl, hl, hx, rfl⟩
theorem Way.split {ps : List (EdgeV × Bool)} {es2 : List Int} : ∀ {es : List Int} {a : Int} {d : List EdgeV}, Way ps a (es ++ es2) d → ∃ d1 d2, d = d1 ++ d2 ∧ Way ps a es d1 ∧ Way ps (endOf a d1) es2 d2
  | [], a, d, h => ⟨[], d, rfl, rfl, h⟩
  | e :: es, a, d, h => by
    obtain ⟨x, d', rfl, h2, h3, h4⟩ := h
    obtain ⟨d1, d2, rfl, h5, h6⟩ := Way.split h4
    exact ⟨x :: d1, d2, rfl, ⟨x, d1, rfl, h2, h3, h5⟩, h6⟩
theorem trip_way {ps : List (EdgeV × Bool)} : ∀ {es : List Int} {a : Int}, (trip ps a es).2 = none → Way ps a es (trip ps a es).1
  | [], a, _ => rfl
  | e :: es, a, h => by
    rw [trip] at h ⊢
    cases hl : lk ps e with
    | none => rw [hl] at h; cases h
    | some x =>
      rw [hl] at h
      simp only at h ⊢
      by_cases hx : x.2.1 = a
      · rw [if_pos hx] at h ⊢; exact ⟨x, _, rfl, hl, hx, trip_way h⟩
      · rw [if_neg hx] at h; cases h
theorem trip_len {ps : List (EdgeV × Bool)} : ∀ (es : List Int) (a : Int), (trip ps a es).1.length ≤ es.length
  | [], a => Nat.le_refl _
  | e :: es, a => by
    rw [trip]
    cases hl : lk ps e with
    | none => exact Nat.zero_le _
    | some x =>
      simp only
      by_cases hx : x.2.1 = a
      · rw [if_pos hx]; exact Nat.succ_le_succ (trip_len es _)
      · rw [if_neg hx]; exact Nat.zero_le _
/-- What is answered of it: the place, the error; how many records are read. -/
def tPlace (t : List EdgeV × Option Int) : Nat := if t.2 = none then 0 else t.1.length
def tCode (t : List EdgeV × Option Int) : Int := t.2.getD 0
def tReads (t : List EdgeV × Option Int) : Nat := t.1.length + (if t.2 = some 80 then 1 else 0)
theorem tReads_le (ps : List (EdgeV × Bool)) (es : List Int) (a : Int) : tReads (trip ps a es) ≤ es.length + 1 := by
  have := trip_len (ps := ps) es a
  unfold tReads; split <;> omega
end

section
open Go.RowKit Go.Maps
def SRow (w : World) (v : Value) (ks : List Int) : Prop := ∃ a c, v = .slice a ks.length c ∧ ∀ (j : Nat) (k : Int), ks[j]? = some k → ∃ g o, a = some ⟨g, o, none⟩ ∧ w.cell? ⟨g, o + j, none⟩ = some (.int .i64 k)
/-- The block in which a slice lies. -/
def blkOf : Value → Option Nat
  | .slice (some x) _ _ => some x.block
  | _ => none
theorem SRow.turned {S : Nat → Prop} {w w' : World} {v : Value} {ks : List Int} (h : SRow w v ks) (hT : Turned S w w') (hS : ∀ b, blkOf v = some b → b < w.heap.size → ¬ S b) : SRow w' v ks := by
  obtain ⟨a, c, rfl, h2⟩ := h
  refine ⟨a, c, rfl, fun j k hj => ?_⟩
  obtain ⟨g, o, rfl, hc⟩ := h2 j k hj
  have hl : g < w.heap.size := World.block_lt_of_cell? _ _ hc
  exact ⟨g, o, rfl, (cell_of_heap (x := ⟨g, o + j, none⟩) (hT.block g hl (hS g rfl hl))).trans hc⟩
theorem SRow.below {w w' : World} {v : Value} {ks : List Int} (h : SRow w v ks) (hb : Below w.heap.size w w') : SRow w' v ks := h.turned (S := fun _ => False) (turned_of_below hb) (fun _ _ _ h => h)
theorem brow_srow {B : Nat} {w : World} {v : Value} {ks : List Int} (h : BRow B w v ks) : SRow w v ks := by
  obtain ⟨a, c, rfl, -⟩ := brow_shape h
  refine ⟨a, c, rfl, fun j k hj => ?_⟩
  have h0 : 0 < ks.length := by
    obtain ⟨hj', -⟩ := List.getElem?_eq_some_iff.1 hj
    omega
  obtain ⟨g, rfl⟩ := brow_some h h0
  exact ⟨g, 0, rfl, by rw [Nat.zero_add]; exact brow_at h hj⟩
theorem blk_own {B : Nat} {w : World} {v : Value} {ks : List Int} (h : BRow B w v ks) {b : Nat} (hb : blkOf v = some b) : v.ownBlock = some b := by
  rcases h.2 with ⟨rfl, -⟩ | ⟨g, cap, cur, rfl, -⟩
  · cases hb
  · simpa [blkOf, Value.ownBlock] using hb
end

section
open Go.RowKit Go.Maps
/-- A step: of the records gone along it keeps a picture P, in blocks A of its own. -/
structure StepFn (fv : Value) (N : Nat) (Q : EdgeV → Prop) (P : List EdgeV → (Nat → Prop) → World → Prop) : Prop where
  fn : ∃ (g : Nat) (cb : Array Value), fv = .func (.func g) #[] cb ∧ (∀ args w, (callFunc g args).run Tryz.prog w = .ok (.enter g args) w) ∧
    ∀ (d : List EdgeV) (x : EdgeV) (A : Nat → Prop) (w : World), d.length < N → Q x → P d A w → Calls Tryz.prog g (#[.int .i64 x.1, .agg #[.int .i64 x.1, .int .i64 x.2.1, .int .i64 x.2.2.1, .int .u32 x.2.2.2]] ++ cb) w fun e w' => e = .returned (.tuple #[]) ∧ Hid (∃ A', P (d ++ [x]) A' w' ∧ Turned A w w' ∧ ∀ b, A' b → A b ∨ w.heap.size ≤ b)
  keep : ∀ d A w w', P d A w → (∀ b, A b → w'.heap[b]? = w.heap[b]?) → w.heap.size ≤ w'.heap.size → P d A w'
  lt : ∀ d A w b, P d A w → A b → b < w.heap.size

/-- Behind some of the edges: the store, the step's picture. -/
structure Mid [Inhabited EntI] (P : List EdgeV → (Nat → Prop) → World → Prop) (w : World) (X : Sto) (A : Nat → Prop) (n : Nat) (d : List EdgeV) (A' : Nat → Prop) (w' : World) : Prop where
  st : StAt w' { X with rd := X.rd + (n : Int) }
  pic : P d A' w'
  turned : Turned (fun b => X.L b ≠ none ∨ A b) w w'
  own : ∀ b, A' b → A b ∨ w.heap.size ≤ b
  off : ∀ b, A' b → X.L b = none
section
variable [Inhabited EntI] {P : List EdgeV → (Nat → Prop) → World → Prop} {w w' w2 : World} {X : Sto} {A A' : Nat → Prop} {n N : Nat} {d : List EdgeV} {Q : EdgeV → Prop} {fv : Value}

theorem Mid.below (hF : StepFn fv N Q P) (h : Mid P w X A n d A' w') (hb : Below w'.heap.size w' w2) : Mid P w X A n d A' w2 :=
  ⟨h.st.below hb, hF.keep _ _ _ _ h.pic (fun b hb' => hb.block b (hF.lt _ _ _ b h.pic hb')) hb.size, h.turned.trans (turned_of_below hb), h.own, h.off⟩
/-- Behind a record that is read. -/
theorem Mid.read (hF : StepFn fv N Q P) (h : Mid P w X A n d A' w') (hS : Step w' { X with rd := X.rd + (n : Int) } w2 { X with rd := X.rd + (n : Int) + 1 }) : Mid P w X A (n + 1) d A' w2 := by
  obtain ⟨h1, -, h3⟩ := hS
  refine ⟨?_, hF.keep _ _ _ _ h.pic (fun b hb' => (h3.old (hF.lt _ _ _ b h.pic hb') (h.off b hb')).1) h3.1.size, h.turned.trans (h3.1.mono (fun b _ hb => .inl hb)), h.own, h.off⟩
  have e : X.rd + ((n + 1 : Nat) : Int) = X.rd + (n : Int) + 1 := by omega
  rw [e]; exact h1
/-- Behind a step. -/
theorem Mid.step {x : EdgeV} {A2 : Nat → Prop} (h : Mid P w X A n d A' w') (hP : P (d ++ [x]) A2 w2) (hT : Turned A' w' w2) (ho : ∀ b, A2 b → A' b ∨ w'.heap.size ≤ b) : Mid P w X A n (d ++ [x]) A2 w2 := by
  refine ⟨h.st.kept (fun b hb => hT.block b (h.st.mem.lt b hb) (fun ha => hb (h.off b ha))) hT.size, hP, h.turned.then_ hT (fun b hb ha => ?_), fun b hb => ?_, fun b hb => ?_⟩
  · rcases h.own b ha with e | e
    · exact .inr e
    · exact absurd hb (Nat.not_lt.2 e)
  · rcases ho b hb with e | e
    · exact h.own b e
    · exact .inr (Nat.le_trans h.turned.size e)
  · rcases ho b hb with e | e
    · exact h.off b e
    · exact h.st.mem.new e
/-- What along answers. -/
def AlongAns (P : List EdgeV → (Nat → Prop) → World → Prop) (w : World) (X : Sto) (A : Nat → Prop) (t : List EdgeV × Option Int) (w' : World) : Prop := ∃ A', Mid P w X A (tReads t) t.1 A' w'

set_option maxHeartbeats 2000000 in
set_option maxRecDepth 100000 in
theorem alongS (hF : StepFn fv N Q P) (from_ : Int) {ev : Value} {es : List Int} (h : StAt w X) (hr : SRow w ev es) (hl : es.length ≤ N) (hN : N ≤ 100000) (hx0 : 0 ≤ X.rd) (hx1 : X.rd ≤ 100000000)
    (hQ : ∀ (i : Nat) (x : EdgeV), X.ps[i]? = some (x, true) → Q x)
    (hP : P [] A w) (hA : ∀ b, A b → X.L b = none) (hb : ∀ b, blkOf ev = some b → b < w.heap.size → X.L b = none ∧ ¬ A b) :
    Calls Tryz.prog 28 #[.iface 24 (.pointer (some ⟨X.s, 0, none⟩)), .int .i64 from_, ev, fv] w fun e w' => e = .returned (.tuple #[.int .i64 (tPlace (trip X.ps from_ es)), .int .i64 (tCode (trip X.ps from_ es))]) ∧ Hid (AlongAns P w X A (trip X.ps from_ es) w') := by
  obtain ⟨g, cb, rfl, eg, hC⟩ := hF.fn
  have HC := hide hC
  have HF := hide hF
  have HM0 : Hid (Mid P w X A 0 [] A w) := ⟨by simpa using h, hP, Turned.refl _ _, fun b hb => .inl hb, hA⟩
  obtain ⟨ea, ec, rfl, hcell⟩ := hr
  have HROW : Hid (∀ n d A' W, Mid P w X A n d A' W → ∀ (j : Nat) (k : Int), es[j]? = some k → ∃ g o, ea = some ⟨g, o, none⟩ ∧ W.cell? ⟨g, o + j, none⟩ = some (.int .i64 k)) := fun n d A' W hM j k hj => by
    have := SRow.turned ⟨ea, ec, rfl, hcell⟩ hM.turned (fun b hbk hlt hor => hor.elim (fun e => e (hb b hbk hlt).1) (hb b hbk hlt).2)
    obtain ⟨a, c, e, h2⟩ := this
    injection e with e1 e2 e3
    subst e1
    exact h2 j k hj
  obtain ⟨len, hlen⟩ : ∃ len, len = es.length := ⟨_, rfl⟩
  have HLEN : Hid (len = es.length ∧ len ≤ N ∧ N ≤ 100000 ∧ 0 ≤ X.rd ∧ X.rd ≤ 100000000) := ⟨hlen, by omega, hN, hx0, hx1⟩
  rw [← hlen]
  have HQ : Hid (∀ (i : Nat) (x : EdgeV), X.ps[i]? = some (x, true) → Q x ∧ x.1 = (i : Int) + 1) := fun i x hi => ⟨hQ i x hi, (h.edge i x hi).1⟩
  -- one round's calls, over the store's own words
  have HNO : Hid (∀ n d A' W e, Mid P w X A n d A' W → lk X.ps e = none → Calls Tryz.prog 62 #[.pointer (some ⟨X.s, 0, none⟩), .int .i64 e] W fun r w' => r = .returned (.tuple #[.agg #[.int .i64 0, .int .i64 0, .int .i64 0, .int .u32 0], .int .i64 6]) ∧ Hid (Mid P w X A n d A' (w'.alloc (oE (0, 0, 0, 0))))) := fun n d A' W e hM hk => by
    refine (edgeNo e hM.st (fun i a he => lk_none hk i a he)).mono ?_
    rintro r w' ⟨rfl, hbw⟩
    exact ⟨rfl, (hM.below hF hbw).below hF (below_new _ _)⟩
  have HYES : Hid (∀ n d A' W e x, n ≤ N → Mid P w X A n d A' W → lk X.ps e = some x → Calls Tryz.prog 62 #[.pointer (some ⟨X.s, 0, none⟩), .int .i64 e] W fun r w' => r = .returned (.tuple #[.agg #[.int .i64 x.1, .int .i64 x.2.1, .int .i64 x.2.2.1, .int .u32 x.2.2.2], .int .i64 0]) ∧ Hid (Mid P w X A (n + 1) d A' (w'.alloc (oE x)) ∧ ∀ b, A' b → b < w'.heap.size)) := fun n d A' W e x hn hM hk => by
    obtain ⟨i, rfl, hi⟩ := lk_some hk
    have q1 := (unhide HLEN)
    refine (edgeS i hM.st hi (by show 0 ≤ X.rd + (n : Int); omega) (by show X.rd + (n : Int) ≤ 1000000000; omega)).mono ?_
    rintro r w' ⟨rfl, hh⟩
    have h1 := hM.read hF (unhide hh)
    exact ⟨rfl, h1.below hF (below_new _ _), fun b hb' => hF.lt _ _ _ b h1.pic hb'⟩
  generalize hsx : X.s = s at *
  clear hC hF h hP hA hb hcell hlen hl hN hx0 hx1 hQ hsx
  go_enter Tryz.func28, Tryz.ntmps28
  go_wp2_with fail
  go_loopw [10, 18] (fun sa si wr => ∃ (i : Nat) (d : List EdgeV) (at_ : Int), si = .int .i64 i ∧ sa = .int .i64 at_ ∧ i ≤ len ∧ Hid (∃ A', Mid P w X A i d A' wr ∧ Way X.ps from_ (es.take i) d ∧ at_ = endOf from_ d)) (fun _ si _ => len - (intOf si).toNat)
  case atStart => exact ⟨0, [], from_, rfl, rfl, Nat.zero_le _, A, unhide HM0, rfl, rfl⟩
  case round =>
    obtain ⟨i, d, at_, rfl, rfl, hi, hS⟩ := hrel
    clear HM0
    by_cases hlt : i < len
    · have hz : (i : Int) < (len : Int) := by omega
      obtain ⟨A', hM, hW, hat⟩ := unhide hS
      obtain ⟨e, he⟩ : ∃ e, es[i]? = some e := ⟨_, List.getElem?_eq_getElem (by have := (unhide HLEN).1; omega)⟩
      obtain ⟨eb, eo, rfl, hce⟩ := unhide HROW i d A' wr hM i e he
      have hwi : wrap64 ((i : Int) + 1) = ((i + 1 : Nat) : Int) := by have := unhide HLEN; unfold wrap64; omega
      have HWI := hide hwi
      have HT : Hid (trip X.ps from_ es = (d ++ (trip X.ps at_ (es.drop i)).1, (trip X.ps at_ (es.drop i)).2) ∧ es.drop i = e :: es.drop (i + 1) ∧ d.length = i) := by
        have h1 := Way.trip (es.drop i) hW
        rw [List.take_append_drop] at h1
        refine ⟨by rw [hat]; exact h1, ?_, ?_⟩
        · obtain ⟨hj, hj2⟩ := List.getElem?_eq_some_iff.1 he
          rw [List.drop_eq_getElem_cons hj, hj2]
        · have := hW.len
          rw [List.length_take] at this
          have := (unhide HLEN).1
          omega
      clear hwi
      cases hk : lk X.ps e with
      | none =>
        have C1 := hide (unhide HNO i d A' wr e hM hk)
        have HRES : Hid (trip X.ps from_ es = (d, some 6) ∧ d.length = i) := by
          obtain ⟨t1, t2, t3⟩ := unhide HT
          rw [t1, t2, trip, hk]
          exact ⟨by simp, t3⟩
        clear hS hM hW hat he hk HT
        go_wp2_with fail
        refine (unhide C1).mono ?_
        rintro r w1 ⟨rfl, h1⟩
        go_upto_region 6 with fail
        change Code.wp _ _ _ _ (w1.alloc (oE (0, 0, 0, 0)))
        generalize w1.alloc (oE (0, 0, 0, 0)) = w2 at *
        clear C1 hce
        go_wp2_with fail
        go_ret2
        obtain ⟨t1, t2⟩ := unhide HRES
        rw [t1]
        refine ⟨by simp [tPlace, tCode, t2], A', ?_⟩
        have e1 : tReads (d, some 6) = i := by simp [tReads, t2]
        rw [e1]; exact unhide h1
      | some x =>
        obtain ⟨ii, hii, hps⟩ := lk_some hk
        obtain ⟨hq, hx1⟩ := unhide HQ ii x hps
        obtain ⟨xe, xu, xv, xb⟩ := x
        have hxe : xe = e := by have h' : xe = (ii : Int) + 1 := hx1; rw [h', hii]
        subst hxe
        have C1 := hide (unhide HYES i d A' wr xe (xe, xu, xv, xb) (by have := unhide HLEN; omega) hM hk)
        by_cases hu : xu = at_
        · have HRES : Hid (Way X.ps from_ (es.take (i + 1)) (d ++ [(xe, xu, xv, xb)]) ∧ endOf from_ (d ++ [(xe, xu, xv, xb)]) = xv ∧ d.length < N ∧ Q (xe, xu, xv, xb)) := by
            refine ⟨?_, endOf_snoc _ _ _, by have := (unhide HT).2.2; have := unhide HLEN; omega, hq⟩
            rw [take_succ_of he]
            exact hW.snoc hk (hu.trans hat)
          clear hS hM hW hat he hk HT hq hx1 hii hps
          subst hu
          go_wp2_with fail
          refine (unhide C1).mono ?_
          rintro r w1 ⟨rfl, h1⟩
          clear C1 hce
          go_upto_region 6 with fail
          change Code.wp _ _ _ _ (w1.alloc (oE (xe, xu, xv, xb)))
          obtain ⟨x0, x1, x2, x3, -⟩ := box_cells (heap_alloc_new w1 (oE (xe, xu, xv, xb)))
          have CS : Hid (Calls Tryz.prog g (#[.int .i64 xe, .agg #[.int .i64 xe, .int .i64 xu, .int .i64 xv, .int .u32 xb]] ++ cb) (w1.alloc (oE (xe, xu, xv, xb))) fun e w' => e = .returned (.tuple #[]) ∧ w'.cell? ⟨w1.heap.size, 2, none⟩ = some (.int .i64 xv) ∧ Hid (∃ A2, Mid P w X A (i + 1) (d ++ [(xe, xu, xv, xb)]) A2 w')) := by
            obtain ⟨q1, q2, q3, q4⟩ := unhide HRES
            obtain ⟨m1, m2⟩ := unhide h1
            have := unhide HC d (xe, xu, xv, xb) A' _ q3 q4 m1.pic
            refine this.mono ?_
            rintro r w' ⟨rfl, hh⟩
            obtain ⟨A2, p1, p2, p3⟩ := unhide hh
            refine ⟨rfl, ?_, A2, m1.step p1 p2 p3⟩
            exact (cell_of_heap (x := ⟨w1.heap.size, 2, none⟩) (p2.block _ (by simp) (fun ha => Nat.lt_irrefl _ (m2 _ ha)))).trans x2
          clear h1
          simp only at x0 x1 x2 x3
          generalize w1.alloc (oE (xe, xu, xv, xb)) = w2 at *
          generalize w1.heap.size = bx at *
          go_wp2_with fail
          refine (unhide CS).mono ?_
          rintro r w3 ⟨rfl, c3, h3⟩
          clear CS x0 x1 x2 x3
          go_wp2_with fail
          (try rw [unhide HWI])
          obtain ⟨A2, h4⟩ := unhide h3
          obtain ⟨q1, q2, q3, q4⟩ := unhide HRES
          exact ⟨⟨i + 1, d ++ [(xe, xu, xv, xb)], xv, rfl, rfl, by omega, A2, h4, q1, q2.symm⟩, by simp [intOf]; omega⟩
        · have HRES : Hid (trip X.ps from_ es = (d, some 80) ∧ d.length = i) := by
            obtain ⟨t1, t2, t3⟩ := unhide HT
            rw [t1, t2, trip, hk]
            simp only
            rw [if_neg hu]
            exact ⟨by simp, t3⟩
          have hu2 : (xu == at_) = false := by simp [hu]
          clear hS hM hW hat he hk HT hq hx1 hii hps
          go_wp2_with fail
          refine (unhide C1).mono ?_
          rintro r w1 ⟨rfl, h1⟩
          clear C1 hce
          go_upto_region 6 with fail
          change Code.wp _ _ _ _ (w1.alloc (oE (xe, xu, xv, xb)))
          obtain ⟨x0, x1, x2, x3, -⟩ := box_cells (heap_alloc_new w1 (oE (xe, xu, xv, xb)))
          simp only at x0 x1 x2 x3
          generalize w1.alloc (oE (xe, xu, xv, xb)) = w2 at *
          generalize w1.heap.size = bx at *
          go_wp2_with fail
          go_ret2
          obtain ⟨t1, t2⟩ := unhide HRES
          rw [t1]
          refine ⟨by simp [tPlace, tCode, t2], A', ?_⟩
          have e1 : tReads (d, some 80) = i + 1 := by simp [tReads, t2]
          rw [e1]; exact (unhide h1).1
    · have hz : ¬ (i : Int) < (len : Int) := by omega
      obtain ⟨A', hM, hW, hat⟩ := unhide hS
      have e1 : es.take i = es := List.take_of_length_le (by have := (unhide HLEN).1; omega)
      have HRES : Hid (trip X.ps from_ es = (d, none) ∧ ∃ A', Mid P w X A (tReads (d, none)) d A' wr) := by
        rw [e1] at hW
        refine ⟨hW.all, A', ?_⟩
        have e2 : tReads (d, none) = i := by
          have h1 := hW.len
          have := (unhide HLEN).1
          simp [tReads]; omega
        rw [e2]; exact hM
      clear hS hM hW hat e1
      go_wp2_with fail
      go_ret2
      obtain ⟨t1, t2⟩ := unhide HRES
      rw [t1]
      exact ⟨by simp [tPlace, tCode], t2⟩
end
end

end Go.Proofs.YtgocbcacfcfblaaGreat
