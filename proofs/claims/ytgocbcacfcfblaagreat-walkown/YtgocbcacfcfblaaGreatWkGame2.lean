/- Simple, beside the graph. -/
import Derived.Test.YtgocbcacfcfblaaGreatWkGame
namespace Go.Proofs.YtgocbcacfcfblaaGreat

section
open Go.RowKit Go.Maps
/-! ### a map whose elements are numbers -/
def numE (o : Option Nat) : DataW Unit := .lit (.int .i64 ((o.getD 0 : Nat) : Int))
def intElem : Value → Option (DataW Unit × List MemPlace)
  | .int .i64 n => some (.lit (.int .i64 n), [])
  | _ => none
theorem intElem_inv {v : Value} {z : DataW Unit × List MemPlace} (h : intElem v = some z) : ∃ n, v = .int .i64 n ∧ z = (.lit (.int .i64 n), []) := by
  unfold intElem at h
  split at h
  · exact ⟨_, rfl, (Option.some.inj h).symm⟩
  · cases h
/-- The map in block m leads each key k to f k; it has N entries. -/
def MapFI (w : World) (m : Nat) (f : Int → Option Nat) (N : Nat) : Prop :=
  ∃ D, w.ownsMap Tryz.prog 3 intElem m N D ∧ Maps.Tidy D ∧ Maps.size D = N ∧ ∀ k, okN k → D.atKey (klN k) (.lit (.int .i64 0)) = numE (f k) ∧ Maps.has D (klN k) = (f k).isSome
section
variable {w w' : World} {m N : Nat} {f : Int → Option Nat}
theorem MapFI.lt (h : MapFI w m f N) : m < w.heap.size := by
  obtain ⟨D, h1, -⟩ := h
  exact h1.lt
theorem MapFI.kept (h : MapFI w m f N) (hk : w'.heap[m]? = w.heap[m]?) : MapFI w' m f N := by
  obtain ⟨D, ⟨es, clock, h1, h2⟩, h3⟩ := h
  exact ⟨D, ⟨es, clock, hk.trans h1, h2⟩, h3⟩
theorem zeroI8 (w : World) : (zeroValue 3).run Tryz.prog w = .ok (.int .i64 0) w := by kernel_rfl
theorem MapFI.look2 (h : MapFI w m f N) (k : Int) (hk : okN k) : (Instr.lookup 81 (.map (some m)) (.int .i64 k) true).run Tryz.prog w = .ok (.tuple #[.int .i64 ((f k).getD 0 : Nat), .bool (f k).isSome]) w := by
  obtain ⟨D, h1, h2, h3, h4⟩ := h
  obtain ⟨v, ps, hrun, hv⟩ := h1.look_ok kitN.law Tryz.underlying81 (zeroI8 w) (show intElem (.int .i64 0) = some (.lit (.int .i64 0), []) from rfl) (kitN.key k hk)
  obtain ⟨o, rfl, ho⟩ := intElem_inv hv
  have h5 : numE (f k) = .lit (.int .i64 o) := by rw [← (h4 k hk).1]; exact congrArg Prod.fst ho
  have h6 : (((f k).getD 0 : Nat) : Int) = o := by simpa [numE] using h5
  rw [← (h4 k hk).2, h6]
  exact hrun
theorem MapFI.put_ (h : MapFI w m f N) (hn : N < maxLen) (k : Int) (hk : okN k) (hf : f k = none) (q : Nat) :
    ∃ w', (Instr.mapUpdate 81 (.map (some m)) (.int .i64 k) (.int .i64 q)).run Tryz.prog w = .ok () w' ∧ MapFI w' m (putK f k (some q)) (N + 1) ∧ w.mapTurned w' m := by
  obtain ⟨D, h1, h2, h3, h4⟩ := h
  obtain ⟨w', hrun, g1, g2⟩ := h1.store kitN.law Tryz.underlying81 hn (kitN.key k hk) (show intElem (.int .i64 (q : Int)) = some (.lit (.int .i64 (q : Int)), []) from rfl)
  have hs : Maps.size (D.put (klN k) (.lit (.int .i64 (q : Int)))) = N + 1 := by rw [size_put h2, h3, (h4 k hk).2, hf]; rfl
  refine ⟨w', hrun, ⟨_, hs ▸ ownsMap_size g1, h2.put (kitN.lit k) _, hs, fun x hx => ?_⟩, g2⟩
  by_cases e : x = k
  · subst e
    rw [atKey_put_same h2.isMap (kitN.lit x), has_put_same h2.isMap (kitN.lit x)]
    simp [putK, numE]
  · have hne : klN x ≠ klN k := fun he => e (kitN.inj _ _ he)
    rw [atKey_put_other hne, has_put_other hne]
    simp only [putK, if_neg e]
    exact h4 x hx
theorem MapFI.del_ (h : MapFI w m f (N + 1)) (k : Int) (hk : okN k) (hs : (f k).isSome = true) (ty : TypeId) :
    ∃ w', (Builtin.delete_ #[81, 3] ty #[.map (some m), .int .i64 k]).run Tryz.prog w = .ok (.tuple #[]) w' ∧ MapFI w' m (putK f k none) N ∧ w.mapTurned w' m := by
  obtain ⟨D, h1, h2, h3, h4⟩ := h
  obtain ⟨w', hrun, g1, g2⟩ := h1.drop kitN.law Tryz.underlying81 (kitN.key k hk) ty
  have hsz : Maps.size (D.del (klN k)) = N := by
    have := size_del (k := klN k) h2
    rw [(h4 k hk).2, hs, h3] at this
    simpa using this
  refine ⟨w', hrun, ⟨_, hsz ▸ ownsMap_size g1, h2.del _, hsz, fun x hx => ?_⟩, g2⟩
  by_cases e : x = k
  · subst e
    rw [atKey_del_same, has_del_same]
    simp [putK, numE]
  · have hne : klN x ≠ klN k := fun he => e (kitN.inj _ _ he)
    rw [atKey_del_other hne, has_del_other hne]
    simp only [putK, if_neg e]
    exact h4 x hx
end
theorem mapFI_made (w : World) : MapFI (w.alloc (.map #[] 0)) w.heap.size (fun _ => none) 0 :=
  ⟨.map [], World.ownsMap_made w _ _ _, tidy_empty, rfl, fun _ _ => ⟨rfl, rfl⟩⟩

/-! ### trails -/
/-- The place of v. -/
def plc : List Int → Int → Option Nat
  | [], _ => none
  | a :: st, v => if a = v then some 0 else (plc st v).map (· + 1)
theorem plc_some : ∀ {st : List Int} {v : Int} {i : Nat}, plc st v = some i → st[i]? = some v
  | [], v, i, h => by cases h
  | a :: st, v, i, h => by
    rw [plc] at h
    by_cases e : a = v
    · rw [if_pos e] at h; cases h; rw [e]; rfl
    · rw [if_neg e] at h
      cases h2 : plc st v with
      | none => rw [h2] at h; cases h
      | some j =>
        rw [h2] at h
        cases h
        simpa using plc_some h2
theorem plc_none : ∀ {st : List Int} {v : Int}, plc st v = none → v ∉ st
  | [], v, _ => by simp
  | a :: st, v, h => by
    rw [plc] at h
    by_cases e : a = v
    · rw [if_pos e] at h; cases h
    · rw [if_neg e] at h
      have h2 : plc st v = none := by
        cases h2 : plc st v with
        | none => rfl
        | some j => rw [h2] at h; cases h
      have := plc_none h2
      simp [this]
      exact fun e' => e e'.symm
/-- One edge more, by its number and its end. -/
def tgo (s : List Int × List Int) (e v : Int) : List Int × List Int := match plc s.1 v with
  | some p => (s.1.take (p + 1), s.2.take p)
  | none => (s.1 ++ [v], s.2 ++ [e])
def trail8 (a : Int) (d : List EdgeV) : List Int × List Int := d.foldl (fun s x => tgo s x.1 x.2.2.1) ([a], [])
theorem trail_snoc (a : Int) (d : List EdgeV) (x : EdgeV) : trail8 a (d ++ [x]) = tgo (trail8 a d) x.1 x.2.2.1 := by simp [trail8]
structure Trl (s : List Int × List Int) : Prop where
  nodup : s.1.Nodup
  len : s.1.length = s.2.length + 1
theorem Trl.go {s : List Int × List Int} (h : Trl s) (e v : Int) : Trl (tgo s e v) := by
  unfold tgo
  cases hp : plc s.1 v with
  | some p =>
    have hl : p < s.1.length := (List.getElem?_eq_some_iff.1 (plc_some hp)).1
    exact ⟨h.nodup.sublist (List.take_sublist _ _), by have := h.len; simp only [List.length_take]; omega⟩
  | none =>
    refine ⟨?_, by have := h.len; simp only [List.length_append, List.length_singleton]; omega⟩
    rw [List.nodup_append]
    exact ⟨h.nodup, by simp, fun a ha b hb => by simp at hb; subst hb; exact fun e => plc_none hp (e ▸ ha)⟩
theorem trail_trl (a : Int) (d : List EdgeV) : Trl (trail8 a d) := by
  unfold trail8
  have : ∀ (d : List EdgeV) (s : List Int × List Int), Trl s → Trl (d.foldl (fun s x => tgo s x.1 x.2.2.1) s) := by
    intro d
    induction d with
    | nil => intro s h; exact h
    | cons x d ih => intro s h; exact ih _ (h.go _ _)
  exact this d _ ⟨by simp, rfl⟩
theorem trail_len (a : Int) (d : List EdgeV) : (trail8 a d).2.length ≤ d.length := by
  unfold trail8
  have : ∀ (d : List EdgeV) (s : List Int × List Int), (d.foldl (fun s x => tgo s x.1 x.2.2.1) s).2.length ≤ s.2.length + d.length := by
    intro d
    induction d with
    | nil => intro s; exact Nat.le_refl _
    | cons x d ih =>
      intro s
      have h1 := ih (tgo s x.1 x.2.2.1)
      have h2 : (tgo s x.1 x.2.2.1).2.length ≤ s.2.length + 1 := by
        unfold tgo
        cases plc s.1 x.2.2.1 with
        | some p => simp only [List.length_take]; omega
        | none => simp
      simp only [List.foldl_cons, List.length_cons]
      omega
  have := this d ([a], [])
  simpa using this
/-- What the map says of the stops. -/
def MapTo (f : Int → Option Nat) (st : List Int) : Prop := ∀ (k : Int) (i : Nat), f k = some i ↔ st[i]? = some k
theorem MapTo.plc {f : Int → Option Nat} {st : List Int} (h : MapTo f st) (v : Int) : f v = Go.Proofs.YtgocbcacfcfblaaGreat.plc st v := by
  cases hp : Go.Proofs.YtgocbcacfcfblaaGreat.plc st v with
  | some p => exact (h v p).2 (plc_some hp)
  | none =>
    cases hf : f v with
    | none => rfl
    | some i => exact absurd (List.mem_of_getElem? ((h v i).1 hf)) (plc_none hp)
theorem MapTo.put {f : Int → Option Nat} {st : List Int} (h : MapTo f st) {v : Int} (hf : f v = none) : MapTo (putK f v (some st.length)) (st ++ [v]) := by
  intro k i
  unfold putK
  have hv : v ∉ st := fun hm => by
    obtain ⟨j, hj⟩ := List.mem_iff_getElem?.1 hm
    rw [(h v j).2 hj] at hf; cases hf
  by_cases e : k = v
  · subst e
    rw [if_pos rfl]
    constructor
    · intro q; injection q with q; subst q; simp
    · intro q
      rcases Nat.lt_or_ge i st.length with hi | hi
      · rw [List.getElem?_append_left hi] at q
        exact absurd (List.mem_of_getElem? q) hv
      · have := (List.getElem?_eq_some_iff.1 q).1
        simp at this
        rw [show st.length = i by omega]
  · rw [if_neg e, h k i]
    constructor
    · intro q
      rw [List.getElem?_append_left (List.getElem?_eq_some_iff.1 q).1]; exact q
    · intro q
      rcases Nat.lt_or_ge i st.length with hi | hi
      · rw [List.getElem?_append_left hi] at q; exact q
      · rw [List.getElem?_append_right hi] at q
        have : v = k := by
          have h1 := (List.getElem?_eq_some_iff.1 q).1
          have h2 : i - st.length = 0 := by simp at h1; omega
          rw [h2] at q; simpa using q
        exact absurd this.symm e
/-- The places from p + 1 up to j have gone. -/
def MapToB (f : Int → Option Nat) (st : List Int) (p j : Nat) : Prop := ∀ (k : Int) (i : Nat), f k = some i ↔ st[i]? = some k ∧ ¬ (p < i ∧ i < j)
theorem MapToB.del {f : Int → Option Nat} {st : List Int} {p j : Nat} {v : Int} (h : MapToB f st p j) (hn : st.Nodup) (hp : p < j) (hj : st[j]? = some v) : MapToB (putK f v none) st p (j + 1) := by
  intro k i
  unfold putK
  by_cases e : k = v
  · subst e
    rw [if_pos rfl]
    constructor
    · intro q; cases q
    · rintro ⟨q1, q2⟩
      have : i = j := (List.getElem?_inj (List.getElem?_eq_some_iff.1 q1).1 hn).1 (q1.trans hj.symm)
      exact absurd ⟨by omega, by omega⟩ q2
  · rw [if_neg e, h k i]
    constructor
    · rintro ⟨q1, q2⟩
      exact ⟨q1, fun q3 => q2 ⟨q3.1, by
        rcases Nat.lt_or_ge i j with q | q
        · exact q
        · have : i = j := by omega
          subst this
          rw [hj] at q1; injection q1 with q1
          exact absurd q1.symm e⟩⟩
    · rintro ⟨q1, q2⟩
      exact ⟨q1, fun q3 => q2 ⟨q3.1, by omega⟩⟩
theorem MapToB.all {f : Int → Option Nat} {st : List Int} {p : Nat} (h : MapToB f st p st.length) : MapTo f (st.take (p + 1)) := by
  intro k i
  rw [h k i, List.getElem?_take]
  constructor
  · rintro ⟨q1, q2⟩
    have := (List.getElem?_eq_some_iff.1 q1).1
    rw [if_pos (by omega)]; exact q1
  · intro q
    by_cases hi : i < p + 1
    · rw [if_pos hi] at q; exact ⟨q, by omega⟩
    · rw [if_neg hi] at q; cases q
theorem MapTo.toB {f : Int → Option Nat} {st : List Int} (h : MapTo f st) (p : Nat) : MapToB f st p (p + 1) := fun k i => by
  rw [h k i]
  exact ⟨fun q => ⟨q, by omega⟩, fun q => q.1⟩
end

section
open Go.RowKit Go.Maps
def oT8 (edv stv : Value) (mm : Nat) : Obj := .cells #[edv, stv, .map (some mm)] 83 (0, 0)
theorem cellsT8 {w : World} {b mm : Nat} {edv stv : Value} (h : w.heap[b]? = some (oT8 edv stv mm)) : w.cell? ⟨b, 0, none⟩ = some edv ∧ w.cell? ⟨b, 1, none⟩ = some stv ∧ w.cell? ⟨b, 2, none⟩ = some (.map (some mm)) ∧ ∀ o, w.frozen? ⟨b, o, none⟩ = false :=
  ⟨(cell_of_row _ _ 0 _ _ (0, 0) h).trans rfl, (cell_of_row _ _ 1 _ _ (0, 0) h).trans rfl, (cell_of_row _ _ 2 _ _ (0, 0) h).trans rfl, fun o => frozen_of_row _ _ o _ _ h⟩
theorem brow_take {B : Nat} {w : World} {g n c : Nat} {ks : List Int} (h : BRow B w (.slice (some ⟨g, 0, none⟩) n c) ks) {m : Nat} (hm : m ≤ n) : BRow B w (.slice (some ⟨g, 0, none⟩) m c) (ks.take m) := by
  obtain ⟨h1, h2⟩ := h
  rcases h2 with ⟨e, -⟩ | ⟨g', cap, cur, e, hb, hh, h3, h4, h5, h6⟩
  · cases e
  · injection e with e1 e2 e3
    injection e1 with e1
    injection e1 with e1
    subst e1 e2 e3
    have hl : (ks.take m).length = m := by rw [List.length_take]; omega
    refine ⟨by simp, .inr ⟨g, c, cur, by rw [hl], hb, hh, by rw [hl]; omega, h4, h5, ?_⟩⟩
    rw [hl, List.map_take, ← h6, Nat.mul_one, Nat.mul_one, List.take_take, Nat.min_eq_left hm]
/-- A trail in memory, from B on. -/
structure TM (B tb mm : Nat) (edv stv : Value) (s : List Int × List Int) (w : World) : Prop where
  box : w.heap[tb]? = some (oT8 edv stv mm)
  er : BRow B w edv s.2
  sr : BRow B w stv s.1
  map : ∃ f, MapFI w mm f s.1.length ∧ MapTo f s.1
  trl : Trl s
  ok : ∀ k ∈ s.1, okN k
  n1 : edv.ownBlock ≠ some tb
  n2 : edv.ownBlock ≠ some mm
  n3 : stv.ownBlock ≠ some tb
  n4 : stv.ownBlock ≠ some mm
  n5 : ∀ b, edv.ownBlock = some b → stv.ownBlock ≠ some b
  n6 : tb ≠ mm
  b1 : B ≤ tb
  b2 : B ≤ mm
  b3 : B ≤ w.heap.size
theorem TM.kept {B tb mm : Nat} {edv stv : Value} {s : List Int × List Int} {w w' : World} (h : TM B tb mm edv stv s w) (hk : ∀ b, b = tb ∨ b = mm ∨ edv.ownBlock = some b ∨ stv.ownBlock = some b → w'.heap[b]? = w.heap[b]?) (hs : w.heap.size ≤ w'.heap.size) : TM B tb mm edv stv s w' := by
  obtain ⟨f, f1, f2⟩ := h.map
  exact ⟨(hk tb (.inl rfl)).trans h.box, brow_kept h.er (fun b e => hk b (.inr (.inr (.inl e)))), brow_kept h.sr (fun b e => hk b (.inr (.inr (.inr e)))), ⟨f, f1.kept (hk mm (.inr (.inl rfl))), f2⟩, h.trl, h.ok, h.n1, h.n2, h.n3, h.n4, h.n5, h.n6, h.b1, h.b2, Nat.le_trans h.b3 hs⟩
theorem TM.lt {B tb mm : Nat} {edv stv : Value} {s : List Int × List Int} {w : World} (h : TM B tb mm edv stv s w) {b : Nat} (hb : b = tb ∨ b = mm ∨ edv.ownBlock = some b ∨ stv.ownBlock = some b) : b < w.heap.size := by
  obtain ⟨f, f1, f2⟩ := h.map
  rcases hb with rfl | rfl | e | e
  · exact heap_lt h.box
  · exact f1.lt
  · exact (h.er.lt b e).2
  · exact (h.sr.lt b e).2
/-- Amid backTo: j stops have been forgotten. -/
structure TB (B tb mm : Nat) (edv stv : Value) (s : List Int × List Int) (p j : Nat) (w w' : World) : Prop where
  tm : TM B tb mm edv stv s w
  box : w'.heap[tb]? = some (oT8 edv stv mm)
  er : BRow B w' edv s.2
  sr : BRow B w' stv s.1
  map : ∃ f, MapFI w' mm f (s.1.length - j) ∧ MapToB f s.1 p (p + 1 + j)
  turned : Turned (fun b => b = tb ∨ b = mm) w w'
theorem TM.start {B tb mm : Nat} {edv stv : Value} {s : List Int × List Int} {w : World} (h : TM B tb mm edv stv s w) (p : Nat) : TB B tb mm edv stv s p 0 w w := by
  obtain ⟨f, f1, f2⟩ := h.map
  exact ⟨h, h.box, h.er, h.sr, ⟨f, f1, f2.toB p⟩, Turned.refl _ _⟩
theorem TB.del {B tb mm : Nat} {edv stv : Value} {s : List Int × List Int} {p j : Nat} {w w' : World} (h : TB B tb mm edv stv s p j w w') {v : Int} (hv : s.1[p + 1 + j]? = some v) :
    ∃ w2, (∀ ty, (Builtin.delete_ #[81, 3] ty #[.map (some mm), .int .i64 v]).run Tryz.prog w' = .ok (.tuple #[]) w2) ∧ TB B tb mm edv stv s p (j + 1) w w2 := by
  obtain ⟨f, f1, f2⟩ := h.map
  have hl := (List.getElem?_eq_some_iff.1 hv).1
  have e1 : s.1.length - j = (s.1.length - (j + 1)) + 1 := by omega
  rw [e1] at f1
  have hsm : (f v).isSome = true := by rw [(f2 v (p + 1 + j)).2 ⟨hv, by omega⟩]; rfl
  obtain ⟨w2, hr, g1, g2⟩ := f1.del_ v (h.tm.ok v (List.mem_of_getElem? hv)) hsm 0
  have ht : Turned (fun b => b = mm) w' w2 := turned_map g2 rfl
  refine ⟨w2, fun ty => ?_, ⟨h.tm, (ht.block tb (heap_lt h.box) h.tm.n6).trans h.box, brow_kept h.er (fun b e => ht.block b (h.er.lt b e).2 (fun e2 => h.tm.n2 (by rw [← e2]; exact e))), brow_kept h.sr (fun b e => ht.block b (h.sr.lt b e).2 (fun e2 => h.tm.n4 (by rw [← e2]; exact e))), ⟨_, g1, f2.del h.tm.trl.nodup (by omega) hv⟩, h.turned.trans (ht.mono (fun b _ e => .inr e))⟩⟩
  obtain ⟨w3, hr3, -⟩ := f1.del_ v (h.tm.ok v (List.mem_of_getElem? hv)) hsm ty
  have : (Builtin.delete_ #[81, 3] ty #[.map (some mm), .int .i64 v]).run Tryz.prog w' = (Builtin.delete_ #[81, 3] 0 #[.map (some mm), .int .i64 v]).run Tryz.prog w' := rfl
  rw [this]; exact hr
/-- Behind backTo. -/
theorem TB.end_ {B tb mm g n c eg en ec : Nat} {ea : Option Addr} {s : List Int × List Int} {p : Nat} {w w' : World} (h : TB B tb mm (.slice ea en ec) (.slice (some ⟨g, 0, none⟩) n c) s p (n - (p + 1)) w w') (hp : p < n) (hea : ea = none ∨ ea = some ⟨eg, 0, none⟩) :
    TM B tb mm (.slice ea p ec) (.slice (some ⟨g, 0, none⟩) (p + 1) c) (s.1.take (p + 1), s.2.take p) ((w'.setCell ⟨tb, 1, none⟩ (.slice (some ⟨g, 0, none⟩) (p + 1) c)).setCell ⟨tb, 0, none⟩ (.slice ea p ec)) ∧ Turned (fun b => b = tb ∨ b = mm) w ((w'.setCell ⟨tb, 1, none⟩ (.slice (some ⟨g, 0, none⟩) (p + 1) c)).setCell ⟨tb, 0, none⟩ (.slice ea p ec)) := by
  obtain ⟨f, f1, f2⟩ := h.map
  have hn : n = s.1.length := by
    obtain ⟨a', c', e, -⟩ := brow_shape h.sr
    injection e with e1 e2 e3
  have hen : en = s.2.length := by
    obtain ⟨a', c', e, -⟩ := brow_shape h.er
    injection e with e1 e2 e3
  have hl := h.tm.trl.len
  have hown : (Value.slice ea p ec).ownBlock = (Value.slice ea en ec).ownBlock := by rcases hea with rfl | rfl <;> rfl
  have e0 : (w'.setCell ⟨tb, 1, none⟩ (.slice (some ⟨g, 0, none⟩) (p + 1) c)).heap[tb]? = some (oT8 (.slice ea en ec) (.slice (some ⟨g, 0, none⟩) (p + 1) c) mm) := by rw [heap_setCell_same _ _ _ _ _ _ h.box]; rfl
  have hoth : ∀ b, b ≠ tb → ((w'.setCell ⟨tb, 1, none⟩ (.slice (some ⟨g, 0, none⟩) (p + 1) c)).setCell ⟨tb, 0, none⟩ (.slice ea p ec)).heap[b]? = w'.heap[b]? := fun b hb => (heap_setCell_other _ _ _ _ hb).trans (heap_setCell_other _ _ _ _ hb)
  have hT : Turned (fun b => b = tb ∨ b = mm) w ((w'.setCell ⟨tb, 1, none⟩ (.slice (some ⟨g, 0, none⟩) (p + 1) c)).setCell ⟨tb, 0, none⟩ (.slice ea p ec)) := (h.turned.trans (turned_setCell _ _ _ (.inl rfl))).trans (turned_setCell _ _ _ (.inl rfl))
  refine ⟨⟨?_, ?_, ?_, ⟨f, ?_, ?_⟩, ⟨h.tm.trl.nodup.sublist (List.take_sublist _ _), by simp only [List.length_take]; omega⟩, fun k hk => h.tm.ok k (List.mem_of_mem_take hk), ?_, ?_, h.tm.n3, h.tm.n4, ?_, h.tm.n6, h.tm.b1, h.tm.b2, Nat.le_trans h.tm.b3 hT.size⟩, hT⟩
  · rw [heap_setCell_same _ _ _ _ _ _ e0]; rfl
  · rcases hea with rfl | rfl
    · have e1 : s.2 = [] := by
        rcases h.er.2 with ⟨e, h0⟩ | ⟨g', cap, cur, e, -⟩
        · exact List.length_eq_zero_iff.1 h0
        · cases e
      have hp0 : p = 0 := by rw [e1] at hl; simp at hl; omega
      have hec : ec = 0 := by
        rcases h.er.2 with ⟨e, h0⟩ | ⟨g', cap, cur, e, -⟩
        · injection e
        · cases e
      rw [e1, hp0, hec]
      exact ⟨rfl, .inl ⟨rfl, rfl⟩⟩
    · exact brow_kept (brow_take h.er (by omega)) (fun b e => hoth b (fun e2 => h.tm.n1 (by rw [← e2]; exact e)))
  · exact brow_kept (brow_take h.sr (by omega)) (fun b e => hoth b (fun e2 => h.tm.n3 (by rw [← e2]; exact e)))
  · have e2 : (s.1.take (p + 1)).length = s.1.length - (n - (p + 1)) := by rw [List.length_take]; omega
    rw [e2]
    exact f1.kept (hoth mm (fun e => h.tm.n6 e.symm))
  · have e3 : p + 1 + (n - (p + 1)) = s.1.length := by omega
    rw [e3] at f2
    exact f2.all
  · rw [hown]; exact h.tm.n1
  · rw [hown]; exact h.tm.n2
  · intro b hb'; rw [hown] at hb'; exact h.tm.n5 b hb'
/-- What backTo leaves. -/
def BkAns (B tb mm : Nat) (edv stv : Value) (s : List Int × List Int) (p : Nat) (w w' : World) : Prop := ∃ edv' stv', edv'.ownBlock = edv.ownBlock ∧ stv'.ownBlock = stv.ownBlock ∧ TM B tb mm edv' stv' (s.1.take (p + 1), s.2.take p) w' ∧ Turned (fun b => b = tb ∨ b = mm) w w'

set_option maxHeartbeats 2000000 in
set_option maxRecDepth 100000 in
theorem backToS {B tb mm : Nat} {edv stv : Value} {s : List Int × List Int} {w : World} (p : Nat) (h : TM B tb mm edv stv s w) (hp : p < s.1.length) (hl : s.1.length ≤ 1000000) :
    Calls Tryz.prog 69 #[.pointer (some ⟨tb, 0, none⟩), .int .i64 p] w fun r w' => r = .returned (.tuple #[]) ∧ Hid (BkAns B tb mm edv stv s p w w') := by
  obtain ⟨sa, c, rfl, hnc⟩ := brow_shape h.sr
  obtain ⟨g, rfl⟩ := brow_some h.sr (by omega)
  obtain ⟨n, hn⟩ : ∃ n, n = s.1.length := ⟨_, rfl⟩
  rw [← hn] at h hnc
  obtain ⟨ea, ec, rfl, hec⟩ := brow_shape h.er
  obtain ⟨en, hen⟩ : ∃ en, en = s.2.length := ⟨_, rfl⟩
  rw [← hen] at h hec
  have hlen := h.trl.len
  have HS := hide (h.start p)
  have HL : Hid (n = s.1.length ∧ p < n ∧ n ≤ 1000000 ∧ n ≤ c ∧ p ≤ en ∧ en ≤ ec) := ⟨hn, by omega, by omega, hnc, by omega, hec⟩
  have hea : ea = none ∧ en = 0 ∧ ec = 0 ∨ ∃ eg, ea = some ⟨eg, 0, none⟩ := by
    rcases h.er.2 with ⟨e, h0⟩ | ⟨g', cap, cur, e, -⟩
    · injection e with e1 e2 e3; exact .inl ⟨e1, e2, e3⟩
    · injection e with e1 e2 e3; exact .inr ⟨g', e1⟩
  have HEND : Hid (∀ W, TB B tb mm (.slice ea en ec) (.slice (some ⟨g, 0, none⟩) n c) s p (n - (p + 1)) w W → BkAns B tb mm (.slice ea en ec) (.slice (some ⟨g, 0, none⟩) n c) s p w ((W.setCell ⟨tb, 1, none⟩ (.slice (some ⟨g, 0, none⟩) (p + 1) c)).setCell ⟨tb, 0, none⟩ (.slice ea p ec))) := fun W hW => by
    have hp' := (unhide HL).2.1
    rcases hea with ⟨e1, -, -⟩ | ⟨eg, e1⟩
    · obtain ⟨q1, q2⟩ := hW.end_ (eg := 0) hp' (.inl e1)
      exact ⟨.slice ea p ec, .slice (some ⟨g, 0, none⟩) (p + 1) c, by rw [e1]; rfl, rfl, q1, q2⟩
    · obtain ⟨q1, q2⟩ := hW.end_ (eg := eg) hp' (.inr e1)
      exact ⟨.slice ea p ec, .slice (some ⟨g, 0, none⟩) (p + 1) c, by rw [e1]; rfl, rfl, q1, q2⟩
  obtain ⟨c0, c1, c2, cf⟩ := cellsT8 h.box
  have hw1 : wrap64 ((p : Int) + 1) = ((p + 1 : Nat) : Int) := by have := unhide HL; unfold wrap64; omega
  have hw2 : IntKind.i64.wrap ((p : Int) + 1) = ((p + 1 : Nat) : Int) := by have := unhide HL; rw [IntKind.wrap_i64]; omega
  obtain ⟨p1, hp1⟩ : ∃ p1, p1 = p + 1 := ⟨_, rfl⟩
  rw [← hp1] at hw1 hw2 HEND
  have HP1 := hide hp1
  have hq1 : (p1 : Int) ≤ (n : Int) := by have := unhide HL; omega
  have hq2 : (p1 : Int) ≤ (c : Int) := by have := unhide HL; omega
  have hq3 : (n : Int) ≤ (c : Int) := by have := unhide HL; omega
  have hq4 : (p : Int) ≤ (ec : Int) := by have := unhide HL; omega
  have hq5 : (0 : Int) ≤ (p1 : Int) := by omega
  clear h hp hl hnc hec hn hen hlen hp1
  rcases hea with hea | hea
  · obtain ⟨rfl, rfl, rfl⟩ := hea
    by_cases hc : p1 = c
    · obtain rfl := hc
      obtain rfl : n = p1 := by omega
      have HT0 := hide (unhide HEND w (by rw [Nat.sub_self]; exact unhide HS))
      clear HEND HS
      go_enter Tryz.func69, Tryz.ntmps69
      go_upto_region 1 with fail
      refine wp_loop_rounds 1 ?_
      rw [rounds_succ]
      go_wp2_with fail
      go_end0
      exact ⟨rfl, HT0⟩
    · go_enter Tryz.func69, Tryz.ntmps69
      go_upto_region 1 with fail
      go_loopw [5, 14] (fun s5 s14 wr => ∃ j : Nat, s14 = .int .i64 j ∧ j ≤ n - p1 ∧ Hid (TB B tb mm (.slice none 0 0) (.slice (some ⟨g, 0, none⟩) n c) s p j w wr)) (fun _ s14 _ => n - p1 - (intOf s14).toNat)
      case atStart => exact ⟨0, rfl, Nat.zero_le _, HS⟩
      case round =>
        obtain ⟨j, rfl, hj, hT⟩ := hrel
        obtain ⟨k0, k1, k2, kf⟩ := cellsT8 (unhide hT).box
        by_cases hlt : j < n - p1
        · have hz : (j : Int) < ((n - p1 : Nat) : Int) := by omega
          obtain ⟨v, hv⟩ : ∃ v, s.1[p + 1 + j]? = some v := ⟨_, List.getElem?_eq_getElem (by have := unhide HL; have := unhide HP1; omega)⟩
          have hcv : wr.cell? ⟨g, p1 + j, none⟩ = some (.int .i64 v) := brow_at (unhide hT).sr (by rw [unhide HP1]; exact hv)
          obtain ⟨w2, hd, hT2⟩ := (unhide hT).del hv
          have HT2 := hide hT2
          have hwj : wrap64 ((j : Int) + 1) = ((j + 1 : Nat) : Int) := by have := unhide HL; unfold wrap64; omega
          have HWJ := hide hwj
          clear hT hT2 hv hwj HS HEND c0 c1 c2 cf
          go_wp2_with fail
          (try rw [unhide HWJ])
          exact ⟨⟨j + 1, rfl, by omega, HT2⟩, by simp [intOf]; omega⟩
        · have hz : ¬ (j : Int) < ((n - p1 : Nat) : Int) := by omega
          obtain rfl : j = n - p1 := by omega
          have HT0 := hide (unhide HEND wr (unhide hT))
          clear HEND HS hT c0 c1 c2 cf hlt hj
          go_wp2_with fail
          go_end0
          exact ⟨rfl, HT0⟩
  · obtain ⟨eg, rfl⟩ := hea
    by_cases hc : p1 = c
    · obtain rfl := hc
      obtain rfl : n = p1 := by omega
      have HT0 := hide (unhide HEND w (by rw [Nat.sub_self]; exact unhide HS))
      clear HEND HS
      go_enter Tryz.func69, Tryz.ntmps69
      go_upto_region 1 with fail
      refine wp_loop_rounds 1 ?_
      rw [rounds_succ]
      go_wp2_with fail
      go_end0
      exact ⟨rfl, HT0⟩
    · go_enter Tryz.func69, Tryz.ntmps69
      go_upto_region 1 with fail
      go_loopw [5, 14] (fun s5 s14 wr => ∃ j : Nat, s14 = .int .i64 j ∧ j ≤ n - p1 ∧ Hid (TB B tb mm (.slice (some ⟨eg, 0, none⟩) en ec) (.slice (some ⟨g, 0, none⟩) n c) s p j w wr)) (fun _ s14 _ => n - p1 - (intOf s14).toNat)
      case atStart => exact ⟨0, rfl, Nat.zero_le _, HS⟩
      case round =>
        obtain ⟨j, rfl, hj, hT⟩ := hrel
        obtain ⟨k0, k1, k2, kf⟩ := cellsT8 (unhide hT).box
        by_cases hlt : j < n - p1
        · have hz : (j : Int) < ((n - p1 : Nat) : Int) := by omega
          obtain ⟨v, hv⟩ : ∃ v, s.1[p + 1 + j]? = some v := ⟨_, List.getElem?_eq_getElem (by have := unhide HL; have := unhide HP1; omega)⟩
          have hcv : wr.cell? ⟨g, p1 + j, none⟩ = some (.int .i64 v) := brow_at (unhide hT).sr (by rw [unhide HP1]; exact hv)
          obtain ⟨w2, hd, hT2⟩ := (unhide hT).del hv
          have HT2 := hide hT2
          have hwj : wrap64 ((j : Int) + 1) = ((j + 1 : Nat) : Int) := by have := unhide HL; unfold wrap64; omega
          have HWJ := hide hwj
          clear hT hT2 hv hwj HS HEND c0 c1 c2 cf
          go_wp2_with fail
          (try rw [unhide HWJ])
          exact ⟨⟨j + 1, rfl, by omega, HT2⟩, by simp [intOf]; omega⟩
        · have hz : ¬ (j : Int) < ((n - p1 : Nat) : Int) := by omega
          obtain rfl : j = n - p1 := by omega
          have HT0 := hide (unhide HEND wr (unhide hT))
          clear HEND HS hT c0 c1 c2 cf hlt hj
          go_wp2_with fail
          go_end0
          exact ⟨rfl, HT0⟩
end

section
open Go.RowKit Go.Maps
/-- What goOn leaves. -/
def GoAns (B tb mm : Nat) (edv stv : Value) (s : List Int × List Int) (w w' : World) : Prop := ∃ edv' stv', TM B tb mm edv' stv' s w' ∧ Turned (fun b => b = tb ∨ b = mm ∨ edv.ownBlock = some b ∨ stv.ownBlock = some b) w w' ∧ (∀ b, edv'.ownBlock = some b → edv.ownBlock = some b ∨ w.heap.size ≤ b) ∧ ∀ b, stv'.ownBlock = some b → stv.ownBlock = some b ∨ w.heap.size ≤ b
theorem TM.more {B tb mm : Nat} {edv stv : Value} {s : List Int × List Int} {w : World} (h : TM B tb mm edv stv s w) (e v : Int) (hv : okN v) (hp : plc s.1 v = none) (hl : s.1.length ≤ 1000000) :
    ∃ w1 sa sn sc w2 ea en ec w4, (Instr.mapUpdate 81 (.map (some mm)) (.int .i64 v) (.int .i64 (s.1.length : Nat))).run Tryz.prog w.drew = .ok () w1 ∧ w1.cell? ⟨tb, 1, none⟩ = some stv ∧
      (∀ ty, (Builtin.append_ #[23, 23] ty #[stv, .slice (some ⟨w1.heap.size, 0, none⟩) 1 1]).run Tryz.prog (w1.alloc (.cells #[.int .i64 v] 3)) = .ok (.slice sa sn sc) w2) ∧ (w2.cell? ⟨tb, 1, none⟩ = some stv ∧ ∀ o, w2.frozen? ⟨tb, o, none⟩ = false) ∧
      (w2.setCell ⟨tb, 1, none⟩ (.slice sa sn sc)).cell? ⟨tb, 0, none⟩ = some edv ∧
      (∀ ty, (Builtin.append_ #[23, 23] ty #[edv, .slice (some ⟨(w2.setCell ⟨tb, 1, none⟩ (.slice sa sn sc)).heap.size, 0, none⟩) 1 1]).run Tryz.prog ((w2.setCell ⟨tb, 1, none⟩ (.slice sa sn sc)).alloc (.cells #[.int .i64 e] 3)) = .ok (.slice ea en ec) w4) ∧ (w4.cell? ⟨tb, 0, none⟩ = some edv ∧ ∀ o, w4.frozen? ⟨tb, o, none⟩ = false) ∧
      GoAns B tb mm edv stv (tgo s e v) w (w4.setCell ⟨tb, 0, none⟩ (.slice ea en ec)) := by
  obtain ⟨f, f1, f2⟩ := h.map
  have hfv : f v = none := (f2.plc v).trans hp
  have fd : MapFI w.drew mm f s.1.length := f1.kept rfl
  obtain ⟨w1, hr1, g1, g2⟩ := fd.put_ (by unfold maxLen; omega) v hv hfv s.1.length
  have t1 : Turned (fun b => b = mm) w w1 := (turned_drew w).trans (turned_map g2 rfl)
  have k1 := (t1.block tb (heap_lt h.box) h.n6).trans h.box
  have s1 : BRow B w1 stv s.1 := brow_kept h.sr (fun b eb => t1.block b (h.sr.lt b eb).2 (fun e2 => h.n4 (by rw [← e2]; exact eb)))
  have e1 : BRow B w1 edv s.2 := brow_kept h.er (fun b eb => t1.block b (h.er.lt b eb).2 (fun e2 => h.n2 (by rw [← e2]; exact eb)))
  obtain ⟨sa, sn, sc, w2, hr2, s2, t2, n2⟩ := run_app8 v s1 (Nat.le_trans h.b3 t1.size) (by omega)
  have k2 := (t2.block tb (heap_lt k1) h.n3).trans k1
  have e2 : BRow B w2 edv s.2 := brow_kept e1 (fun b eb => t2.block b (e1.lt b eb).2 (h.n5 b eb))
  have m2 : MapFI w2 mm (putK f v (some s.1.length)) (s.1.length + 1) := g1.kept (t2.block mm g1.lt h.n4)
  have hne : ∀ b, (Value.slice sa sn sc).ownBlock = some b → stv.ownBlock = some b ∨ w.heap.size ≤ b := fun b eb => (n2 b eb).imp id (fun q => Nat.le_trans t1.size q)
  have hns : (Value.slice sa sn sc).ownBlock ≠ some tb := fun eb => by
    rcases hne tb eb with q | q
    · exact h.n3 q
    · have := heap_lt h.box; omega
  have hnm : (Value.slice sa sn sc).ownBlock ≠ some mm := fun eb => by
    rcases hne mm eb with q | q
    · exact h.n4 q
    · have := f1.lt; omega
  have k3 : (w2.setCell ⟨tb, 1, none⟩ (.slice sa sn sc)).heap[tb]? = some (oT8 edv (.slice sa sn sc) mm) := by rw [heap_setCell_same _ _ _ _ _ _ k2]; rfl
  have hoth : ∀ b, b ≠ tb → (w2.setCell ⟨tb, 1, none⟩ (.slice sa sn sc)).heap[b]? = w2.heap[b]? := fun b hb => heap_setCell_other _ _ _ _ hb
  have e3 : BRow B (w2.setCell ⟨tb, 1, none⟩ (.slice sa sn sc)) edv s.2 := brow_kept e2 (fun b eb => hoth b (fun e4 => h.n1 (by rw [← e4]; exact eb)))
  have s3 : BRow B (w2.setCell ⟨tb, 1, none⟩ (.slice sa sn sc)) (.slice sa sn sc) (s.1 ++ [v]) := brow_kept s2 (fun b eb => hoth b (fun e4 => hns (by rw [← e4]; exact eb)))
  have z3 : (w2.setCell ⟨tb, 1, none⟩ (.slice sa sn sc)).heap.size = w2.heap.size := by simp
  have zz : w.heap.size ≤ w2.heap.size := Nat.le_trans t1.size t2.size
  obtain ⟨ea, en, ec, w4, hr4, e4, t4, n4⟩ := run_app8 e e3 (by rw [z3]; exact Nat.le_trans h.b3 zz) (by have := h.trl.len; omega)
  have k4 := (t4.block tb (heap_lt k3) h.n1).trans k3
  have hne4 : ∀ b, (Value.slice ea en ec).ownBlock = some b → edv.ownBlock = some b ∨ w2.heap.size ≤ b := fun b eb => (n4 b eb).imp id (fun q => by rw [z3] at q; exact q)
  have hoth4 : ∀ b, b ≠ tb → (w4.setCell ⟨tb, 0, none⟩ (.slice ea en ec)).heap[b]? = w4.heap[b]? := fun b hb => heap_setCell_other _ _ _ _ hb
  have hen : (Value.slice ea en ec).ownBlock ≠ some tb := fun eb => by
    rcases hne4 tb eb with q | q
    · exact h.n1 q
    · have := heap_lt k2; omega
  have hem : (Value.slice ea en ec).ownBlock ≠ some mm := fun eb => by
    rcases hne4 mm eb with q | q
    · exact h.n2 q
    · have := m2.lt; omega
  have hse : ∀ b, (Value.slice sa sn sc).ownBlock = some b → edv.ownBlock ≠ some b := fun b eb ee => by
    rcases hne b eb with q | q
    · exact h.n5 b ee q
    · have := (h.er.lt b ee).2; omega
  have m3 : MapFI (w2.setCell ⟨tb, 1, none⟩ (.slice sa sn sc)) mm (putK f v (some s.1.length)) (s.1.length + 1) := m2.kept (hoth mm (fun q => h.n6 q.symm))
  have htg : tgo s e v = (s.1 ++ [v], s.2 ++ [e]) := by unfold tgo; rw [hp]
  have hT : Turned (fun b => b = tb ∨ b = mm ∨ edv.ownBlock = some b ∨ stv.ownBlock = some b) w (w4.setCell ⟨tb, 0, none⟩ (.slice ea en ec)) :=
    (((t1.mono (fun b _ q => .inr (.inl q))).then_ t2 (fun b _ q => .inr (.inr (.inr q)))).trans (turned_setCell _ _ _ (.inl rfl))).trans ((t4.mono (fun b _ q => .inr (.inr (.inl q)))).trans (turned_setCell _ _ _ (.inl rfl)))
  refine ⟨w1, sa, sn, sc, w2, ea, en, ec, w4, hr1, (cellsT8 k1).2.1, hr2, ⟨(cellsT8 k2).2.1, (cellsT8 k2).2.2.2⟩, (cellsT8 k3).1, hr4, ⟨(cellsT8 k4).1, (cellsT8 k4).2.2.2⟩, .slice ea en ec, .slice sa sn sc, ?_, hT, fun b eb => (hne4 b eb).imp id (fun q => Nat.le_trans zz q), hne⟩
  rw [htg]
  refine ⟨?_, ?_, ?_, ⟨_, ?_, f2.put hfv⟩, by have := h.trl.go e v; rw [htg] at this; exact this, ?_, hen, hem, hns, hnm, fun b eb es => ?_, h.n6, h.b1, h.b2, Nat.le_trans h.b3 hT.size⟩
  · rw [heap_setCell_same _ _ _ _ _ _ k4]; rfl
  · exact brow_kept e4 (fun b eb => hoth4 b (fun q => hen (by rw [← q]; exact eb)))
  · exact brow_kept s3 (fun b eb => (hoth4 b (fun q => hns (by rw [← q]; exact eb))).trans (t4.block b (s3.lt b eb).2 (hse b eb)))
  · have e5 : (s.1 ++ [v]).length = s.1.length + 1 := by simp
    rw [e5]
    exact m3.kept ((hoth4 mm (fun q => h.n6 q.symm)).trans (t4.block mm m3.lt h.n2))
  · intro k hk
    rcases List.mem_append.1 hk with q | q
    · exact h.ok k q
    · rw [List.mem_singleton.1 q]; exact hv
  · rcases hne4 b eb with q | q
    · exact hse b es q
    · have := (s2.lt b es).2; omega

set_option maxHeartbeats 2000000 in
set_option maxRecDepth 100000 in
theorem goOnS {B tb mm : Nat} {edv stv : Value} {s : List Int × List Int} {w : World} (e v : Int) (h : TM B tb mm edv stv s w) (hv : okN v) (hl : s.1.length ≤ 1000000) :
    Calls Tryz.prog 36 #[.pointer (some ⟨tb, 0, none⟩), .int .i64 e, .int .i64 v] w fun r w' => r = .returned (.tuple #[]) ∧ Hid (GoAns B tb mm edv stv (tgo s e v) w w') := by
  obtain ⟨f, f1, f2⟩ := h.map
  have hlk := f1.look2 v hv
  rw [f2.plc v] at hlk
  obtain ⟨c0, c1, c2, cf⟩ := cellsT8 h.box
  cases hp : plc s.1 v with
  | some p =>
    have CB : Hid (Calls Tryz.prog 69 #[.pointer (some ⟨tb, 0, none⟩), .int .i64 p] w fun r w' => r = .returned (.tuple #[]) ∧ Hid (GoAns B tb mm edv stv (tgo s e v) w w')) := by
      refine (backToS p h (List.getElem?_eq_some_iff.1 (plc_some hp)).1 hl).mono ?_
      rintro r w' ⟨rfl, hh⟩
      obtain ⟨edv', stv', q1, q2, q3, q4⟩ := unhide hh
      refine ⟨rfl, edv', stv', ?_, q4.mono (fun b _ q => q.imp id .inl), fun b eb => .inl (by rw [← q1]; exact eb), fun b eb => .inl (by rw [← q2]; exact eb)⟩
      rw [show tgo s e v = (s.1.take (p + 1), s.2.take p) by unfold tgo; rw [hp]]
      exact q3
    rw [hp] at hlk
    clear h hv hl f1 f2 hp
    go_enter Tryz.func36, Tryz.ntmps36
    go_wp2_with fail
    refine (unhide CB).mono ?_
    rintro r w' ⟨rfl, hh⟩
    go_wp2_with fail
    refine bodyPost_ret (results_none rfl _ _ _) rfl ?_
    exact ⟨rfl, hh⟩
  | none =>
    obtain ⟨w1, sa, sn, sc, w2, ea, en, ec, w4, r1, k1, r2, ⟨k2, kf2⟩, k3, r4, ⟨k4, kf4⟩, hG⟩ := h.more e v hv hp hl
    obtain ⟨ssa, ssc, hsv, -⟩ := brow_shape h.sr
    rw [hp] at hlk
    have HR2 := hide r2
    have HR4 := hide r4
    have HG := hide hG
    obtain ⟨n, hn⟩ : ∃ n, n = s.1.length := ⟨_, rfl⟩
    rw [← hn] at hsv r1
    subst hsv
    clear h hv hl f1 f2 hp r2 r4 hG hn
    go_enter Tryz.func36, Tryz.ntmps36
    go_upto_region 3 with fail
    clear hlk
    go_region
    clear r1 c0 c1 c2 cf
    go_upto_region 5 with (at_builtin; refine Lib.wpList_append_run _ rfl _ _ 23 23 rfl _ _ rfl rfl _ _ (unhide HR2 _) ?_)
    clear HR2 k1 k2 kf2
    generalize w2.setCell ⟨tb, 1, none⟩ (.slice sa sn sc) = w3 at *
    go_wp2_with (at_builtin; refine Lib.wpList_append_run _ rfl _ _ 23 23 rfl _ _ rfl rfl _ _ (unhide HR4 _) ?_)
    go_end0
    exact ⟨rfl, HG⟩
end

section
open Go.RowKit Go.Maps
/-- A new trail. -/
def NewT (a : Int) (tb : Nat) (w w' : World) : Prop := ∃ mm edv stv, TM w.heap.size tb mm edv stv ([a], []) w' ∧ Below w.heap.size w w' ∧ tb < w'.heap.size
set_option maxHeartbeats 2000000 in
set_option maxRecDepth 100000 in
theorem newTrailS (a : Int) (ha : okN a) (w : World) : Calls Tryz.prog 34 #[.int .i64 a] w fun r w' => ∃ tb, r = .returned (.pointer (some ⟨tb, 0, none⟩)) ∧ Hid (NewT a tb w w') := by
  have hb1 := below_new w (.cells #[.int .i64 a] 3)
  have hs1 : (w.alloc (.cells #[.int .i64 a] 3)).heap.size = w.heap.size + 1 := by simp
  have hb2 := below_new (w.alloc (.cells #[.int .i64 a] 3)) (.map #[] 0)
  have hm := mapFI_made (w.alloc (.cells #[.int .i64 a] 3))
  obtain ⟨w3, hr, g1, g2⟩ := hm.put_ (by unfold maxLen; omega) a ha rfl 0
  have hs2 : ((w.alloc (.cells #[.int .i64 a] 3)).alloc (.map #[] 0)).heap.size = w.heap.size + 2 := by simp
  rw [hs1] at hr g1 g2
  have t3 : Turned (fun b => b = w.heap.size + 1) ((w.alloc (.cells #[.int .i64 a] 3)).alloc (.map #[] 0)) w3 := turned_map g2 rfl
  have q1 : w3.heap[w.heap.size]? = some (.cells #[.int .i64 a] 3) := (t3.block w.heap.size (by omega) (by omega)).trans ((heap_alloc_old _ _ (by omega)).trans (heap_alloc_new _ _))
  have hb3 : Below w.heap.size w w3 := (hb1.trans (hb2.mono (by omega))).trans (t3.below (by omega) (fun k e => by omega))
  have hz := t3.size
  have HN : Hid (NewT a w3.heap.size w (w3.alloc (oT8 (.slice none 0 0) (.slice (some ⟨w.heap.size, 0, none⟩) 1 1) (w.heap.size + 1)))) := by
    have hb4 := below_new w3 (oT8 (.slice none 0 0) (.slice (some ⟨w.heap.size, 0, none⟩) 1 1) (w.heap.size + 1))
    refine ⟨w.heap.size + 1, .slice none 0 0, .slice (some ⟨w.heap.size, 0, none⟩) 1 1, ⟨heap_alloc_new _ _, ⟨rfl, .inl ⟨rfl, rfl⟩⟩, ⟨rfl, .inr ⟨w.heap.size, 1, #[.int .i64 a], rfl, Nat.le_refl _, (hb4.block _ (by omega)).trans q1, Nat.le_refl _, by unfold maxLen; omega, rfl, rfl⟩⟩, ⟨_, g1.kept (hb4.block _ (by omega)), ?_⟩, ⟨by simp, rfl⟩, fun k hk => by rw [List.mem_singleton.1 hk]; exact ha, fun e => (by cases e), fun e => (by cases e), fun e => ?_, fun e => ?_, fun b e => (by cases e), by omega, by omega, by omega, by have := hb4.size; omega⟩, hb3.trans (hb4.mono (by omega)), by simp⟩
    · have h0 : MapTo (fun _ => none) [] := fun k i => by simp
      exact h0.put rfl
    · have := own_eq e; omega
    · have := own_eq e; omega
  clear hb1 hb2 hm g1 g2 t3 q1 hb3 hz ha
  rw [show ((0 : Nat) : Int) = 0 from rfl] at hr
  have hmm := @run_makeMap Tryz.prog
  go_enter Tryz.func34, Tryz.ntmps34
  go_wp2_with fail
  go_ret
  exact ⟨_, rfl, HN⟩
def oP8 (tb : Nat) : Obj := .cells #[.pointer (some ⟨tb, 0, none⟩)] 78 (0, 0)
theorem cellP8 {w : World} {b tb : Nat} (h : w.heap[b]? = some (oP8 tb)) : w.cell? ⟨b, 0, none⟩ = some (.pointer (some ⟨tb, 0, none⟩)) ∧ ∀ o, w.frozen? ⟨b, o, none⟩ = false := ⟨(cell_of_row _ _ 0 _ _ (0, 0) h).trans rfl, fun o => frozen_of_row _ _ o _ _ h⟩
/-- Simple's picture: the trail, and the box bl that leads to it. -/
def SP (B bl tb mm : Nat) (a : Int) (d : List EdgeV) (A : Nat → Prop) (w : World) : Prop :=
  ∃ edv stv, (∀ b, A b ↔ b = bl ∨ b = tb ∨ b = mm ∨ edv.ownBlock = some b ∨ stv.ownBlock = some b) ∧ w.heap[bl]? = some (oP8 tb) ∧ TM B tb mm edv stv (trail8 a d) w ∧ bl ≠ tb ∧ bl ≠ mm ∧ edv.ownBlock ≠ some bl ∧ stv.ownBlock ≠ some bl ∧ B ≤ bl

set_option maxHeartbeats 2000000 in
set_option maxRecDepth 100000 in
theorem simple1 {B bl tb mm : Nat} {a : Int} {d : List EdgeV} {A : Nat → Prop} {w : World} (x : EdgeV) (h : SP B bl tb mm a d A w) (hx : okN x.2.2.1) (hd : d.length ≤ 900000) :
    Calls Tryz.prog 35 #[.int .i64 x.1, .agg #[.int .i64 x.1, .int .i64 x.2.1, .int .i64 x.2.2.1, .int .u32 x.2.2.2], .pointer (some ⟨bl, 0, none⟩)] w fun r w' => r = .returned (.tuple #[]) ∧ Hid (∃ A', SP B bl tb mm a (d ++ [x]) A' w' ∧ Turned A w w' ∧ ∀ b, A' b → A b ∨ w.heap.size ≤ b) := by
  obtain ⟨edv, stv, h1, h2, h3, h4, h5, h6, h7, h8⟩ := h
  have hb := below_new w (oE x)
  obtain ⟨x0, x1, x2, x3, -⟩ := box_cells (heap_alloc_new w (oE x))
  obtain ⟨k1, -⟩ := cellP8 ((hb.block bl (heap_lt h2)).trans h2)
  have hlt := trail_len a d
  have hlt2 := (trail_trl a d).len
  have CG : Hid (Calls Tryz.prog 36 #[.pointer (some ⟨tb, 0, none⟩), .int .i64 x.1, .int .i64 x.2.2.1] (w.alloc (oE x)) fun r w' => r = .returned (.tuple #[]) ∧ Hid (∃ A', SP B bl tb mm a (d ++ [x]) A' w' ∧ Turned A w w' ∧ ∀ b, A' b → A b ∨ w.heap.size ≤ b)) := by
    refine (goOnS x.1 x.2.2.1 (h3.kept (fun b hb' => hb.block b (h3.lt hb')) hb.size) hx (by omega)).mono ?_
    rintro r w' ⟨rfl, hh⟩
    obtain ⟨edv', stv', q1, q2, q3, q4⟩ := unhide hh
    have hlb : bl < (w.alloc (oE x)).heap.size := by have := heap_lt h2; have := hb.size; omega
    have z : w.heap.size ≤ (w.alloc (oE x)).heap.size := hb.size
    refine ⟨rfl, fun b => b = bl ∨ b = tb ∨ b = mm ∨ edv'.ownBlock = some b ∨ stv'.ownBlock = some b, ⟨edv', stv', fun b => Iff.rfl, (q2.block bl hlb ?_).trans ((hb.block bl (heap_lt h2)).trans h2), ?_, h4, h5, fun e => ?_, fun e => ?_, h8⟩, (turned_of_below hb).then_ q2 (fun b _ q => (h1 b).2 (.inr q)), fun b hb' => ?_⟩
    · rintro (e | e | e | e)
      · exact h4 e
      · exact h5 e
      · exact h6 e
      · exact h7 e
    · rw [trail_snoc]; exact q1
    · rcases q3 bl e with q | q
      · exact h6 q
      · omega
    · rcases q4 bl e with q | q
      · exact h7 q
      · omega
    · rcases hb' with e | e | e | e | e
      · exact .inl ((h1 b).2 (.inl e))
      · exact .inl ((h1 b).2 (.inr (.inl e)))
      · exact .inl ((h1 b).2 (.inr (.inr (.inl e))))
      · rcases q3 b e with q | q
        · exact .inl ((h1 b).2 (.inr (.inr (.inr (.inl q)))))
        · exact .inr (Nat.le_trans z q)
      · rcases q4 b e with q | q
        · exact .inl ((h1 b).2 (.inr (.inr (.inr (.inr q)))))
        · exact .inr (Nat.le_trans z q)
  clear h1 h2 h3 h4 h5 h6 h7 h8 hb hlt hlt2 hx hd
  go_enter Tryz.func35, Tryz.ntmps35
  go_upto_region 1 with fail
  change Code.wp _ _ _ _ (w.alloc (oE x))
  generalize w.alloc (oE x) = w1 at *
  go_wp2_with fail
  refine (unhide CG).mono ?_
  rintro r w2 ⟨rfl, hh⟩
  go_wp2_with fail
  go_end0
  exact ⟨rfl, hh⟩
theorem simple_fn (B bl tb mm : Nat) (a : Int) : StepFn (.func (.func 35) #[] #[.pointer (some ⟨bl, 0, none⟩)]) 100000 (fun x => okN x.2.2.1) (SP B bl tb mm a) := by
  refine ⟨⟨_, _, rfl, enters_of Tryz.func35 (by kernel_rfl) rfl, fun d x A w hd hx hP => simple1 x hP hx (by omega)⟩, fun d A w w' hP hk hs => ?_, fun d A w b hP hb => ?_⟩
  · obtain ⟨edv, stv, h1, h2, h3, h4⟩ := hP
    exact ⟨edv, stv, h1, (hk bl ((h1 bl).2 (.inl rfl))).trans h2, h3.kept (fun b hb => hk b ((h1 b).2 (.inr hb))) hs, h4⟩
  · obtain ⟨edv, stv, h1, h2, h3, h4⟩ := hP
    rcases (h1 b).1 hb with rfl | e
    · exact heap_lt h2
    · exact h3.lt e
/-- What Simple answers: the list lies in new memory. -/
def SAns [Inhabited EntI] (w : World) (X : Sto) (a : Int) (t : List EdgeV × Option Int) (e : Ending) (w' : World) : Prop :=
  ∃ (sa : Option Addr) (sn sc : Nat), e = .returned (.tuple #[.slice sa sn sc, .int .i64 (tPlace t), .int .i64 (tCode t)]) ∧ Rd w X (tReads t) w' ∧ BRow w.heap.size w' (.slice sa sn sc) (if t.2 = none then (trail8 a t.1).2 else [])

set_option maxHeartbeats 2000000 in
set_option maxRecDepth 100000 in
theorem simpleS [Inhabited EntI] {w : World} {X : Sto} (from_ : Int) (hf : okN from_) {ev : Value} {es : List Int} (h : StAt w X) (hr : SRow w ev es) (hl : es.length ≤ 100000) (hx0 : 0 ≤ X.rd) (hx1 : X.rd ≤ 100000000)
    (hb : ∀ b, blkOf ev = some b → b < w.heap.size ∧ X.L b = none) :
    Calls Tryz.prog 14 #[.iface 24 (.pointer (some ⟨X.s, 0, none⟩)), .int .i64 from_, ev] w fun e w' => Hid (SAns w X from_ (trip X.ps from_ es) e w') := by
  have CN := hide (newTrailS from_ hf w)
  have hQ : ∀ (i : Nat) (x : EdgeV), X.ps[i]? = some (x, true) → okN x.2.2.1 := fun i x hx => by
    obtain ⟨-, -, h3⟩ := h.edge i x hx
    cases e : X.f x.2.2.1 with
    | none => exact absurd e h3
    | some q => exact h.ok e
  obtain ⟨ea, ec, rfl, hcell⟩ := hr
  have CA : Hid (∀ tb w1, NewT from_ tb w w1 → Calls Tryz.prog 28 #[.iface 24 (.pointer (some ⟨X.s, 0, none⟩)), .int .i64 from_, .slice ea es.length ec, .func (.func 35) #[] #[.pointer (some ⟨w1.heap.size, 0, none⟩)]] (w1.alloc (oP8 tb)) fun e w' => e = .returned (.tuple #[.int .i64 (tPlace (trip X.ps from_ es)), .int .i64 (tCode (trip X.ps from_ es))]) ∧ ∃ sa sn sc, w'.cell? ⟨w1.heap.size, 0, none⟩ = some (.pointer (some ⟨tb, 0, none⟩)) ∧ w'.cell? ⟨tb, 0, none⟩ = some (.slice sa sn sc) ∧ Hid (Rd w X (tReads (trip X.ps from_ es)) w' ∧ BRow w.heap.size w' (.slice sa sn sc) (trail8 from_ (trip X.ps from_ es).1).2)) := by
    rintro tb w1 ⟨mm, edv, stv, hT, hb1, htl⟩
    have hb2 := below_new w1 (oP8 tb)
    have hbb : Below w.heap.size w (w1.alloc (oP8 tb)) := hb1.trans (hb2.mono hb1.size)
    have hmem : ∀ b, b = tb ∨ b = mm ∨ edv.ownBlock = some b ∨ stv.ownBlock = some b → w.heap.size ≤ b ∧ b < w1.heap.size := fun b hb' => ⟨by
      rcases hb' with rfl | rfl | e | e
      · exact hT.b1
      · exact hT.b2
      · exact (hT.er.lt b e).1
      · exact (hT.sr.lt b e).1, hT.lt hb'⟩
    have hz1 := hb1.size
    have hAll : ∀ b, (b = w1.heap.size ∨ b = tb ∨ b = mm ∨ edv.ownBlock = some b ∨ stv.ownBlock = some b) → w.heap.size ≤ b := fun b hb' => by
      rcases hb' with e | e
      · omega
      · exact (hmem b e).1
    refine (alongS (simple_fn w.heap.size w1.heap.size tb mm from_) from_ (A := fun b => b = w1.heap.size ∨ b = tb ∨ b = mm ∨ edv.ownBlock = some b ∨ stv.ownBlock = some b) (h.below hbb) (SRow.below ⟨ea, ec, rfl, hcell⟩ hbb) hl (Nat.le_refl _) hx0 hx1 hQ ?_ (fun b hb' => h.mem.new (hAll b hb')) (fun b hb' _ => ⟨(hb b hb').2, fun ho => by have := (hb b hb').1; have := hAll b ho; omega⟩)).mono ?_
    · refine ⟨edv, stv, fun b => Iff.rfl, heap_alloc_new _ _, hT.kept (fun b hb' => hb2.block b (hmem b hb').2) hb2.size, ?_, ?_, ?_, ?_, hz1⟩
      · intro e; have := (hmem tb (.inl rfl)).2; omega
      · intro e; have := (hmem mm (.inr (.inl rfl))).2; omega
      · intro e; have := (hmem _ (.inr (.inr (.inl e)))).2; omega
      · intro e; have := (hmem _ (.inr (.inr (.inr e)))).2; omega
    · rintro e w' ⟨rfl, hh⟩
      obtain ⟨A', hM⟩ := unhide hh
      obtain ⟨edv', stv', p1, p2, p3, -⟩ := hM.pic
      obtain ⟨a', c', e', -⟩ := brow_shape p3.er
      subst e'
      exact ⟨rfl, _, _, _, (cellP8 p2).1, (cellsT8 p3.box).1, hM.out hbb hAll, p3.er⟩
  generalize hsx : X.s = s at *
  obtain ⟨t, ht⟩ : ∃ t, t = trip X.ps from_ es := ⟨_, rfl⟩
  rw [← ht]
  rw [← ht] at CA
  have HT : Hid (t.2 ≠ none → tCode t ≠ 0) := fun hn => by
    rw [ht] at hn ⊢
    rcases tCode_ne hn with e | e <;> (unfold tCode; rw [e]; decide)
  clear h hcell hl hx0 hx1 hQ hb hsx ht hf
  generalize es.length = len at *
  by_cases hn : t.2 = none
  · have e1 : tCode t = 0 := by unfold tCode; rw [hn]; rfl
    have e3 : tPlace t = 0 := if_pos hn
    rw [e1] at CA
    have HE : Hid (tCode t = 0 ∧ tPlace t = 0 ∧ t.2 = none) := ⟨e1, e3, hn⟩
    clear HT e1 hn e3
    go_enter Tryz.func14, Tryz.ntmps14
    go_wp2_with fail
    refine (unhide CN).mono ?_
    rintro e w1 ⟨tb, rfl, h1⟩
    have CA2 := hide (unhide CA tb w1 (unhide h1))
    clear CA CN h1
    go_upto_region 2 with fail
    change Code.wp _ _ _ _ (w1.alloc (oP8 tb))
    generalize w1.alloc (oP8 tb) = w2 at *
    go_wp2_with fail
    refine (unhide CA2).mono ?_
    rintro e w3 ⟨rfl, sa, sn, sc, k1, k2, hR⟩
    clear CA2
    go_wp2_with fail
    go_ret3
    obtain ⟨q1, q2, q3⟩ := unhide HE
    exact ⟨sa, sn, sc, by rw [q1, q2]; rfl, (unhide hR).1, by rw [if_pos q3]; exact (unhide hR).2⟩
  · have e1 := unhide HT hn
    have e4 : (tCode t == 0) = false := by simp [e1]
    have HN := hide hn
    clear HT hn e1
    go_enter Tryz.func14, Tryz.ntmps14
    go_wp2_with fail
    refine (unhide CN).mono ?_
    rintro e w1 ⟨tb, rfl, h1⟩
    have CA2 := hide (unhide CA tb w1 (unhide h1))
    clear CA CN h1
    go_upto_region 2 with fail
    change Code.wp _ _ _ _ (w1.alloc (oP8 tb))
    generalize w1.alloc (oP8 tb) = w2 at *
    go_wp2_with fail
    refine (unhide CA2).mono ?_
    rintro e w3 ⟨rfl, sa, sn, sc, k1, k2, hR⟩
    clear CA2
    go_wp2_with fail
    go_ret3
    exact ⟨none, 0, 0, rfl, (unhide hR).1, by rw [if_neg (unhide HN)]; exact ⟨rfl, .inl ⟨rfl, rfl⟩⟩⟩
end

section
open Go.RowKit Go.Maps
theorem snocInd {α : Type} {P : List α → Prop} (nil : P []) (snoc : ∀ (l : List α) (a : α), P l → P (l ++ [a])) (l : List α) : P l := by
  have : ∀ (n : Nat) (l : List α), l.length = n → P l := by
    intro n
    induction n with
    | zero => intro l h; rw [List.length_eq_zero_iff.1 h]; exact nil
    | succ n ih =>
      intro l h
      have hne : l ≠ [] := by intro e; rw [e] at h; cases h
      rw [← List.dropLast_concat_getLast hne]
      exact snoc _ _ (ih _ (by rw [List.length_dropLast]; omega))
  exact this _ l rfl
/-- Each record bears the number that it is asked by. -/
def Named8 (ps : List (EdgeV × Bool)) : Prop := ∀ (i : Nat) (x : EdgeV), ps[i]? = some (x, true) → x.1 = (i : Int) + 1
theorem Named8.lk {ps : List (EdgeV × Bool)} (h : Named8 ps) {e : Int} {x : EdgeV} (hk : Go.Proofs.YtgocbcacfcfblaaGreat.lk ps e = some x) : x.1 = e := by
  obtain ⟨i, rfl, hi⟩ := lk_some hk
  exact h i x hi
theorem Way.nums {ps : List (EdgeV × Bool)} (hN : Named8 ps) : ∀ {es : List Int} {a : Int} {d : List EdgeV}, Way ps a es d → es = d.map (·.1)
  | [], a, d, h => by have h' : d = [] := h; rw [h']; rfl
  | e :: es, a, d, h => by
    obtain ⟨x, d', rfl, h2, h3, h4⟩ := h
    rw [List.map_cons, ← Way.nums hN h4, hN.lk h2]
theorem Way.all_lk {ps : List (EdgeV × Bool)} : ∀ {es : List Int} {a : Int} {d : List EdgeV}, Way ps a es d → ∀ x ∈ d, ∃ e, lk ps e = some x
  | [], a, d, h => by have h' : d = [] := h; rw [h']; intro x hx; cases hx
  | e :: es, a, d, h => by
    obtain ⟨x, d', rfl, h2, h3, h4⟩ := h
    intro y hy
    rcases List.mem_cons.1 hy with e' | e'
    · exact ⟨e, by rw [e']; exact h2⟩
    · exact Way.all_lk h4 y e'
theorem stops_at8 (a : Int) (d1 d2 : List EdgeV) (m : Nat) (h : d1.length = m) : (stopsOf a (d1 ++ d2))[m]? = some (endOf a d1) := by
  subst h
  induction d1 generalizing a with
  | nil => rfl
  | cons x d1 ih =>
    have := ih x.2.2.1
    simpa [stopsOf, endOf] using this
theorem way_lk {ps : List (EdgeV × Bool)} : ∀ {es : List Int} {a e : Int} {d : List EdgeV} {k : Nat}, Way ps a es d → es[k]? = some e → ∃ x, lk ps e = some x
  | [], a, e, d, k, _, hk => by cases hk
  | e' :: es, a, e, d, k, h, hk => by
    obtain ⟨x, d', rfl, h2, h3, h4⟩ := h
    match k, hk with
    | 0, hk => exact ⟨x, by rw [← show e' = e by simpa using hk]; exact h2⟩
    | k + 1, hk => exact way_lk h4 (k := k) (by simpa using hk)
theorem stops_take (a : Int) : ∀ (d : List EdgeV) (p : Nat), (stopsOf a d).take (p + 1) = stopsOf a (d.take p)
  | [], p => by simp [stopsOf]
  | x :: d, 0 => by simp [stopsOf]
  | x :: d, p + 1 => by
    have := stops_take a d p
    simp [stopsOf] at this ⊢
theorem stops_end (a : Int) (d : List EdgeV) : (stopsOf a d)[d.length]? = some (endOf a d) := by
  have := stops_at8 a d [] d.length rfl
  rwa [List.append_nil] at this
/-- Without loops: which records are left. -/
theorem simple_way {ps : List (EdgeV × Bool)} (hN : Named8 ps) (a : Int) : ∀ {es : List Int} {d : List EdgeV}, Way ps a es d → ∃ d', Way ps a (trail8 a d).2 d' ∧ stopsOf a d' = (trail8 a d).1 ∧ endOf a d' = endOf a d ∧ d'.Sublist d := by
  intro es
  induction es using snocInd with
  | nil =>
    intro d h
    have h' : d = [] := h
    subst h'
    exact ⟨[], rfl, rfl, rfl, List.Sublist.refl _⟩
  | snoc es e ih =>
    intro d h
    obtain ⟨d1, d2, rfl, h1, h2⟩ := Way.split h
    obtain ⟨x, d3, rfl, h3, h4, h5⟩ := h2
    have h5' : d3 = [] := h5
    subst h5'
    obtain ⟨d', q1, q2, q3, q4⟩ := ih h1
    rw [trail_snoc]
    unfold tgo
    have hlen : d'.length = (trail8 a d1).2.length := q1.len
    cases hp : plc (trail8 a d1).1 x.2.2.1 with
    | none =>
      refine ⟨d' ++ [x], q1.snoc (by rw [hN.lk h3]; exact h3) (by rw [q3]; exact h4), ?_, ?_, q4.append (List.Sublist.refl _)⟩
      · rw [stopsOf_snoc, q2]
      · rw [endOf_snoc, endOf_snoc]
    | some p =>
      have hst := plc_some hp
      rw [← q2] at hst
      have hpl : p < d'.length + 1 := by have := (List.getElem?_eq_some_iff.1 hst).1; rw [stopsOf_len] at this; exact this
      have hw : Way ps a ((trail8 a d1).2.take p) (d'.take p) := by
        have q1' := q1
        rw [← List.take_append_drop p (trail8 a d1).2] at q1'
        obtain ⟨e1, e2, e3, e4, e5⟩ := Way.split q1'
        have e6 : e1.length = p := by rw [e4.len, List.length_take]; omega
        have e7 : d'.take p = e1 := by rw [e3, List.take_append_of_le_length (by omega), List.take_of_length_le (by omega)]
        rw [e7]; exact e4
      refine ⟨d'.take p, hw, ?_, ?_, ((List.take_sublist _ _).trans q4).trans (List.sublist_append_left _ _)⟩
      · show stopsOf a (d'.take p) = (trail8 a d1).1.take (p + 1)
        rw [← q2, stops_take]
      · rw [endOf_snoc]
        have h6 := stops_end a (d'.take p)
        rw [← stops_take, List.length_take, Nat.min_eq_left (by omega), List.getElem?_take, if_pos (by omega), hst] at h6
        injection h6 with h6
        exact h6.symm
/-- A walk that comes to no vertex twice is left as it is. -/
theorem trail_nodup (a : Int) : ∀ (d : List EdgeV), (stopsOf a d).Nodup → trail8 a d = (stopsOf a d, d.map (·.1)) := by
  intro d
  induction d using snocInd with
  | nil => intro _; rfl
  | snoc d x ih =>
    intro h
    rw [stopsOf_snoc] at h
    rw [List.nodup_append] at h
    obtain ⟨h1, -, h2⟩ := h
    rw [trail_snoc, ih h1]
    unfold tgo
    have hp : plc (stopsOf a d) x.2.2.1 = none := by
      cases hp : plc (stopsOf a d) x.2.2.1 with
      | none => rfl
      | some p => exact absurd rfl (h2 _ (List.mem_of_getElem? (plc_some hp)) _ (by simp))
    simp only [hp]
    rw [stopsOf_snoc, List.map_append]; rfl
/-- Fewer weights fold to no more. -/
theorem foldl_sub : ∀ {l l' : List Nat}, l.Sublist l' → ∀ {c c' : Nat}, c ≤ c' → c' ≤ 2139095040 → l.foldl (fun c x => M.addC c (M.counts x)) c ≤ l'.foldl (fun c x => M.addC c (M.counts x)) c' := by
  intro l l' h
  induction h with
  | slnil => intro c c' h1 _; exact h1
  | cons x _ ih => intro c c' h1 h2; exact ih (Nat.le_trans h1 (M.addC_ge h2 (M.counts_le x))) (M.addC_le h2 (M.counts_le x))
  | cons_cons x _ ih => intro c c' h1 h2; exact ih (M.addC_mono (Nat.le_trans h1 h2) h2 (M.counts_le x) h1) (M.addC_le h2 (M.counts_le x))
theorem cost_sub {d d' : List EdgeV} (h : d'.Sublist d) : costOf d' ≤ costOf d := foldl_sub (h.map _) (Nat.le_refl _) (by omega)
/-- What is left of l is a part of what is left of es. -/
theorem greedy_hit {l es : List Int} {x : Int} (h : (x :: l).Sublist (x :: es)) : l.Sublist es := by
  cases h with
  | cons _ h => exact (List.sublist_cons_self x l).trans h
  | cons_cons _ h => exact h
theorem greedy_miss {l es : List Int} {x y : Int} (h : (y :: l).Sublist (x :: es)) (hne : ¬ y = x) : (y :: l).Sublist es := by
  cases h with
  | cons _ h => exact h
  | cons_cons _ h => exact absurd rfl hne
end

section
open Go.RowKit Go.Maps
section
variable [Inhabited EntI] {w W W' : World} {s n : Nat} {ps : List (EdgeV × Bool)} {vv ev : Value} {rd wr : Int} {vs : List Int} {es : List EdgeV} {rows : List (Value × List Int)}

theorem kwSimple (h : KW w s ps vv ev rd wr n vs es rows W) (from_ : Int) (hf0 : okN from_) {v : Value} {ks : List Int} (hv : SRow W v ks) (hvb : Part8 rows v) (hl : ks.length ≤ 60) (hn : n + 61 ≤ 1000) :
    Calls Tryz.prog 14 #[.iface 24 (.pointer (some ⟨s, 0, none⟩)), .int .i64 from_, v] W fun e w' => ∃ sa sn sc, e = .returned (.tuple #[.slice sa sn sc, .int .i64 (tPlace (trip ps from_ ks)), .int .i64 (tCode (trip ps from_ ks))]) ∧ Hid (KW w s ps vv ev (rd + (tReads (trip ps from_ ks) : Int)) wr (n + 61) vs es ((.slice sa sn sc, if (trip ps from_ ks).2 = none then (trail8 from_ (trip ps from_ ks).1).2 else []) :: rows) w' ∧ BRow W.heap.size w' (.slice sa sn sc) (if (trip ps from_ ks).2 = none then (trail8 from_ (trip ps from_ ks).1).2 else [])) := by
  obtain ⟨X, g, h1, rfl, h3, h4, h5, h6, h7, h8⟩ := h
  have hps : X.ps = ps := h1.sh.ps.trans h5
  have hb0 := h1.bnd.rd0
  have hb1 := h1.bnd.rd1
  have hf := h1.few
  have := simpleS (X := X) from_ hf0 h1.st hv (by omega) (by rw [h1.sh.rd]; exact hb0) (by rw [h1.sh.rd]; omega) (fun b hb => by
    obtain ⟨r, hr, e⟩ := hvb b hb
    exact ⟨((h8 r hr).1.lt b e).2, (h8 r hr).2 b e⟩)
  rw [hps] at this
  refine this.mono ?_
  rintro e w' hh
  obtain ⟨sa, sn, sc, rfl, hR, hB⟩ := unhide hh
  have hk := tReads_le ps ks from_
  refine ⟨sa, sn, sc, rfl, ⟨_, _, (h1.read hR (by omega)).up8 (by omega) hn, rfl, h3, h4.trans (hR.2.2.1.below h4.size (fun b hb => h3 b hb)), h5, ?_, h7, fun r hr => ?_⟩, hB⟩
  · show g.rd + _ = rd + _
    rw [h6]
  · rcases List.mem_cons.1 hr with e | e
    · subst e; exact ⟨brow_at0 hB, fun b hb' => h1.st.mem.new (hB.lt b hb').1⟩
    · exact ⟨nrow_kept (h8 r e).1 (fun b e' => (hR.2.2.old ((h8 r e).1.lt b e').2 ((h8 r e).2 b e')).1), (h8 r e).2⟩
theorem KW.named (h : KW w s ps vv ev rd wr n vs es rows W) : Named8 ps := by
  obtain ⟨X, g, h1, h2, h3, h4, h5, h6, h7, h8⟩ := h
  intro i x hx
  exact (h1.st.edge i x (by rw [h1.sh.ps, h5]; exact hx)).1
theorem KW.same (h : KW w s ps vv ev rd wr n vs es rows W) {v1 v2 : Value} {a b : List Int} (h1 : (v1, a) ∈ rows) (h2 : (v2, b) ∈ rows) (hl : a.length ≤ 1000000) :
    Calls Tryz.prog 16 #[v1, v2] W fun e w' => e = .returned (.bool (decide (a = b))) ∧ Hid (KW w s ps vv ev rd wr n vs es rows w') := by
  refine (refSame (h.row h1) (h.row h2) hl).mono ?_
  rintro e w' ⟨rfl, hh⟩
  exact ⟨rfl, h.below ((unhide hh).below _)⟩
end
end

end Go.Proofs.YtgocbcacfcfblaaGreat
