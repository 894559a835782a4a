/- Maps of int to plain elements of one kind, as functions (out of MapG10). -/
import Derived.Test.YtbmcibofecigeaaLaws2
import Derived.LaidEql
import Derived.WalkSpells
import Derived.WalkLawsBesides
namespace Go.Proofs.Ytbmcibofecigeaa

section
/-- An order of one line. -/
structure Lin {K : Type} (lt : K → K → Bool) : Prop where
  irr : ∀ a, lt a a = false
  trans : ∀ a b c, lt a b = true → lt b c = true → lt a c = true
  tot : ∀ a b, a ≠ b → lt a b = true ∨ lt b a = true

def Rising {K : Type} (lt : K → K → Bool) (l : List K) : Prop := l.Pairwise (fun a b => lt a b = true)

section
variable {K : Type} {lt : K → K → Bool}

theorem Rising.nodup (hl : Lin lt) {l : List K} (h : Rising lt l) : l.Nodup := by
  refine List.Pairwise.imp (fun {a b} hab e => ?_) h
  subst e
  rw [hl.irr] at hab
  cases hab

/-- Two rising lists with the same things are one. -/
theorem rising_ext (hl : Lin lt) : ∀ {l l' : List K}, Rising lt l → Rising lt l' → (∀ k, k ∈ l ↔ k ∈ l') → l = l'
  | [], [], _, _, _ => rfl
  | [], b :: l', _, _, h => by have := (h b).2 (List.mem_cons_self ..); cases this
  | a :: l, [], _, _, h => by have := (h a).1 (List.mem_cons_self ..); cases this
  | a :: l, b :: l', h1, h2, h => by
    have p1 := List.pairwise_cons.1 h1
    have p2 := List.pairwise_cons.1 h2
    have hab : a = b := by
      rcases List.mem_cons.1 ((h a).1 (List.mem_cons_self ..)) with e | e
      · exact e
      · rcases List.mem_cons.1 ((h b).2 (List.mem_cons_self ..)) with e' | e'
        · exact e'.symm
        · have q1 := p2.1 a e
          have q2 := p1.1 b e'
          have := hl.trans _ _ _ q1 q2
          rw [hl.irr] at this
          cases this
    subst hab
    rw [rising_ext hl p1.2 p2.2 (fun k => ?_)]
    constructor
    · intro hk
      rcases List.mem_cons.1 ((h k).1 (List.mem_cons_of_mem _ hk)) with e | e
      · subst e
        have := p1.1 k hk
        rw [hl.irr] at this
        cases this
      · exact e
    · intro hk
      rcases List.mem_cons.1 ((h k).2 (List.mem_cons_of_mem _ hk)) with e | e
      · subst e
        have := p2.1 k hk
        rw [hl.irr] at this
        cases this
      · exact e

/-- How many are before x. -/
def cnt (lt : K → K → Bool) (l : List K) (x : K) : Nat := l.countP (fun y => lt y x)

theorem cnt_cons (a : K) (l : List K) (x : K) : cnt lt (a :: l) x = if lt a x then cnt lt l x + 1 else cnt lt l x := by
  unfold cnt; rw [List.countP_cons]; split <;> rfl

theorem cnt_le (l : List K) (x : K) : cnt lt l x ≤ l.length := List.countP_le_length

/-- In a rising list those before x stand first. -/
theorem cnt_parts (hl : Lin lt) : ∀ {l : List K} (x : K), Rising lt l → (∀ y ∈ l.take (cnt lt l x), lt y x = true) ∧ ∀ y ∈ l.drop (cnt lt l x), lt y x = false
  | [], x, _ => by simp [cnt]
  | a :: l, x, h => by
    have p := List.pairwise_cons.1 h
    have ih := cnt_parts hl x p.2
    rw [cnt_cons]
    by_cases e : lt a x = true
    · rw [if_pos e, List.take_succ_cons, List.drop_succ_cons]
      refine ⟨fun y hy => ?_, ih.2⟩
      rcases List.mem_cons.1 hy with rfl | hy
      · exact e
      · exact ih.1 y hy
    · have hno : ∀ y ∈ a :: l, lt y x = false := fun y hy => by
        cases hyx : lt y x with
        | false => rfl
        | true =>
          rcases List.mem_cons.1 hy with rfl | hy
          · exact absurd hyx e
          · exact absurd (hl.trans _ _ _ (p.1 y hy) hyx) e
      have hc : cnt lt l x = 0 := List.countP_eq_zero.2 (fun y hy => by rw [hno y (List.mem_cons_of_mem _ hy)]; simp)
      rw [if_neg e, hc]
      exact ⟨fun y hy => by simp at hy, fun y hy => hno y (by simpa using hy)⟩

/-- x stands where those before it end. -/
theorem cnt_at (hl : Lin lt) {l : List K} {x : K} (h : Rising lt l) (hx : x ∈ l) : l.drop (cnt lt l x) = x :: l.drop (cnt lt l x + 1) := by
  obtain ⟨h1, h2⟩ := cnt_parts hl x h
  have hxd : x ∈ l.drop (cnt lt l x) := by
    rw [← List.take_append_drop (cnt lt l x) l] at hx
    rcases List.mem_append.1 hx with e | e
    · have := h1 x e
      rw [hl.irr] at this
      cases this
    · exact e
  have hr : Rising lt (l.drop (cnt lt l x)) := h.sublist (List.drop_sublist _ _)
  cases hd : l.drop (cnt lt l x) with
  | nil => rw [hd] at hxd; cases hxd
  | cons a r =>
    have har : r = l.drop (cnt lt l x + 1) := by rw [← List.drop_drop, hd]; rfl
    rw [hd] at hxd hr h2
    rcases List.mem_cons.1 hxd with e | e
    · rw [← har, e]
    · have p := (List.pairwise_cons.1 hr).1 x e
      rw [h2 a (List.mem_cons_self ..)] at p
      cases p

/-- A rising list with one thing out. -/
theorem cut_one (hl : Lin lt) {l : List K} {x : K} (h : Rising lt l) (hx : x ∈ l) :
    Rising lt (l.take (cnt lt l x) ++ l.drop (cnt lt l x + 1)) ∧ (∀ k, k ∈ l.take (cnt lt l x) ++ l.drop (cnt lt l x + 1) ↔ k ∈ l ∧ k ≠ x) ∧ (l.take (cnt lt l x) ++ l.drop (cnt lt l x + 1)).length + 1 = l.length ∧ cnt lt l x < l.length := by
  have hd := cnt_at hl h hx
  have e : l = l.take (cnt lt l x) ++ x :: l.drop (cnt lt l x + 1) := by rw [← hd, List.take_append_drop]
  have hn := h.nodup hl
  have hlen : (l.take (cnt lt l x) ++ l.drop (cnt lt l x + 1)).length + 1 = l.length := by
    have := congrArg List.length e
    simp only [List.length_append, List.length_cons] at this ⊢
    omega
  generalize hA : l.take (cnt lt l x) = A at *
  generalize hB : l.drop (cnt lt l x + 1) = B at *
  have hcl : cnt lt l x < l.length := by
    have h1 := cnt_le (lt := lt) l x
    rcases Nat.lt_or_ge (cnt lt l x) l.length with g | g
    · exact g
    · rw [List.drop_eq_nil_of_le g] at hd; cases hd
  rw [e] at h hn
  obtain ⟨p1, p2, p3⟩ := List.pairwise_append.1 h
  have p4 := List.pairwise_cons.1 p2
  obtain ⟨n1, n2, n3⟩ := List.pairwise_append.1 hn
  have n4 := List.pairwise_cons.1 n2
  refine ⟨List.pairwise_append.2 ⟨p1, p4.2, fun a ha b hb => p3 a ha b (List.mem_cons_of_mem _ hb)⟩, fun k => ?_, hlen, hcl⟩
  rw [e, List.mem_append, List.mem_append, List.mem_cons]
  constructor
  · rintro (hk | hk)
    · exact ⟨.inl hk, n3 k hk x (List.mem_cons_self ..)⟩
    · exact ⟨.inr (.inr hk), fun e => n4.1 k hk e.symm⟩
  · rintro ⟨hk | hk | hk, hne⟩
    · exact .inl hk
    · exact absurd hk hne
    · exact .inr hk
end

def ltN : Int → Int → Bool := fun a b => decide (a < b)
theorem linN : Lin ltN := ⟨fun a => by simp [ltN], fun a b c h1 h2 => by simp [ltN] at *; omega, fun a b h => by simp [ltN]; omega⟩

/-- A rising list with one more. -/
theorem put_one {l : List Int} {x : Int} (h : Rising ltN l) (hx : x ∉ l) :
    Rising ltN (l.take (cnt ltN l x) ++ [x] ++ l.drop (cnt ltN l x)) ∧ ∀ k, k ∈ l.take (cnt ltN l x) ++ [x] ++ l.drop (cnt ltN l x) ↔ k = x ∨ k ∈ l := by
  obtain ⟨h1, h2⟩ := cnt_parts linN x h
  have e : l = l.take (cnt ltN l x) ++ l.drop (cnt ltN l x) := (List.take_append_drop _ _).symm
  generalize l.take (cnt ltN l x) = A at *
  generalize l.drop (cnt ltN l x) = B at *
  subst e
  have hp := List.pairwise_append.1 h
  refine ⟨?_, fun k => ?_⟩
  · unfold Rising
    rw [List.append_assoc, List.pairwise_append]
    refine ⟨hp.1, ?_, fun a ha b hb => ?_⟩
    · rw [List.singleton_append, List.pairwise_cons]
      refine ⟨fun b hb => ?_, hp.2.1⟩
      have h3 := h2 b hb
      have h4 : b ≠ x := fun e => hx (by rw [← e]; exact List.mem_append_right _ hb)
      simp only [ltN, decide_eq_false_iff_not, decide_eq_true_eq] at h3 ⊢
      omega
    · rw [List.singleton_append] at hb
      rcases List.mem_cons.1 hb with e | e
      · rw [e]; exact h1 a ha
      · exact hp.2.2 a ha b e
  · simp only [List.mem_append, List.mem_singleton]
    constructor
    · rintro ((h | h) | h)
      · exact .inr (.inl h)
      · exact .inl h
      · exact .inr (.inr h)
    · rintro (h | h | h)
      · exact .inl (.inr h)
      · exact .inl (.inl h)
      · exact .inr h
end

section
open Go.RowKit Go.Maps
theorem turned_map {S : Nat → Prop} {w w' : World} {b : Nat} (h : w.mapTurned w' b) (hs : S b) : Turned S w w' := turned_grown h.grown hs
/-! ### pointers as a map's elements -/

def ptr : Option Nat → Value
  | none => .pointer none
  | some q => .pointer (some ⟨q, 0, none⟩)
def dat : Option Nat → DataW Unit
  | none => .lit (.bool false)
  | some q => .lit (.int .i64 q)
def ptrElem : Value → Option (DataW Unit × List MemPlace)
  | .pointer none => some (.lit (.bool false), [])
  | .pointer (some ⟨q, 0, none⟩) => some (.lit (.int .i64 q), [])
  | _ => none
theorem ptrElem_ptr (o : Option Nat) : ptrElem (ptr o) = some (dat o, []) := by cases o <;> rfl
theorem ptrElem_inv {v : Value} {z : DataW Unit × List MemPlace} (h : ptrElem v = some z) : ∃ o, v = ptr o ∧ z = (dat o, []) := by
  unfold ptrElem at h
  split at h
  · exact ⟨none, rfl, (Option.some.inj h).symm⟩
  · rename_i q
    exact ⟨some q, rfl, (Option.some.inj h).symm⟩
  · cases h
theorem dat_inj {a b : Option Nat} (h : dat a = dat b) : a = b := by
  match a, b, h with
  | none, none, _ => rfl
  | some x, some y, h =>
    simp [dat] at h
    rw [show x = y by omega]

/-- Two pointers to boxes are held against each other. -/
theorem equalIn_ptr (d : Nat) {t e : TypeId} {i : TypeInfo} (ht : Try.prog.underlying t = some (.pointer e)) (hi : Try.prog.info? e = some i) (hs : i.size ≠ 0) (w : World) {x y : Nat} {ca cb : Array Value} {ta tb : TypeId}
    (hx : w.heap[x]? = some (.cells ca ta (0, 0))) (hy : w.heap[y]? = some (.cells cb tb (0, 0))) : (Op.equalIn (d + 1) t (.pointer (some ⟨x, 0, none⟩)) (.pointer (some ⟨y, 0, none⟩))).run Try.prog w = .ok (decide (x = y)) w := by
  have hc : Try.prog.cellsOf e = i.size := by simp [Program.cellsOf, hi]
  simp only [Op.equalIn, Sem.run_bind, run_underlying ht, Result.andThen_ok, run_sizeOf w hi]
  by_cases e : x = y
  · subst e
    simp [hc, hs, run_sameAddr_same]
  · have := run_sameAddr_other (P := Try.prog) w (a := ⟨x, 0, none⟩) (b := ⟨y, 0, none⟩) (by simp) hx hy
    simp [hc, hs, this, e]
theorem eql_ptr {t e : TypeId} {i : TypeInfo} (ht : Try.prog.underlying t = some (.pointer e)) (hi : Try.prog.info? e = some i) (hs : i.size ≠ 0) (w : World) {x y : Nat} {ca cb : Array Value} {ta tb : TypeId}
    (hx : w.heap[x]? = some (.cells ca ta (0, 0))) (hy : w.heap[y]? = some (.cells cb tb (0, 0))) : (binOp .eql t (.pointer (some ⟨x, 0, none⟩)) (.pointer (some ⟨y, 0, none⟩))).run Try.prog w = .ok (.bool (decide (x = y))) w := by
  simp only [binOp]
  simp [Op.equal, Op.maxDepth, equalIn_ptr 9999 ht hi hs w hx hy]

/-- How the keys of one type stand in a map. -/
structure KeyKit (K : Type) (kt : TypeId) (kv : K → Value) (kl : K → Lit) (ok : K → Prop) : Prop where
  law : Keyed Try.prog kt
  key : ∀ k, ok k → keyOf Try.prog kt (kv k) = some (kl k)
  lit : ∀ k, WideAt.IsKeyLit (kl k)
  inj : ∀ a b, kl a = kl b → a = b

/-- The map in block m leads each key k to f k; it has N entries. -/
def MapFn {K : Type} (kt : TypeId) (kl : K → Lit) (ok : K → Prop) (w : World) (m : Nat) (f : K → Option Nat) (N : Nat) : Prop :=
  ∃ D, w.ownsMap Try.prog kt ptrElem m N D ∧ Maps.Tidy D ∧ Maps.size D = N ∧ ∀ k, ok k → D.atKey (kl k) (dat none) = dat (f k) ∧ Maps.has D (kl k) = (f k).isSome

section
variable {K : Type} {kt t e : TypeId} {kv : K → Value} {kl : K → Lit} {ok : K → Prop} {w w' : World} {m N : Nat} {f : K → Option Nat}

theorem MapFn.lt (h : MapFn kt kl ok w m f N) : m < w.heap.size := by
  obtain ⟨D, h1, -⟩ := h
  exact h1.lt
theorem MapFn.kept (h : MapFn kt kl ok w m f N) (hk : w'.heap[m]? = w.heap[m]?) : MapFn kt kl ok w' m f N := by
  obtain ⟨D, ⟨es, clock, h1, h2⟩, h3⟩ := h
  exact ⟨D, ⟨es, clock, hk.trans h1, h2⟩, h3⟩
theorem MapFn.congr {g : K → Option Nat} (h : MapFn kt kl ok w m f N) (hg : ∀ k, ok k → g k = f k) : MapFn kt kl ok w m g N := by
  obtain ⟨D, h1, h2, h3, h4⟩ := h
  exact ⟨D, h1, h2, h3, fun k hk => by rw [hg k hk]; exact h4 k hk⟩

theorem MapFn.look (h : MapFn kt kl ok w m f N) (kk : KeyKit K kt kv kl ok) (ht : Try.prog.underlying t = some (.map kt e)) (hz : ∀ w, (zeroValue e).run Try.prog w = .ok (.pointer none) w) (k : K) (hk : ok k) :
    (Instr.lookup t (.map (some m)) (kv k) false).run Try.prog w = .ok (ptr (f k)) w := by
  obtain ⟨D, h1, h2, h3, h4⟩ := h
  obtain ⟨v, ps, hrun, hv⟩ := h1.lookup kk.law ht (hz w) (ptrElem_ptr none) (kk.key k hk)
  obtain ⟨o, rfl, ho⟩ := ptrElem_inv hv
  have h5 : dat (f k) = dat o := by rw [← (h4 k hk).1]; exact congrArg Prod.fst ho
  rw [dat_inj h5]
  exact hrun

/-- A key is led elsewhere. -/
def put [DecidableEq K] (f : K → Option Nat) (k : K) (o : Option Nat) : K → Option Nat := fun x => if x = k then o else f x

theorem MapFn.put_ [DecidableEq K] (h : MapFn kt kl ok w m f N) (kk : KeyKit K kt kv kl ok) (ht : Try.prog.underlying t = some (.map kt e)) (hn : N < maxLen) (k : K) (hk : ok k) (q : Nat) :
    ∃ w', (Instr.mapUpdate t (.map (some m)) (kv k) (ptr (some q))).run Try.prog w = .ok () w' ∧ MapFn kt kl ok w' m (put f k (some q)) (if (f k).isSome then N else N + 1) ∧ w.mapTurned w' m := by
  obtain ⟨D, h1, h2, h3, h4⟩ := h
  obtain ⟨w', hrun, g1, g2⟩ := h1.store kk.law ht hn (kk.key k hk) (ptrElem_ptr (some q))
  have hs : Maps.size (D.put (kl k) (dat (some q))) = if (f k).isSome then N else N + 1 := by rw [size_put h2, h3, (h4 k hk).2]
  refine ⟨w', hrun, ⟨_, hs ▸ ownsMap_size g1, h2.put (kk.lit k) _, hs, fun x hx => ?_⟩, g2⟩
  by_cases e : x = k
  · subst e
    rw [atKey_put_same h2.isMap (kk.lit x), has_put_same h2.isMap (kk.lit x)]
    simp [put]
  · have hne : kl x ≠ kl k := fun he => e (kk.inj _ _ he)
    rw [atKey_put_other hne, has_put_other hne]
    simp only [put, if_neg e]
    exact h4 x hx

theorem MapFn.del_ [DecidableEq K] (h : MapFn kt kl ok w m f (N + 1)) (kk : KeyKit K kt kv kl ok) (ht : Try.prog.underlying t = some (.map kt e)) (k : K) (hk : ok k) (hs : (f k).isSome = true) (ty : TypeId) :
    ∃ w', (Builtin.delete_ #[t, kt] ty #[.map (some m), kv k]).run Try.prog w = .ok (.tuple #[]) w' ∧ MapFn kt kl ok w' m (put f k none) N ∧ w.mapTurned w' m := by
  obtain ⟨D, h1, h2, h3, h4⟩ := h
  obtain ⟨w', hrun, g1, g2⟩ := h1.drop kk.law ht (kk.key k hk) ty
  have hsz : Maps.size (D.del (kl k)) = N := by
    have := size_del (k := kl k) h2
    rw [(h4 k hk).2, hs, h3] at this
    simpa using this
  refine ⟨w', hrun, ⟨_, hsz ▸ ownsMap_size g1, h2.del _, hsz, fun x hx => ?_⟩, g2⟩
  by_cases e : x = k
  · subst e
    rw [atKey_del_same, has_del_same]
    simp [put]
  · have hne : kl x ≠ kl k := fun he => e (kk.inj _ _ he)
    rw [atKey_del_other hne, has_del_other hne]
    simp only [put, if_neg e]
    exact h4 x hx

theorem MapFn.len_ (h : MapFn kt kl ok w m f N) (ht : Try.prog.underlying t = some (.map kt e)) (ty : TypeId) : (Builtin.len_ #[t] ty #[.map (some m)]).run Try.prog w = .ok (.int .i64 N) w := by
  obtain ⟨D, h1, -, h3, -⟩ := h
  rw [← h3]
  exact h1.len ht ty

theorem mapFn_made (w : World) : MapFn kt kl ok (w.alloc (.map #[] 0)) w.heap.size (fun _ => none) 0 :=
  ⟨.map [], World.ownsMap_made w _ _ _, tidy_empty, rfl, fun _ _ => ⟨rfl, rfl⟩⟩
end
end

section
open Go.RowKit Go.Maps
def klN : Int → Lit := fun k => Lit.int .i64 k
def okN : Int → Prop := fun k => (Lit.int .i64 k).wf = true
theorem kitN : KeyKit Int 3 (Value.int .i64) klN okN := ⟨int_keyed Try.underlying3, fun _ hk => keyOf_int_mk Try.underlying3 hk, fun k => by simp [klN, WideAt.IsKeyLit], fun a b h => by simpa [klN] using h⟩
theorem keyInvN {key : Value} {l : Lit} (h : keyOf Try.prog 3 key = some l) : ∃ k, key = Value.int .i64 k ∧ l = klN k ∧ okN k := by
  obtain ⟨x, rfl, rfl, hw⟩ := keyOf_int_inv Try.underlying3 h
  exact ⟨x, rfl, rfl, hw⟩
/-- How the elements of one kind stand in a map. -/
structure ElKit (X : Type) (ev : X → Value) (ed : X → DataW Unit) (R : Value → Option (DataW Unit × List MemPlace)) : Prop where
  rd : ∀ x, R (ev x) = some (ed x, [])
  inv : ∀ v z, R v = some z → ∃ x, v = ev x ∧ z = (ed x, [])
  inj : ∀ a b, ed a = ed b → a = b
/-- The map in block m leads k to f k; it has n entries; x0 stands for what is not there. -/
def MapG {X : Type} (ed : X → DataW Unit) (R : Value → Option (DataW Unit × List MemPlace)) (x0 : X) (w : World) (m : Nat) (f : Int → Option X) (n : Nat) : Prop :=
  ∃ D, w.ownsMap Try.prog 3 R m n D ∧ Maps.Tidy D ∧ Maps.size D = n ∧ ∀ k, okN k → D.atKey (klN k) (ed x0) = ed ((f k).getD x0) ∧ Maps.has D (klN k) = (f k).isSome
/-- A key is led elsewhere. -/
def putG {X : Type} (f : Int → Option X) (k : Int) (o : Option X) : Int → Option X := fun x => if x = k then o else f x
section
variable {X : Type} {ev : X → Value} {ed : X → DataW Unit} {R : Value → Option (DataW Unit × List MemPlace)} {x0 : X} {w w' : World} {m n : Nat} {f : Int → Option X} {t e : TypeId}
theorem MapG.lt (h : MapG ed R x0 w m f n) : m < w.heap.size := by obtain ⟨D, h1, -⟩ := h; exact h1.lt
theorem MapG.kept (h : MapG ed R x0 w m f n) (hk : w'.heap[m]? = w.heap[m]?) : MapG ed R x0 w' m f n := by
  obtain ⟨D, ⟨es, clock, h1, h2⟩, h3⟩ := h
  exact ⟨D, ⟨es, clock, hk.trans h1, h2⟩, h3⟩
theorem MapG.congr {g : Int → Option X} (h : MapG ed R x0 w m f n) (hg : ∀ k, okN k → g k = f k) : MapG ed R x0 w m g n := by
  obtain ⟨D, h1, h2, h3, h4⟩ := h
  exact ⟨D, h1, h2, h3, fun k hk => by rw [hg k hk]; exact h4 k hk⟩
theorem MapG.look (h : MapG ed R x0 w m f n) (kk : ElKit X ev ed R) (ht : Try.prog.underlying t = some (.map 3 e)) (hz : ∀ w, (zeroValue e).run Try.prog w = .ok (ev x0) w) {k : Int} (hk : okN k) :
    (Instr.lookup t (.map (some m)) (.int .i64 k) false).run Try.prog w = .ok (ev ((f k).getD x0)) w := by
  obtain ⟨D, h1, h2, h3, h4⟩ := h
  obtain ⟨v, ps, hrun, hv⟩ := h1.lookup kitN.law ht (hz w) (kk.rd x0) (kitN.key k hk)
  obtain ⟨o, rfl, ho⟩ := kk.inv _ _ hv
  have h5 : ed ((f k).getD x0) = ed o := by rw [← (h4 k hk).1]; exact congrArg Prod.fst ho
  rw [kk.inj _ _ h5]
  exact hrun
theorem MapG.look2 (h : MapG ed R x0 w m f n) (kk : ElKit X ev ed R) (ht : Try.prog.underlying t = some (.map 3 e)) (hz : ∀ w, (zeroValue e).run Try.prog w = .ok (ev x0) w) {k : Int} (hk : okN k) :
    (Instr.lookup t (.map (some m)) (.int .i64 k) true).run Try.prog w = .ok (.tuple #[ev ((f k).getD x0), .bool (f k).isSome]) w := by
  obtain ⟨D, h1, h2, h3, h4⟩ := h
  obtain ⟨v, ps, hrun, hv⟩ := h1.look_ok kitN.law ht (hz w) (kk.rd x0) (kitN.key k hk)
  obtain ⟨o, rfl, ho⟩ := kk.inv _ _ hv
  have h5 : ed ((f k).getD x0) = ed o := by rw [← (h4 k hk).1]; exact congrArg Prod.fst ho
  rw [kk.inj _ _ h5, ← (h4 k hk).2]
  exact hrun
theorem MapG.put (h : MapG ed R x0 w m f n) (kk : ElKit X ev ed R) (ht : Try.prog.underlying t = some (.map 3 e)) (hn : n < maxLen) {k : Int} (hk : okN k) (x : X) :
    ∃ w', (Instr.mapUpdate t (.map (some m)) (.int .i64 k) (ev x)).run Try.prog w = .ok () w' ∧ MapG ed R x0 w' m (putG f k (some x)) (if (f k).isSome then n else n + 1) ∧ w.mapTurned w' m := by
  obtain ⟨D, h1, h2, h3, h4⟩ := h
  obtain ⟨w', hrun, g1, g2⟩ := h1.store kitN.law ht hn (kitN.key k hk) (kk.rd x)
  have hs : Maps.size (D.put (klN k) (ed x)) = if (f k).isSome then n else n + 1 := by rw [size_put h2, h3, (h4 k hk).2]
  refine ⟨w', hrun, ⟨_, hs ▸ ownsMap_size g1, h2.put (kitN.lit k) _, hs, fun y hy => ?_⟩, g2⟩
  by_cases e : y = k
  · subst e
    rw [atKey_put_same h2.isMap (kitN.lit y), has_put_same h2.isMap (kitN.lit y)]
    simp [putG]
  · have hne : klN y ≠ klN k := fun he => e (kitN.inj _ _ he)
    rw [atKey_put_other hne, has_put_other hne]
    simp only [putG, if_neg e]
    exact h4 y hy
theorem MapG.del (h : MapG ed R x0 w m f (n + 1)) (ht : Try.prog.underlying t = some (.map 3 e)) {k : Int} (hk : okN k) (hs : (f k).isSome = true) (ty : TypeId) :
    ∃ w', (Builtin.delete_ #[t, 3] ty #[.map (some m), .int .i64 k]).run Try.prog w = .ok (.tuple #[]) w' ∧ MapG ed R x0 w' m (putG f k none) n ∧ w.mapTurned w' m := by
  obtain ⟨D, h1, h2, h3, h4⟩ := h
  obtain ⟨w', hrun, g1, g2⟩ := h1.drop kitN.law ht (kitN.key k hk) ty
  have hsz : Maps.size (D.del (klN k)) = n := by
    have := size_del (k := klN k) h2
    rw [(h4 k hk).2, hs, h3] at this
    simpa using this
  refine ⟨w', hrun, ⟨_, hsz ▸ ownsMap_size g1, h2.del _, hsz, fun y hy => ?_⟩, g2⟩
  by_cases e : y = k
  · subst e
    rw [atKey_del_same, has_del_same]
    simp [putG]
  · have hne : klN y ≠ klN k := fun he => e (kitN.inj _ _ he)
    rw [atKey_del_other hne, has_del_other hne]
    simp only [putG, if_neg e]
    exact h4 y hy
theorem MapG.len (h : MapG ed R x0 w m f n) (ht : Try.prog.underlying t = some (.map 3 e)) (ty : TypeId) : (Builtin.len_ #[t] ty #[.map (some m)]).run Try.prog w = .ok (.int .i64 n) w := by
  obtain ⟨D, h1, -, h3, -⟩ := h
  rw [← h3]
  exact h1.len ht ty
theorem mapG_made (w : World) : MapG ed R x0 (w.alloc (.map #[] 0)) w.heap.size (fun _ => none) 0 :=
  ⟨.map [], World.ownsMap_made w _ _ _, tidy_empty, rfl, fun _ _ => ⟨rfl, rfl⟩⟩
/-- A map with no entries leads nowhere, and one that leads nowhere has none. -/
theorem MapG.zero (h : MapG ed R x0 w m f 0) {k : Int} (hk : okN k) : f k = none := by
  obtain ⟨D, h1, h2, h3, h4⟩ := h
  have := (h4 k hk).2
  cases hf : f k with
  | none => rfl
  | some x =>
    rw [hf] at this
    have h5 := size_del (k := klN k) h2
    rw [this, h3] at h5
    simp at h5
/-- In the midst of a range over the map: what is left. -/
def RangeG (ed : X → DataW Unit) (R : Value → Option (DataW Unit × List MemPlace)) (x0 : X) (m r : Nat) (f : Int → Option X) (n : Nat) (left : Int → Bool) (c : Nat) (w : World) : Prop :=
  ∃ D lf, w.ranges Try.prog 3 R m r n D lf c ∧ Maps.Tidy D ∧ (∀ k, okN k → D.atKey (klN k) (ed x0) = ed ((f k).getD x0) ∧ Maps.has D (klN k) = (f k).isSome) ∧ (∀ l, lf l = true → Maps.has D l = true) ∧ ∀ k, okN k → lf (klN k) = left k
theorem MapG.range (h : MapG ed R x0 w m f n) (ht : Try.prog.underlying t = some (.map 3 e)) :
    ∃ w', (Instr.range t (.map (some m))).run Try.prog w = .ok (.pointer (some ⟨w.heap.size, 0, none⟩)) w' ∧ RangeG ed R x0 m w.heap.size f n (fun k => (f k).isSome) n w' ∧ w.grownBy w' none ∧ w'.heap.size = w.heap.size + 1 := by
  obtain ⟨D, h1, h2, h3, h4⟩ := h
  obtain ⟨w', hrun, g1, g2, g3⟩ := h1.range kitN.law ht
  rw [h3] at g1
  exact ⟨w', hrun, ⟨D, _, g1, h2, h4, fun l hl => hl, fun k hk => (h4 k hk).2⟩, g2, g3⟩
theorem RangeG.next {r c : Nat} {left : Int → Bool} (h : RangeG ed R x0 m r f n left c w) (kk : ElKit X ev ed R) (ty : TypeId) :
    (c = 0 ∧ (∀ k, okN k → left k = false) ∧ (Instr.next (.pointer (some ⟨r, 0, none⟩)) false ty).run Try.prog w = .ok (.tuple #[.bool false]) w) ∨
    ∃ k x w' c', okN k ∧ left k = true ∧ f k = some x ∧ (Instr.next (.pointer (some ⟨r, 0, none⟩)) false ty).run Try.prog w = .ok (.tuple #[.bool true, .int .i64 k, ev x]) w' ∧ (Instr.entry (.pointer (some ⟨r, 0, none⟩))).run Try.prog w' = .ok (.tuple #[.int .i64 k, ev x]) w' ∧
      RangeG ed R x0 m r f n (fun y => left y && decide (y ≠ k)) c' w' ∧ c' < c ∧ w.grownBy w' (some r) ∧ w'.heap.size = w.heap.size := by
  obtain ⟨D, lf, h1, h2, h3, h4, h5⟩ := h
  rcases h1.next kitN.law ty with ⟨q1, q2, q3⟩ | ⟨key, u, l, y, w', c', hkey, hl, hu, hat, hrun, hrg, hlt, hgr, hsz, hen⟩
  · exact .inl ⟨q1, fun k hk => by rw [← h5 k hk]; exact q2 _, q3⟩
  · obtain ⟨k, rfl, rfl, hok⟩ := keyInvN hkey
    obtain ⟨x, rfl, rfl⟩ := kk.inv _ _ hu
    have e2 : (f k).isSome = true := by rw [← (h3 k hok).2]; exact h4 _ hl
    obtain ⟨x', hx'⟩ := Option.isSome_iff_exists.1 e2
    have e1 : ed ((f k).getD x0) = ed x := by rw [← (h3 k hok).1]; exact hat _
    rw [hx'] at e1
    obtain rfl := kk.inj _ _ (show ed x' = ed x from e1)
    refine .inr ⟨k, x', w', c', hok, by rw [← h5 k hok]; exact hl, hx', hrun, hen, ⟨D, _, hrg, h2, h3, fun l hl' => h4 l (by simp at hl'; exact hl'.1), fun y hy => ?_⟩, hlt, hgr, hsz⟩
    show (lf (klN y) && !(klN y).sameKey (klN k)) = (left y && decide (y ≠ k))
    rw [h5 y hy]
    by_cases e : y = k
    · subst e
      rw [WideAt.sameKey_self (kitN.lit y)]; simp
    · have : (klN y).sameKey (klN k) = false := by
        cases hh : (klN y).sameKey (klN k) with
        | false => rfl
        | true => exact absurd (kitN.inj _ _ (WideAt.sameKey_eq hh)) e
      rw [this]; simp [e]
theorem RangeG.kept {r c : Nat} {left : Int → Bool} {row : Option Nat} (h : RangeG ed R x0 m r f n left c w) (hg : w.grownBy w' row) (h1 : some m ≠ row) (h2 : some r ≠ row) : RangeG ed R x0 m r f n left c w' := by
  obtain ⟨D, lf, q1, q2⟩ := h
  exact ⟨D, lf, q1.kept hg h1 h2, q2⟩
end
/-! A pointer, and an edge (two numbers and a weight), as a map's element. -/
theorem kitPt : ElKit (Option Nat) ptr dat ptrElem := ⟨ptrElem_ptr, fun _ _ h => ptrElem_inv h, fun _ _ h => dat_inj h⟩
def evG (a : Int × Int × Nat) : Value := .agg #[.int .i64 a.1, .int .i64 a.2.1, .float .f32 a.2.2]
def edG (a : Int × Int × Nat) : DataW Unit := .agg [.lit (.int .i64 a.1), .lit (.int .i64 a.2.1), .lit (.float .f32 a.2.2)]
def rdG : Value → Option (DataW Unit × List MemPlace)
  | .agg ⟨[.int .i64 u, .int .i64 v, .float .f32 c]⟩ => some (.agg [.lit (.int .i64 u), .lit (.int .i64 v), .lit (.float .f32 c)], [])
  | _ => none
theorem kitEg : ElKit (Int × Int × Nat) evG edG rdG := by
  refine ⟨fun _ => rfl, fun v z h => ?_, fun a b h => ?_⟩
  · unfold rdG at h
    split at h
    · rename_i u v c
      exact ⟨(u, v, c), rfl, (Option.some.inj h).symm⟩
    · cases h
  · obtain ⟨a1, a2, a3⟩ := a
    obtain ⟨b1, b2, b3⟩ := b
    simp only [edG, DataW.agg.injEq, List.cons.injEq, DataW.lit.injEq, Lit.int.injEq, Lit.float.injEq, true_and, and_true] at h
    rw [h.1, h.2.1, h.2.2]
end

end Go.Proofs.Ytbmcibofecigeaa
