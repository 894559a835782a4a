/- The calls that only read, and New: parts in memory. -/
import Derived.Test.YtkmhcgmmbkchaaaGreatRise9
import Derived.Test.YtkmhcgmmbkchaaaGreatLaws2
import Derived.LaidEql
import Derived.WalkSpells
import Derived.WalkLawsBesides
import Derived.Sort.EncStr
namespace Go.Proofs.YtkmhcgmmbkchaaaGreat

section
open Go.RowKit Go.Maps
theorem turned_map {S : Nat → Prop} {w w' : World} {b : Nat} (h : w.mapTurned w' b) (hs : S b) : Turned S w w' := turned_grown h.grown hs
/-! ### pointers as a map's elements -/

def ptr : Option Nat → Value
  | none => .pointer none
  | some q => .pointer (some ⟨q, 0, none⟩)
def dat : Option Nat → DataW Unit
  | none => .lit (.bool false)
  | some q => .lit (.int .i64 q)
def ptrElem : Value → Option (DataW Unit × List MemPlace)
  | .pointer none => some (.lit (.bool false), [])
  | .pointer (some ⟨q, 0, none⟩) => some (.lit (.int .i64 q), [])
  | _ => none
theorem ptrElem_ptr (o : Option Nat) : ptrElem (ptr o) = some (dat o, []) := by cases o <;> rfl
theorem ptrElem_inv {v : Value} {z : DataW Unit × List MemPlace} (h : ptrElem v = some z) : ∃ o, v = ptr o ∧ z = (dat o, []) := by
  unfold ptrElem at h
  split at h
  · exact ⟨none, rfl, (Option.some.inj h).symm⟩
  · rename_i q
    exact ⟨some q, rfl, (Option.some.inj h).symm⟩
  · cases h
theorem dat_inj {a b : Option Nat} (h : dat a = dat b) : a = b := by
  match a, b, h with
  | none, none, _ => rfl
  | some x, some y, h =>
    simp [dat] at h
    rw [show x = y by omega]

/-- Two pointers to boxes are held against each other. -/
theorem equalIn_ptr (d : Nat) {t e : TypeId} {i : TypeInfo} (ht : Tryz.prog.underlying t = some (.pointer e)) (hi : Tryz.prog.info? e = some i) (hs : i.size ≠ 0) (w : World) {x y : Nat} {ca cb : Array Value} {ta tb : TypeId}
    (hx : w.heap[x]? = some (.cells ca ta (0, 0))) (hy : w.heap[y]? = some (.cells cb tb (0, 0))) : (Op.equalIn (d + 1) t (.pointer (some ⟨x, 0, none⟩)) (.pointer (some ⟨y, 0, none⟩))).run Tryz.prog w = .ok (decide (x = y)) w := by
  have hc : Tryz.prog.cellsOf e = i.size := by simp [Program.cellsOf, hi]
  simp only [Op.equalIn, Sem.run_bind, run_underlying ht, Result.andThen_ok, run_sizeOf w hi]
  by_cases e : x = y
  · subst e
    simp [hc, hs, run_sameAddr_same]
  · have := run_sameAddr_other (P := Tryz.prog) w (a := ⟨x, 0, none⟩) (b := ⟨y, 0, none⟩) (by simp) hx hy
    simp [hc, hs, this, e]
theorem eql_ptr {t e : TypeId} {i : TypeInfo} (ht : Tryz.prog.underlying t = some (.pointer e)) (hi : Tryz.prog.info? e = some i) (hs : i.size ≠ 0) (w : World) {x y : Nat} {ca cb : Array Value} {ta tb : TypeId}
    (hx : w.heap[x]? = some (.cells ca ta (0, 0))) (hy : w.heap[y]? = some (.cells cb tb (0, 0))) : (binOp .eql t (.pointer (some ⟨x, 0, none⟩)) (.pointer (some ⟨y, 0, none⟩))).run Tryz.prog w = .ok (.bool (decide (x = y))) w := by
  simp only [binOp]
  simp [Op.equal, Op.maxDepth, equalIn_ptr 9999 ht hi hs w hx hy]

/-- How the keys of one type stand in a map. -/
structure KeyKit (K : Type) (kt : TypeId) (kv : K → Value) (kl : K → Lit) (ok : K → Prop) : Prop where
  law : Keyed Tryz.prog kt
  key : ∀ k, ok k → keyOf Tryz.prog kt (kv k) = some (kl k)
  lit : ∀ k, WideAt.IsKeyLit (kl k)
  inj : ∀ a b, kl a = kl b → a = b

/-- The map in block m leads each key k to f k; it has N entries. -/
def MapFn {K : Type} (kt : TypeId) (kl : K → Lit) (ok : K → Prop) (w : World) (m : Nat) (f : K → Option Nat) (N : Nat) : Prop :=
  ∃ D, w.ownsMap Tryz.prog kt ptrElem m N D ∧ Maps.Tidy D ∧ Maps.size D = N ∧ ∀ k, ok k → D.atKey (kl k) (dat none) = dat (f k) ∧ Maps.has D (kl k) = (f k).isSome

section
variable {K : Type} {kt t e : TypeId} {kv : K → Value} {kl : K → Lit} {ok : K → Prop} {w w' : World} {m N : Nat} {f : K → Option Nat}

theorem MapFn.lt (h : MapFn kt kl ok w m f N) : m < w.heap.size := by
  obtain ⟨D, h1, -⟩ := h
  exact h1.lt
theorem MapFn.kept (h : MapFn kt kl ok w m f N) (hk : w'.heap[m]? = w.heap[m]?) : MapFn kt kl ok w' m f N := by
  obtain ⟨D, ⟨es, clock, h1, h2⟩, h3⟩ := h
  exact ⟨D, ⟨es, clock, hk.trans h1, h2⟩, h3⟩
theorem MapFn.congr {g : K → Option Nat} (h : MapFn kt kl ok w m f N) (hg : ∀ k, ok k → g k = f k) : MapFn kt kl ok w m g N := by
  obtain ⟨D, h1, h2, h3, h4⟩ := h
  exact ⟨D, h1, h2, h3, fun k hk => by rw [hg k hk]; exact h4 k hk⟩

theorem MapFn.look (h : MapFn kt kl ok w m f N) (kk : KeyKit K kt kv kl ok) (ht : Tryz.prog.underlying t = some (.map kt e)) (hz : ∀ w, (zeroValue e).run Tryz.prog w = .ok (.pointer none) w) (k : K) (hk : ok k) :
    (Instr.lookup t (.map (some m)) (kv k) false).run Tryz.prog w = .ok (ptr (f k)) w := by
  obtain ⟨D, h1, h2, h3, h4⟩ := h
  obtain ⟨v, ps, hrun, hv⟩ := h1.lookup kk.law ht (hz w) (ptrElem_ptr none) (kk.key k hk)
  obtain ⟨o, rfl, ho⟩ := ptrElem_inv hv
  have h5 : dat (f k) = dat o := by rw [← (h4 k hk).1]; exact congrArg Prod.fst ho
  rw [dat_inj h5]
  exact hrun

/-- A key is led elsewhere. -/
def put [DecidableEq K] (f : K → Option Nat) (k : K) (o : Option Nat) : K → Option Nat := fun x => if x = k then o else f x

theorem MapFn.put_ [DecidableEq K] (h : MapFn kt kl ok w m f N) (kk : KeyKit K kt kv kl ok) (ht : Tryz.prog.underlying t = some (.map kt e)) (hn : N < maxLen) (k : K) (hk : ok k) (q : Nat) :
    ∃ w', (Instr.mapUpdate t (.map (some m)) (kv k) (ptr (some q))).run Tryz.prog w = .ok () w' ∧ MapFn kt kl ok w' m (put f k (some q)) (if (f k).isSome then N else N + 1) ∧ w.mapTurned w' m := by
  obtain ⟨D, h1, h2, h3, h4⟩ := h
  obtain ⟨w', hrun, g1, g2⟩ := h1.store kk.law ht hn (kk.key k hk) (ptrElem_ptr (some q))
  have hs : Maps.size (D.put (kl k) (dat (some q))) = if (f k).isSome then N else N + 1 := by rw [size_put h2, h3, (h4 k hk).2]
  refine ⟨w', hrun, ⟨_, hs ▸ ownsMap_size g1, h2.put (kk.lit k) _, hs, fun x hx => ?_⟩, g2⟩
  by_cases e : x = k
  · subst e
    rw [atKey_put_same h2.isMap (kk.lit x), has_put_same h2.isMap (kk.lit x)]
    simp [put]
  · have hne : kl x ≠ kl k := fun he => e (kk.inj _ _ he)
    rw [atKey_put_other hne, has_put_other hne]
    simp only [put, if_neg e]
    exact h4 x hx

theorem MapFn.del_ [DecidableEq K] (h : MapFn kt kl ok w m f (N + 1)) (kk : KeyKit K kt kv kl ok) (ht : Tryz.prog.underlying t = some (.map kt e)) (k : K) (hk : ok k) (hs : (f k).isSome = true) (ty : TypeId) :
    ∃ w', (Builtin.delete_ #[t, kt] ty #[.map (some m), kv k]).run Tryz.prog w = .ok (.tuple #[]) w' ∧ MapFn kt kl ok w' m (put f k none) N ∧ w.mapTurned w' m := by
  obtain ⟨D, h1, h2, h3, h4⟩ := h
  obtain ⟨w', hrun, g1, g2⟩ := h1.drop kk.law ht (kk.key k hk) ty
  have hsz : Maps.size (D.del (kl k)) = N := by
    have := size_del (k := kl k) h2
    rw [(h4 k hk).2, hs, h3] at this
    simpa using this
  refine ⟨w', hrun, ⟨_, hsz ▸ ownsMap_size g1, h2.del _, hsz, fun x hx => ?_⟩, g2⟩
  by_cases e : x = k
  · subst e
    rw [atKey_del_same, has_del_same]
    simp [put]
  · have hne : kl x ≠ kl k := fun he => e (kk.inj _ _ he)
    rw [atKey_del_other hne, has_del_other hne]
    simp only [put, if_neg e]
    exact h4 x hx

theorem MapFn.len_ (h : MapFn kt kl ok w m f N) (ht : Tryz.prog.underlying t = some (.map kt e)) (ty : TypeId) : (Builtin.len_ #[t] ty #[.map (some m)]).run Tryz.prog w = .ok (.int .i64 N) w := by
  obtain ⟨D, h1, -, h3, -⟩ := h
  rw [← h3]
  exact h1.len ht ty

theorem mapFn_made (w : World) : MapFn kt kl ok (w.alloc (.map #[] 0)) w.heap.size (fun _ => none) 0 :=
  ⟨.map [], World.ownsMap_made w _ _ _, tidy_empty, rfl, fun _ _ => ⟨rfl, rfl⟩⟩
end
end

section
open Go.RowKit Go.Maps
/-- A part: the block of its box, its slice, its things. -/
structure Part (K : Type) where
  q : Nat
  v : Value
  ks : List K

section
variable {K : Type} {lt : K → K → Bool}

/-! ### families -/

structure Fam (lt : K → K → Bool) (ok : K → Prop) (S : List (Part K)) : Prop where
  rise : ∀ x ∈ S, Rising lt x.ks
  some_ : ∀ x ∈ S, x.ks ≠ []
  keys : ∀ x ∈ S, ∀ k ∈ x.ks, ok k
  apart : S.Pairwise (fun x y => x.q ≠ y.q ∧ (∀ b, x.v.ownBlock = some b → y.v.ownBlock ≠ some b) ∧ ∀ k ∈ x.ks, k ∉ y.ks)

def tot (S : List (Part K)) : Nat := (S.map (fun x => x.ks.length)).sum
theorem tot_append (S T : List (Part K)) : tot (S ++ T) = tot S + tot T := by simp [tot]

/-! ### a part is taken out, parts are laid in -/

def Apart (x y : Part K) : Prop := x.q ≠ y.q ∧ (∀ b, x.v.ownBlock = some b → y.v.ownBlock ≠ some b) ∧ ∀ k ∈ x.ks, k ∉ y.ks

theorem Apart.symm {x y : Part K} (h : Apart x y) : Apart y x := ⟨fun e => h.1 e.symm, fun b hb hb' => h.2.1 b hb' hb, fun k hk hk' => h.2.2 k hk' hk⟩

def pout (x : Part K) (S : List (Part K)) : List (Part K) := S.filter (fun z => decide (z.q ≠ x.q))

theorem mem_pout {x z : Part K} {S : List (Part K)} : z ∈ pout x S ↔ z ∈ S ∧ z.q ≠ x.q := by simp [pout]

theorem Fam.pout {ok : K → Prop} {S : List (Part K)} (h : Fam lt ok S) (x : Part K) : Fam lt ok (pout x S) :=
  ⟨fun z hz => h.rise z (mem_pout.1 hz).1, fun z hz => h.some_ z (mem_pout.1 hz).1, fun z hz => h.keys z (mem_pout.1 hz).1, h.apart.sublist List.filter_sublist⟩

theorem Fam.append {ok : K → Prop} {S T : List (Part K)} (h : Fam lt ok S) (h' : Fam lt ok T) (ha : ∀ x ∈ S, ∀ y ∈ T, Apart x y) : Fam lt ok (S ++ T) :=
  ⟨fun z hz => (List.mem_append.1 hz).elim (h.rise z) (h'.rise z), fun z hz => (List.mem_append.1 hz).elim (h.some_ z) (h'.some_ z), fun z hz => (List.mem_append.1 hz).elim (h.keys z) (h'.keys z), List.pairwise_append.2 ⟨h.apart, h'.apart, ha⟩⟩

theorem fam_one {ok : K → Prop} {x : Part K} (h1 : Rising lt x.ks) (h2 : x.ks ≠ []) (h3 : ∀ k ∈ x.ks, ok k) : Fam lt ok [x] :=
  ⟨fun z hz => by rw [List.mem_singleton.1 hz]; exact h1, fun z hz => by rw [List.mem_singleton.1 hz]; exact h2, fun z hz => by rw [List.mem_singleton.1 hz]; exact h3, List.pairwise_singleton _ _⟩

theorem Fam.of {ok : K → Prop} {S : List (Part K)} (h : Fam lt ok S) {x y : Part K} (hx : x ∈ S) (hy : y ∈ S) : x = y ∨ Apart x y := by
  have hp := h.apart
  clear h
  induction S with
  | nil => cases hx
  | cons z S ih =>
    have p := List.pairwise_cons.1 hp
    rcases List.mem_cons.1 hx with e1 | h1
    · rcases List.mem_cons.1 hy with e2 | h2
      · exact .inl (e1.trans e2.symm)
      · rw [e1]; exact .inr (p.1 y h2)
    · rcases List.mem_cons.1 hy with e2 | h2
      · rw [e2]; exact .inr (Apart.symm (p.1 x h1))
      · exact ih h1 h2 p.2

theorem tot_without {ok : K → Prop} {S : List (Part K)} (h : Fam lt ok S) {x : Part K} (hx : x ∈ S) : tot S = x.ks.length + tot (pout x S) := by
  have hp := h.apart
  clear h
  induction S with
  | nil => cases hx
  | cons z S ih =>
    have p := List.pairwise_cons.1 hp
    have e1 : tot (z :: S) = z.ks.length + tot S := by simp [tot]
    rcases List.mem_cons.1 hx with rfl | hx
    · have e2 : pout x (x :: S) = S := by
        unfold pout
        rw [List.filter_cons, if_neg (by simp)]
        exact List.filter_eq_self.2 (fun y hy => by simpa using fun e => (p.1 y hy).1 e.symm)
      rw [e1, e2]
    · have e2 : pout x (z :: S) = z :: pout x S := by
        unfold pout
        rw [List.filter_cons, if_pos (by simpa using (p.1 x hx).1)]
      have e3 : tot (z :: pout x S) = z.ks.length + tot (pout x S) := by simp [tot]
      rw [e1, e2, e3, ih hx p.2]
      omega

theorem tot_one (x : Part K) : tot [x] = x.ks.length := by simp [tot]
theorem len_le_tot {S : List (Part K)} {x : Part K} (hx : x ∈ S) : x.ks.length ≤ tot S := by
  induction S with
  | nil => cases hx
  | cons z S ih =>
    have e1 : tot (z :: S) = z.ks.length + tot S := by simp [tot]
    rcases List.mem_cons.1 hx with rfl | hx
    · omega
    · have := ih hx; omega

variable [DecidableEq K]

/-- The part in which k stands: its box. -/
def fOf (S : List (Part K)) (k : K) : Option Nat := (S.find? (fun x => decide (k ∈ x.ks))).map (·.q)

theorem fOf_nil (k : K) : fOf ([] : List (Part K)) k = none := rfl
theorem fOf_cons (x : Part K) (S : List (Part K)) (k : K) : fOf (x :: S) k = if k ∈ x.ks then some x.q else fOf S k := by
  unfold fOf
  rw [List.find?_cons]
  by_cases e : k ∈ x.ks
  · rw [if_pos e, decide_eq_true e]; rfl
  · rw [if_neg e, decide_eq_false e]
theorem fOf_none {S : List (Part K)} {k : K} : fOf S k = none ↔ ∀ x ∈ S, k ∉ x.ks := by
  unfold fOf
  rw [Option.map_eq_none_iff, List.find?_eq_none]
  simp
theorem fOf_append (S T : List (Part K)) (k : K) : fOf (S ++ T) k = (fOf S k).or (fOf T k) := by
  induction S with
  | nil => simp [fOf_nil]
  | cons x S ih =>
    rw [List.cons_append, fOf_cons, fOf_cons, ih]
    split <;> simp
theorem fOf_some {ok : K → Prop} {S : List (Part K)} (h : Fam lt ok S) {x : Part K} (hx : x ∈ S) {k : K} (hk : k ∈ x.ks) : fOf S k = some x.q := by
  have hp := h.apart
  clear h
  induction S with
  | nil => cases hx
  | cons y S ih =>
    rw [fOf_cons]
    have p := List.pairwise_cons.1 hp
    rcases List.mem_cons.1 hx with rfl | hx
    · rw [if_pos hk]
    · rw [if_neg (fun e => (p.1 x hx).2.2 k e hk)]
      exact ih hx p.2
theorem fOf_mem {S : List (Part K)} {k : K} {q : Nat} (h : fOf S k = some q) : ∃ x ∈ S, k ∈ x.ks ∧ x.q = q := by
  unfold fOf at h
  rw [Option.map_eq_some_iff] at h
  obtain ⟨x, hx, rfl⟩ := h
  exact ⟨x, List.mem_of_find?_eq_some hx, by simpa using List.find?_some hx, rfl⟩

theorem fOf_without {ok : K → Prop} {S : List (Part K)} (h : Fam lt ok S) {x : Part K} (hx : x ∈ S) (k : K) : fOf (pout x S) k = if k ∈ x.ks then none else fOf S k := by
  by_cases e : k ∈ x.ks
  · rw [if_pos e, fOf_none]
    intro z hz hk
    obtain ⟨h1, h2⟩ := mem_pout.1 hz
    rcases h.of hx h1 with rfl | ha
    · exact h2 rfl
    · exact ha.2.2 k e hk
  · rw [if_neg e]
    cases hf : fOf S k with
    | none =>
      rw [fOf_none] at hf ⊢
      exact fun z hz => hf z (mem_pout.1 hz).1
    | some q =>
      obtain ⟨y, hy, hk, rfl⟩ := fOf_mem hf
      refine fOf_some (h.pout x) (mem_pout.2 ⟨hy, fun e2 => ?_⟩) hk
      rcases h.of hx hy with rfl | ha
      · exact e hk
      · exact ha.1 e2.symm
theorem fOf_one (x : Part K) (k : K) : fOf [x] k = if k ∈ x.ks then some x.q else none := by rw [fOf_cons, fOf_nil]
end
end

section
open Go.RowKit Go.Maps
def klN : Int → Lit := fun k => Lit.int .i64 k
def okN : Int → Prop := fun k => (Lit.int .i64 k).wf = true
theorem kitN : KeyKit Int 3 (Value.int .i64) klN okN := ⟨int_keyed Tryz.underlying3, fun _ hk => keyOf_int_mk Tryz.underlying3 hk, fun k => by simp [klN, WideAt.IsKeyLit], fun a b h => by simpa [klN] using h⟩
theorem zeroN (w : World) : (zeroValue 95).run Tryz.prog w = .ok (.pointer none) w := by kernel_rfl

theorem infoN : ∃ i, Tryz.prog.info? 97 = some i ∧ i.size ≠ 0 := by
  have h : (Tryz.prog.info? 97).map (·.size) = some 1 := by kernel_rfl
  rw [Option.map_eq_some_iff] at h
  obtain ⟨i, h1, h2⟩ := h
  exact ⟨i, h1, by omega⟩

/-- A part in memory. -/
structure RowN (w : World) (x : Part Int) : Prop where
  box : w.heap[x.q]? = some (.cells #[x.v] 97 (0, 0))
  row : w.ownsRow 0 3 1 x.v x.ks.length (x.ks.map (Value.int .i64))

/-- At p stand parts; their map in the block m. -/
structure PAtN (w : World) (p m : Nat) (S : List (Part Int)) : Prop where
  box : w.heap[p]? = some (.cells #[.map (some m)] 85 (0, 0))
  rows : ∀ x ∈ S, RowN w x
  fam : Fam ltN okN S
  map : MapFn 3 klN okN w m (fOf S) (tot S)

def FootN (p m : Nat) (S : List (Part Int)) (k : Nat) : Prop := k = p ∨ k = m ∨ ∃ x ∈ S, k = x.q ∨ x.v.ownBlock = some k

theorem RowN.kept {w w' : World} {x : Part Int} (h : RowN w x) (h1 : w'.heap[x.q]? = w.heap[x.q]?) (h2 : ∀ b, x.v.ownBlock = some b → w'.heap[b]? = w.heap[b]?) : RowN w' x := by
  refine ⟨h1.trans h.box, h.row.1, ?_⟩
  rcases h.row.2 with hn | ⟨g, cap, cur, e, hb, hgg, rest⟩
  · exact .inl hn
  · exact .inr ⟨g, cap, cur, e, hb, (h2 g (by rw [e]; rfl)).trans hgg, rest⟩

theorem RowN.lt {w : World} {x : Part Int} (h : RowN w x) : x.q < w.heap.size ∧ ∀ b, x.v.ownBlock = some b → b < w.heap.size :=
  ⟨(Array.getElem?_eq_some_iff.1 h.box).1, fun b hb => (h.row.lt b hb).2⟩

theorem PAtN.lt {w : World} {p m : Nat} {S : List (Part Int)} (h : PAtN w p m S) {k : Nat} (hk : FootN p m S k) : k < w.heap.size := by
  rcases hk with rfl | rfl | ⟨x, hx, rfl | hk⟩
  · exact (Array.getElem?_eq_some_iff.1 h.box).1
  · exact h.map.lt
  · exact (h.rows x hx).lt.1
  · exact (h.rows x hx).lt.2 k hk

theorem PAtN.kept {w w' : World} {p m : Nat} {S : List (Part Int)} (h : PAtN w p m S) (hk : ∀ k, FootN p m S k → w'.heap[k]? = w.heap[k]?) : PAtN w' p m S :=
  ⟨(hk p (.inl rfl)).trans h.box, fun x hx => (h.rows x hx).kept (hk _ (.inr (.inr ⟨x, hx, .inl rfl⟩))) (fun b hb => hk b (.inr (.inr ⟨x, hx, .inr hb⟩))), h.fam, h.map.kept (hk m (.inr (.inl rfl)))⟩

theorem PAtN.below {w w' : World} {p m : Nat} {S : List (Part Int)} (h : PAtN w p m S) (hb : Below w.heap.size w w') : PAtN w' p m S := h.kept (fun _ hk => hb.block _ (h.lt hk))

/-- Where a part's things lie. -/
theorem RowN.some_ {w : World} {x : Part Int} (h : RowN w x) (hn : x.ks ≠ []) : ∃ g c, x.v = .slice (some ⟨g, 0, none⟩) x.ks.length c ∧ x.ks.length ≤ c ∧ c ≤ maxLen ∧ (∃ cur, w.heap[g]? = some (.cells cur 3 (0, 0))) ∧
    (∀ o, w.frozen? ⟨g, o, none⟩ = false) ∧ ∀ j, j < x.ks.length → w.cell? ⟨g, j, none⟩ = some ((Value.int .i64) (x.ks.getD j (0 : Int))) := by
  rcases h.row.2 with ⟨-, h3⟩ | ⟨g, cap, cur, e, -, hg, hc, hm, -⟩
  · exact absurd (List.eq_nil_of_length_eq_zero h3) hn
  · refine ⟨g, cap, e, hc, hm, ⟨cur, hg⟩, fun o => frozen_of_row w g o _ _ hg, fun j hj => ?_⟩
    have := h.row.cells (g := g) (by rw [e]; rfl) j ((Value.int .i64) (x.ks.getD j (0 : Int))) (by simp [List.getD, hj])
    rwa [show (⟨g, 0, none⟩ : Addr).add j = ⟨g, j, none⟩ by unfold Addr.add; split <;> simp_all] at this

/-- The blocks are what they are: no two kinds are one. -/
theorem PAtN.kinds {w : World} {p m : Nat} {S : List (Part Int)} (h : PAtN w p m S) : p ≠ m ∧ ∀ x ∈ S, x.q ≠ p ∧ x.q ≠ m ∧ ∀ b, x.v.ownBlock = some b → b ≠ p ∧ b ≠ m ∧ ∀ y ∈ S, b ≠ y.q := by
  obtain ⟨D, ⟨es, clock, hm, -⟩, -⟩ := h.map
  refine ⟨fun e => ?_, fun x hx => ⟨fun e => ?_, fun e => ?_, fun b hb => ?_⟩⟩
  · have := h.box; rw [e, hm] at this; cases this
  · have := (h.rows x hx).box; rw [e, h.box] at this; simp at this
  · have := (h.rows x hx).box; rw [e, hm] at this; cases this
  · obtain ⟨g, c, e, -, -, ⟨cur, hg⟩, -⟩ := (h.rows x hx).some_ (h.fam.some_ x hx)
    rw [e] at hb
    simp [Value.ownBlock] at hb
    subst hb
    refine ⟨fun e => ?_, fun e => ?_, fun y hy e => ?_⟩
    · rw [e, h.box] at hg; simp at hg
    · rw [e, hm] at hg; cases hg
    · rw [e, (h.rows y hy).box] at hg; simp at hg

theorem PAtN.cell {w : World} {p m : Nat} {S : List (Part Int)} (h : PAtN w p m S) : w.cell? ⟨p, 0, none⟩ = some (.map (some m)) := by
  rw [cell_of_row w p _ _ _ _ h.box]; rfl
theorem RowN.cell {w : World} {x : Part Int} (h : RowN w x) : w.cell? ⟨x.q, 0, none⟩ = some x.v ∧ ∀ o, w.frozen? ⟨x.q, o, none⟩ = false := by
  refine ⟨?_, fun o => frozen_of_row w _ o _ _ h.box⟩
  rw [cell_of_row w _ _ _ _ _ h.box]; rfl

/-- Pointers of two parts. -/
theorem PAtN.eql {w : World} {p m : Nat} {S : List (Part Int)} (h : PAtN w p m S) {x y : Part Int} (hx : x ∈ S) (hy : y ∈ S) : (binOp .eql 95 (.pointer (some ⟨x.q, 0, none⟩)) (.pointer (some ⟨y.q, 0, none⟩))).run Tryz.prog w = .ok (.bool (decide (x.q = y.q))) w := by
  obtain ⟨i, hi, hs⟩ := infoN
  exact eql_ptr Tryz.underlying95 hi hs w (h.rows x hx).box (h.rows y hy).box

theorem PAtN.look {w : World} {p m : Nat} {S : List (Part Int)} (h : PAtN w p m S) (k : Int) (hk : okN k) : (Instr.lookup 83 (.map (some m)) ((Value.int .i64) k) false).run Tryz.prog w = .ok (ptr (fOf S k)) w :=
  h.map.look kitN Tryz.underlying83 zeroN k hk
end

section
open Go.RowKit Go.Maps
set_option maxHeartbeats 400000 in
theorem newN (w : World) : Calls Tryz.prog 21 #[] w fun e w' => ∃ p m, e = .returned (.pointer (some ⟨p, 0, none⟩)) ∧ Hid (PAtN w' p m [] ∧ Below w.heap.size w w' ∧ w.heap.size ≤ p ∧ w.heap.size ≤ m) := by
  have hmm := @run_makeMap Tryz.prog
  have HA : Hid (PAtN ((w.alloc (.map #[] 0)).alloc (.cells #[.map (some w.heap.size)] 85)) (w.heap.size + 1) w.heap.size [] ∧ Below w.heap.size w ((w.alloc (.map #[] 0)).alloc (.cells #[.map (some w.heap.size)] 85))) := by
    refine ⟨⟨?_, fun x hx => by simp at hx, ⟨fun x hx => by simp at hx, fun x hx => by simp at hx, fun x hx => by simp at hx, .nil⟩, ?_⟩, ((Below.refl _ _).alloc (Nat.le_refl _) _).alloc (by simp) _⟩
    · have := heap_alloc_new (w.alloc (.map #[] 0)) (.cells #[.map (some w.heap.size)] 85)
      simpa using this
    · refine MapFn.congr (f := fun _ => none) ?_ (fun k _ => fOf_nil k)
      exact (mapFn_made (kt := 3) (kl := klN) (ok := okN) w).kept (((Below.refl _ (w.alloc (.map #[] 0))).alloc (Nat.le_refl _) _).block _ (by simp))
  go_enter Tryz.func21, Tryz.ntmps21
  go_wp2_with fail
  go_ret
  exact ⟨_, _, rfl, (unhide HA).1, (unhide HA).2, by omega, Nat.le_refl _⟩

set_option maxHeartbeats 400000 in
set_option maxHeartbeats 400000 in
theorem headNoN {p m : Nat} {S : List (Part Int)} (k : Int) (w : World) (h : PAtN w p m S) (hk : okN k) (hno : ∀ x ∈ S, k ∉ x.ks) : Calls Tryz.prog 45 #[.pointer (some ⟨p, 0, none⟩), (Value.int .i64) k] w fun e w' => e = .returned (.tuple #[(Value.int .i64 0), .bool false]) ∧ w' = w := by
  have c1 := h.cell
  have hl := h.look k hk
  rw [fOf_none.2 hno] at hl
  simp only [ptr] at hl
  clear h
  go_enter Tryz.func45, Tryz.ntmps45
  go_wp2_with fail
  go_ret2
  exact ⟨rfl, rfl⟩

set_option maxHeartbeats 400000 in
theorem headN {p m : Nat} {S : List (Part Int)} {x : Part Int} (k : Int) (w : World) (h : PAtN w p m S) (hx : x ∈ S) (hk : k ∈ x.ks) : Calls Tryz.prog 45 #[.pointer (some ⟨p, 0, none⟩), (Value.int .i64) k] w fun e w' => e = .returned (.tuple #[(Value.int .i64) (x.ks.headD (0 : Int)), .bool true]) ∧ w' = w := by
  have c1 := h.cell
  have hl := h.look k (h.fam.keys x hx k hk)
  rw [fOf_some h.fam hx hk] at hl
  simp only [ptr] at hl
  obtain ⟨g, c, e, -, -, -, -, hc⟩ := (h.rows x hx).some_ (h.fam.some_ x hx)
  have c2 := (h.rows x hx).cell.1
  have hpos : 0 < x.ks.length := List.length_pos_iff.2 (h.fam.some_ x hx)
  have c3 := hc 0 hpos
  rw [show x.ks.getD 0 (0 : Int) = x.ks.headD (0 : Int) by cases x.ks <;> rfl] at c3
  rw [e] at c2
  have hz : (0 : Int) < (x.ks.length : Int) := by omega
  generalize x.ks.headD (0 : Int) = hd at *
  generalize x.ks.length = L at *
  generalize x.q = q at *
  clear h hc
  go_enter Tryz.func45, Tryz.ntmps45
  go_wp2_with fail
  go_ret2
  exact ⟨rfl, rfl⟩

set_option maxHeartbeats 1000000 in
theorem sameN {p m : Nat} {S : List (Part Int)} (a b : Int) (w : World) (h : PAtN w p m S) (ha : okN a) (hb : okN b) : Calls Tryz.prog 46 #[.pointer (some ⟨p, 0, none⟩), (Value.int .i64) a, (Value.int .i64) b] w fun e w' => e = .returned (.bool ((fOf S a).isSome && fOf S a == fOf S b)) ∧ w' = w := by
  have c1 := h.cell
  have hl := h.look a ha
  have hl2 := h.look b hb
  have HEQ : Hid (∀ x y, fOf S a = some x → fOf S b = some y → (binOp .eql 95 (.pointer (some ⟨x, 0, none⟩)) (.pointer (some ⟨y, 0, none⟩))).run Tryz.prog w = .ok (.bool (decide (x = y))) w) := fun x y h1 h2 => by
    obtain ⟨x', hx, -, rfl⟩ := fOf_mem h1
    obtain ⟨y', hy, -, rfl⟩ := fOf_mem h2
    exact h.eql hx hy
  clear h
  cases hfa : fOf S a with
  | none =>
    rw [hfa] at hl
    simp only [ptr] at hl
    go_enter Tryz.func46, Tryz.ntmps46
    go_wp2_with fail
    go_ret
    exact ⟨rfl, rfl⟩
  | some x =>
    rw [hfa] at hl
    simp only [ptr] at hl
    cases hfb : fOf S b with
    | none =>
      rw [hfb] at hl2
      simp only [ptr] at hl2
      go_enter Tryz.func46, Tryz.ntmps46
      go_wp2_with fail
      go_ret
      exact ⟨rfl, rfl⟩
    | some y =>
      rw [hfb] at hl2
      simp only [ptr] at hl2
      have heq := unhide HEQ x y hfa hfb
      go_enter Tryz.func46, Tryz.ntmps46
      go_wp2_with fail
      go_ret
      exact ⟨by by_cases e : x = y <;> simp [e], rfl⟩
end

end Go.Proofs.YtkmhcgmmbkchaaaGreat
