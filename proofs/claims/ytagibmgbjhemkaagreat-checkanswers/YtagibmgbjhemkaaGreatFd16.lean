/- Rows of records in memory, whatever a record's cells are; bytes, numbers; what is read of a slice that lies anywhere. -/
import Derived.Test.YtagibmgbjhemkaaGreatTail
import Derived.Test.YtagibmgbjhemkaaGreatLaws2
import Derived.Lib.AppendZeros
import Derived.Lib.OwnBridge
import Derived.Deep.Cut
import Derived.Deep.CutRange
import Derived.Deep.LoopGhost
import Derived.Laws.ResultCell
import Derived.Laws.OwnMore
namespace Go.Proofs.YtagibmgbjhemkaaGreat.W16
open Go.RowKit Go.Maps
theorem turned_drew {S : Nat → Prop} (w : World) : Turned S w w.drew := ⟨rfl, rfl, rfl, Nat.le_refl _, fun _ _ _ => rfl⟩
theorem below_new (w : World) (o : Obj) : Below w.heap.size w (w.alloc o) := (Below.refl _ _).alloc (Nat.le_refl _) _
theorem turned_alloc {S : Nat → Prop} (w : World) (o : Obj) : Turned S w (w.alloc o) := turned_of_below (below_new w o)
theorem heap_lt {w : World} {b : Nat} {o : Obj} (h : w.heap[b]? = some o) : b < w.heap.size := (Array.getElem?_eq_some_iff.1 h).1
theorem own_eq {g n c b : Nat} (e : (Value.slice (some ⟨g, 0, none⟩) n c).ownBlock = some b) : g = b := by injection e
theorem cell_lt {w : World} {x : Addr} {v : Value} (h : w.cell? x = some v) : x.block < w.heap.size := by
  unfold World.cell? at h
  cases hb : w.heap[x.block]? with
  | none => rw [hb] at h; cases h
  | some o => exact heap_lt hb
/-- How a record lies: so many cells, each of one value. -/
structure Kit (X : Type) (k : Nat) (enc : X → List Value) : Prop where
  pos : 0 < k
  len : ∀ x, (enc x).length = k
  one : ∀ x, ∀ v ∈ enc x, v.oneCell' = true
abbrev RRow {X : Type} (t : TypeId) (k : Nat) (enc : X → List Value) (B : Nat) (w : World) (v : Value) (xs : List X) : Prop := w.ownsRow B t k v xs.length (xs.flatMap enc)
section
variable {X : Type} {t : TypeId} {k : Nat} {enc : X → List Value} {B : Nat} {w w' : World} {v : Value} {xs : List X}
theorem flat_len (K : Kit X k enc) : ∀ xs : List X, (xs.flatMap enc).length = xs.length * k
  | [] => by simp
  | x :: xs => by rw [List.flatMap_cons, List.length_append, K.len, flat_len K xs, List.length_cons, Nat.add_mul]; omega
theorem flat_at (K : Kit X k enc) : ∀ {xs : List X} {i : Nat} {x : X}, xs[i]? = some x → ∀ {j : Nat}, j < k → (xs.flatMap enc)[i * k + j]? = (enc x)[j]?
  | [], i, x, h, j, _ => by simp at h
  | y :: xs, 0, x, h, j, hj => by
    injection h with h
    subst h
    rw [List.flatMap_cons, Nat.zero_mul, Nat.zero_add, List.getElem?_append_left (by rw [K.len]; exact hj)]
  | y :: xs, i + 1, x, h, j, hj => by
    rw [List.flatMap_cons, List.getElem?_append_right (by rw [K.len, Nat.add_mul]; omega), K.len, show (i + 1) * k + j - k = i * k + j by rw [Nat.add_mul]; omega]
    exact flat_at K (by simpa using h) hj
theorem flat_one (K : Kit X k enc) (xs : List X) : ∀ v ∈ xs.flatMap enc, v.oneCell' = true := fun v hv => by
  obtain ⟨x, -, h⟩ := List.mem_flatMap.1 hv
  exact K.one x v h
theorem rrow_kept (h : RRow t k enc B w v xs) (hk : ∀ b, v.ownBlock = some b → w'.heap[b]? = w.heap[b]?) : RRow t k enc B w' v xs := by
  refine ⟨h.1, ?_⟩
  rcases h.2 with hn | ⟨g, cap, cur, e, hb, hgg, rest⟩
  · exact .inl hn
  · exact .inr ⟨g, cap, cur, e, hb, (hk g (by rw [e]; rfl)).trans hgg, rest⟩
theorem rrow_below (h : RRow t k enc B w v xs) (hb : Below w.heap.size w w') : RRow t k enc B w' v xs := rrow_kept h (fun b e => hb.block b (h.lt b e).2)
theorem rrow_low {B' : Nat} (h : RRow t k enc B' w v xs) (hb : B ≤ B') : RRow t k enc B w v xs := ⟨h.1, h.2.imp id (fun ⟨g, cap, cur, e, q, r⟩ => ⟨g, cap, cur, e, Nat.le_trans hb q, r⟩)⟩
theorem rrow_shape (h : RRow t k enc B w v xs) : ∃ a c, v = .slice a xs.length c := by
  rcases h.2 with ⟨e, h0⟩ | ⟨g', cap, cur, e, -⟩
  · exact ⟨none, 0, by rw [h0]; exact e⟩
  · exact ⟨_, _, e⟩
theorem add_off13 (b off j : Nat) : (⟨b, off, none⟩ : Addr).add j = ⟨b, off + j, none⟩ := by
  unfold Addr.add; split <;> simp_all
/-- Records appended from wherever they lie. -/
theorem run_appR (K : Kit X k enc) {ts : TypeId} {z : Value} {bytes : Nat} (hu : Tryz.prog.underlying ts = some (.slice t)) (hinfo : (Tryz.prog.info? t).map (fun i => (i.zero, i.size, i.bytes)) = some (some z, k, bytes)) (hz0 : z.cells.size = k) (hby : bytes ≤ 1000) {ys : List X} {ad : Addr} {c : Nat} (h : RRow t k enc B w v xs) (hB : B ≤ w.heap.size) (hcell : ∀ j u, (ys.flatMap enc)[j]? = some u → w.cell? (ad.add j) = some u) (hl : xs.length + ys.length ≤ 1000000) :
    ∃ a' n' c' w', (∀ ty, (Builtin.append_ #[ts, ts] ty #[v, .slice (some ad) ys.length c]).run Tryz.prog w = .ok (.slice a' n' c') w') ∧ RRow t k enc B w' (.slice a' n' c') (xs ++ ys) ∧ Turned (fun b => v.ownBlock = some b) w w' ∧ ∀ b, (Value.slice a' n' c').ownBlock = some b → v.ownBlock = some b ∨ w.heap.size ≤ b := by
  obtain ⟨i, hi, hz, hsz, hb⟩ := info_parts hinfo
  have hmul : (xs.length + ys.length) * bytes ≤ 1000000 * 1000 := Nat.mul_le_mul hl hby
  obtain ⟨v', w', hr, g1, g2, -, g5⟩ := run_append_own_at (P := Tryz.prog) w B ts 0 t i _ k bytes hu hi hz hsz hb hz0 K.pos v xs.length (xs.flatMap enc) h ad ys.length c (ys.flatMap enc) (flat_len K ys) hcell (flat_one K ys) (by unfold maxLen; omega) (by omega) hB
  have e2 : xs.length + ys.length = (xs ++ ys).length := by simp
  rw [← List.flatMap_append, e2] at g1
  have g1' : RRow t k enc B w' v' (xs ++ ys) := g1
  obtain ⟨a', c', e⟩ := rrow_shape g1'
  subst e
  refine ⟨a', _, c', w', fun ty => hr, g1', ⟨g2.os, g2.tape, g2.output, g2.size, fun k hk hn => g2.block k hk (fun e => hn e.symm)⟩, fun b eb => ?_⟩
  rcases g5 with q | q
  · exact .inl (by rw [← q]; exact eb)
  · have eb2 := Option.some.inj (q.symm.trans eb); exact .inr (by omega)
/-- One record, out of a block of its own. -/
theorem run_app1 (K : Kit X k enc) {ts : TypeId} {z : Value} {bytes : Nat} (hu : Tryz.prog.underlying ts = some (.slice t)) (hinfo : (Tryz.prog.info? t).map (fun i => (i.zero, i.size, i.bytes)) = some (some z, k, bytes)) (hz0 : z.cells.size = k) (hby : bytes ≤ 1000) (y : X) {cs : Array Value} (hcs : cs.toList = enc y) (h : RRow t k enc B w v xs) (hB : B ≤ w.heap.size) (hl : xs.length < 1000000) :
    ∃ a' n' c' w', (∀ ty, (Builtin.append_ #[ts, ts] ty #[v, .slice (some ⟨w.heap.size, 0, none⟩) 1 1]).run Tryz.prog (w.alloc (.cells cs t)) = .ok (.slice a' n' c') w') ∧ RRow t k enc B w' (.slice a' n' c') (xs ++ [y]) ∧ Turned (fun b => v.ownBlock = some b) w w' ∧ ∀ b, (Value.slice a' n' c').ownBlock = some b → v.ownBlock = some b ∨ w.heap.size ≤ b := by
  have hb := below_new w (.cells cs t)
  have hs := hb.size
  obtain ⟨a', n', c', w', r, g1, g2, g3⟩ := run_appR (ad := ⟨w.heap.size, 0, none⟩) (c := 1) (ys := [y]) K hu hinfo hz0 hby (rrow_below h hb) (by omega) (fun j u hj => by
    rw [add_off13, Nat.zero_add, cell_of_row _ _ j _ _ (0, 0) (heap_alloc_new w (.cells cs t))]
    rw [List.flatMap_cons, List.flatMap_nil, List.append_nil, ← hcs] at hj
    rw [← hj]; simp) (by simp; omega)
  exact ⟨a', n', c', w', r, g1, ⟨g2.os.trans hb.os, g2.tape.trans hb.tape, g2.output.trans hb.output, Nat.le_trans hs g2.size, fun k h1 hk => (g2.block k (by omega) hk).trans (hb.block k h1)⟩, fun b e => (g3 b e).imp id (fun q => by omega)⟩
end

/-! bytes, numbers -/
def encB (x : Nat) : List Value := [.int .u8 (x : Nat)]
theorem kitB : Kit Nat 1 encB := ⟨by omega, fun _ => rfl, fun x v hv => by simp [encB] at hv; rcases hv with rfl; rfl⟩
abbrev ByRow (B : Nat) (w : World) (v : Value) (bs : List Nat) : Prop := RRow 5 1 encB B w v bs
theorem infoB : (Tryz.prog.info? 5).map (fun i => (i.zero, i.size, i.bytes)) = some (some (.int .u8 0), 1, 1) := by kernel_rfl
def encN (x : Int) : List Value := [.int .i64 x]
theorem kitN : Kit Int 1 encN := ⟨by omega, fun _ => rfl, fun x v hv => by simp [encN] at hv; rcases hv with rfl; rfl⟩
abbrev NRow (B : Nat) (w : World) (v : Value) (ks : List Int) : Prop := RRow 3 1 encN B w v ks
/-- A slice, wherever it lies, of these one-celled things. -/
def Lies {X : Type} (f : X → Value) (w : World) (v : Value) (xs : List X) : Prop :=
  ∃ a c, v = .slice a xs.length c ∧ xs.length ≤ c ∧ (a = none → c = 0) ∧ (xs = [] ∨ ∃ b off, a = some ⟨b, off, none⟩ ∧ ∀ (i : Nat) (x : X), xs[i]? = some x → w.cell? ⟨b, off + i, none⟩ = some (f x))
abbrev u8v (x : Nat) : Value := .int .u8 (x : Nat)
abbrev i64v (x : Int) : Value := .int .i64 x
section
variable {X : Type} {f : X → Value} {w w' : World} {v : Value} {xs : List X}
theorem lies_below (h : Lies f w v xs) (hb : Below w.heap.size w w') : Lies f w' v xs := by
  obtain ⟨a, c, e, h1, h2, h3⟩ := h
  refine ⟨a, c, e, h1, h2, h3.imp id ?_⟩
  rintro ⟨b, off, ea, h⟩
  exact ⟨b, off, ea, fun i x hx => (cell_of_heap (hb.block _ (cell_lt (h i x hx)))).trans (h i x hx)⟩
theorem lies_turned {S : Nat → Prop} (h : Lies f w v xs) (ht : Turned S w w') (hs : ∀ b, v.ownBlock = some b → ¬ S b) : Lies f w' v xs := by
  obtain ⟨a, c, rfl, h1, h2, h3⟩ := h
  refine ⟨a, c, rfl, h1, h2, h3.imp id ?_⟩
  rintro ⟨b, off, rfl, h⟩
  exact ⟨b, off, rfl, fun i x hx => (cell_of_heap (ht.block _ (cell_lt (h i x hx)) (hs b rfl))).trans (h i x hx)⟩
theorem lies_at {a : Option Addr} {n c : Nat} (h : Lies f w (.slice a n c) xs) {i : Nat} {x : X} (hx : xs[i]? = some x) : ∃ b off, a = some ⟨b, off, none⟩ ∧ w.cell? ⟨b, off + i, none⟩ = some (f x) := by
  obtain ⟨a', c', e, -, -, h3⟩ := h
  injection e with e1
  subst e1
  rcases h3 with h3 | ⟨b, off, rfl, h⟩
  · rw [h3] at hx; cases hx
  · exact ⟨b, off, rfl, h i x hx⟩
theorem lies_shape (h : Lies f w v xs) : ∃ a c, v = .slice a xs.length c := by
  obtain ⟨a, c, e, -⟩ := h
  exact ⟨a, c, e⟩
theorem lies_len {a : Option Addr} {n c : Nat} (h : Lies f w (.slice a n c) xs) : n = xs.length ∧ n ≤ c := by
  obtain ⟨a', c', e, h1, -⟩ := h
  injection e with e1 e2 e3
  subst e2 e3
  exact ⟨rfl, h1⟩
theorem lies_of_row {t : TypeId} {enc : X → List Value} {B : Nat} (hf : ∀ x, enc x = [f x]) (h : RRow t 1 enc B w v xs) : Lies f w v xs := by
  obtain ⟨h1, h2⟩ := h
  have hfl : ∀ (xs : List X) (i : Nat) (x : X), xs[i]? = some x → (xs.flatMap enc)[i]? = some (f x) := by
    intro xs
    induction xs with
    | nil => intro i x h; cases h
    | cons y ys ih =>
      intro i x h
      rw [List.flatMap_cons, hf y]
      cases i with
      | zero => injection h with h; subst h; rfl
      | succ i => exact ih i x (by simpa using h)
  have h0 : w.ownsRow B t 1 v xs.length (xs.flatMap enc) := ⟨h1, h2⟩
  rcases h2 with ⟨rfl, h3⟩ | ⟨g, cap, cur, rfl, -, hg, hc, -⟩
  · obtain rfl : xs = [] := List.eq_nil_of_length_eq_zero h3
    exact ⟨none, 0, rfl, Nat.le_refl _, fun _ => rfl, .inl rfl⟩
  · refine ⟨_, cap, rfl, hc, (fun e => by cases e), .inr ⟨g, 0, rfl, fun i x hx => ?_⟩⟩
    have := h0.cells (g := g) rfl i _ (hfl xs i x hx)
    rwa [add_off13] at this
end
theorem byrow_lies {B : Nat} {w : World} {v : Value} {bs : List Nat} (h : ByRow B w v bs) : Lies u8v w v bs := lies_of_row (fun _ => rfl) h
theorem nrow_lies {B : Nat} {w : World} {v : Value} {ks : List Int} (h : NRow B w v ks) : Lies i64v w v ks := lies_of_row (fun _ => rfl) h
/-- An empty list appended. -/
theorem run_append_nil {ts t : TypeId} {z : Value} {k bytes : Nat} (hu : Tryz.prog.underlying ts = some (.slice t)) (hinfo : (Tryz.prog.info? t).map (fun i => (i.zero, i.size, i.bytes)) = some (some z, k, bytes)) (w : World) (base : Option Addr) (l c : Nat) (hlc : l ≤ c) (a2 : Option Addr) (c2 : Nat) (ty : TypeId) :
    (Builtin.append_ #[ts, ts] ty #[.slice base l c, .slice a2 0 c2]).run Tryz.prog w = .ok (.slice base l c) w := by
  obtain ⟨i, hi, hz, hs, hb⟩ := info_parts hinfo
  cases base <;> cases a2 <;> simp [Builtin.append_, run_underlying hu, sizeOf, typeInfo, hi, Builtin.lenOf, Builtin.firstCells, hlc, storeCells, loadCells, loadCellsFrom, Sem.run_pure, Result.andThen]
theorem rrow_room {X : Type} {t : TypeId} {k : Nat} {enc : X → List Value} {B : Nat} {w : World} {v : Value} {xs : List X} (h : RRow t k enc B w v xs) : ∃ a c, v = .slice a xs.length c ∧ xs.length ≤ c := by
  rcases h.2 with ⟨e, h0⟩ | ⟨g', cap, cur, e, -, -, hc, -⟩
  · exact ⟨none, 0, by rw [e, h0], by omega⟩
  · exact ⟨_, _, e, hc⟩
/-- A list appended, wherever it lies. -/
theorem run_appL {X : Type} {f : X → Value} {enc : X → List Value} {ts t : TypeId} {z : Value} {bytes B : Nat} {w : World} {v v2 : Value} {xs ys : List X} (K : Kit X 1 enc) (hf : ∀ x, enc x = [f x]) (hu : Tryz.prog.underlying ts = some (.slice t)) (hinfo : (Tryz.prog.info? t).map (fun i => (i.zero, i.size, i.bytes)) = some (some z, 1, bytes)) (hz0 : z.cells.size = 1) (h : RRow t 1 enc B w v xs) (hB : B ≤ w.heap.size) (h2 : Lies f w v2 ys) (hl : xs.length + ys.length ≤ maxLen) (hby : (xs.length + ys.length) * bytes ≤ 140737488355328) :
    ∃ a' n' c' w', (∀ ty, (Builtin.append_ #[ts, ts] ty #[v, v2]).run Tryz.prog w = .ok (.slice a' n' c') w') ∧ RRow t 1 enc B w' (.slice a' n' c') (xs ++ ys) ∧ Turned (fun b => v.ownBlock = some b) w w' ∧ ∀ b, (Value.slice a' n' c').ownBlock = some b → v.ownBlock = some b ∨ w.heap.size ≤ b := by
  obtain ⟨a2, c2, rfl, h3, h4, h5⟩ := h2
  rcases h5 with rfl | ⟨b, off, rfl, hc⟩
  · obtain ⟨a, c, rfl, hlc⟩ := rrow_room h
    exact ⟨a, _, c, w, fun ty => run_append_nil hu hinfo w a _ c hlc a2 c2 ty, by rw [List.append_nil]; exact h, Turned.refl _ _, fun b e => .inl e⟩
  · obtain ⟨i, hi, hz, hsz, hb⟩ := info_parts hinfo
    have hcell : ∀ j u, (ys.flatMap enc)[j]? = some u → w.cell? ((⟨b, off, none⟩ : Addr).add j) = some u := by
      intro j u hj
      have hjl : j < ys.length := by have := (List.getElem?_eq_some_iff.1 hj).1; rw [flat_len K, Nat.mul_one] at this; exact this
      have h1 : (ys.flatMap enc)[j]? = some (f ys[j]) := by
        have := flat_at K (List.getElem?_eq_getElem hjl) (j := 0) (by omega)
        rw [Nat.mul_one, Nat.add_zero, hf] at this
        rw [this]; rfl
      rw [hj] at h1
      cases h1
      rw [add_off13]
      exact hc j _ (List.getElem?_eq_getElem hjl)
    obtain ⟨v', w', hr, g1, g2, -, g5⟩ := run_append_own_at (P := Tryz.prog) w B ts 0 t i _ 1 bytes hu hi hz hsz hb hz0 K.pos v xs.length (xs.flatMap enc) h ⟨b, off, none⟩ ys.length c2 (ys.flatMap enc) (flat_len K ys) hcell (flat_one K ys) hl hby hB
    have e2 : xs.length + ys.length = (xs ++ ys).length := by simp
    rw [← List.flatMap_append, e2] at g1
    have g1' : RRow t 1 enc B w' v' (xs ++ ys) := g1
    obtain ⟨a', c', e⟩ := rrow_shape g1'
    subst e
    refine ⟨a', _, c', w', fun ty => hr, g1', ⟨g2.os, g2.tape, g2.output, g2.size, fun k hk hn => g2.block k hk (fun e => hn e.symm)⟩, fun b eb => ?_⟩
    rcases g5 with q | q
    · exact .inl (by rw [← q]; exact eb)
    · have eb2 := Option.some.inj (q.symm.trans eb); exact .inr (by omega)
abbrev run_appBs {B : Nat} {w : World} {v v2 : Value} {xs ys : List Nat} (h : ByRow B w v xs) (hB : B ≤ w.heap.size) (h2 : Lies u8v w v2 ys) (hl : xs.length + ys.length ≤ 140737488355328) :=
  run_appL (ts := 23) kitB (f := u8v) (fun _ => rfl) Tryz.underlying23 infoB rfl h hB h2 (by unfold maxLen; omega) (by omega)
/-- One byte more. -/
theorem run_app1B {B : Nat} {w : World} {v : Value} {xs : List Nat} (y : Nat) (h : ByRow B w v xs) (hB : B ≤ w.heap.size) (hl : xs.length < 1000000) :
    ∃ a' n' c' w', (∀ ty, (Builtin.append_ #[23, 23] ty #[v, .slice (some ⟨w.heap.size, 0, none⟩) 1 1]).run Tryz.prog (w.alloc (.cells #[.int .u8 (y : Nat)] 5)) = .ok (.slice a' n' c') w') ∧ ByRow B w' (.slice a' n' c') (xs ++ [y]) ∧ Turned (fun b => v.ownBlock = some b) w w' ∧ ∀ b, (Value.slice a' n' c').ownBlock = some b → v.ownBlock = some b ∨ w.heap.size ≤ b :=
  run_app1 kitB Tryz.underlying23 infoB rfl (by omega) y rfl h hB hl
end Go.Proofs.YtagibmgbjhemkaaGreat.W16
