/- Bytes behind bytes: a beginning and anything more; lists that grow beside a box. -/
import Derived.Test.YtffdpfkcfohbiaaL416
namespace Go.Proofs.Ytffdpfkcfohbiaa
open Go.RowKit Go.Maps
theorem dec_app {x : WtV} (h : Good x) (t : List Nat) : dec (encWt x ++ t) = if t = [] then some x else none := by
  obtain ⟨F, T, u, es⟩ := x
  obtain ⟨h1, h2, h3, h4, h5⟩ := h
  simp only at h1 h2 h3 h4 h5
  have e : encWt (F, T, u, es) ++ t = 183 :: (nb F.toNat ++ (nb T.toNat ++ (bb u ++ (nb es.length ++ (encEs es ++ t))))) := by simp [encWt]
  rw [e, dec]
  simp only [if_true]
  rw [rdN0 _ (by omega) (by omega)]
  simp only [Option.bind_some]
  rw [rdN0 _ (by omega) (by omega)]
  simp only [Option.bind_some]
  rw [rdB_bb h4]
  simp only [Option.bind_some]
  rw [rdN0 _ (by omega) (by omega)]
  simp only [Option.bind_some]
  rw [rdE_enc es t h5]
  simp only [Option.bind_some]
  have e1 : ((F.toNat : Nat) : Int) = F := by omega
  have e2 : ((T.toNat : Nat) : Int) = T := by omega
  rw [e1, e2]
theorem dec_take {x : WtV} (h : Good x) {k : Nat} (hk : k < (encWt x).length) : dec ((encWt x).take k) = none := by
  cases hd : dec ((encWt x).take k) with
  | none => rfl
  | some y =>
    obtain ⟨g1, g2⟩ := dec_some (fun z hz => enc_byte x z (List.mem_of_mem_take hz)) hd
    have e : encWt x = encWt y ++ (encWt x).drop k := by rw [g2, List.take_append_drop]
    have h1 := dec_enc h
    rw [e, dec_app g1, if_neg (fun q => by have := congrArg List.length q; simp at this; omega)] at h1
    cases h1
theorem decV_enc {x : WtV} (h : Good x) : decV (encWt x) = (x, 0) := by unfold decV; rw [dec_enc h]
theorem decV_take {x : WtV} (h : Good x) {k : Nat} (hk : k < (encWt x).length) : decV ((encWt x).take k) = ((0, 0, 0, []), 160) := by unfold decV; rw [dec_take h hk]
theorem decV_app {x : WtV} (h : Good x) (t : List Nat) : decV (encWt x ++ t) = if t = [] then (x, 0) else ((0, 0, 0, []), 160) := by
  unfold decV
  rw [dec_app h]
  by_cases e : t = []
  · rw [if_pos e, if_pos e]
  · rw [if_neg e, if_neg e]
theorem rem_of (cut : Int) {vn : Nat} (h : 0 < vn) (h4 : vn ≤ 4000) : ∃ k : Nat, wrap64 ((IntKind.u64.wrap cut).tmod (vn : Int)) = (k : Int) ∧ k < vn := by
  have h0 : 0 ≤ IntKind.u64.wrap cut ∧ IntKind.u64.wrap cut < 18446744073709551616 := by
    unfold IntKind.wrap; simp [IntKind.signed, IntKind.bits]; omega
  obtain ⟨x, hx⟩ := Int.eq_ofNat_of_zero_le h0.1
  rw [hx, Int.tmod_eq_emod_of_nonneg (by omega)]
  have e : ((x : Int) % (vn : Int)) = ((x % vn : Nat) : Int) := by simp
  have hlt := Nat.mod_lt x h
  refine ⟨x % vn, ?_, hlt⟩
  rw [e]
  generalize x % vn = y at *
  unfold wrap64; omega
theorem enc_pos (x : WtV) : 0 < (encWt x).length := by unfold encWt; simp
theorem lies_take {X : Type} {f : X → Value} {w : World} {a : Option Addr} {n c k : Nat} {xs : List X} (h : Lies f w (.slice a n c) xs) (hk : k ≤ n) : Lies f w (.slice a k c) (xs.take k) := by
  obtain ⟨a', c', e, h1, h2, h3⟩ := h
  injection e with e1 e2 e3
  subst e1 e2 e3
  refine ⟨a, c, by rw [List.length_take, Nat.min_eq_left hk], by rw [List.length_take]; omega, h2, ?_⟩
  rcases h3 with rfl | ⟨b, off, rfl, h3⟩
  · exact .inl (by simp)
  · exact .inr ⟨b, off, rfl, fun i x hx => h3 i x (by
      have : i < k := by have := (List.getElem?_eq_some_iff.1 hx).1; rw [List.length_take] at this; omega
      rwa [List.getElem?_take_of_lt this] at hx)⟩
/-- Lists that grow beside a box: whatever comes first. -/
def St (wr : World) (q : Option Nat) (v : Option (Value × List Nat)) (W : World) : Prop :=
  Below wr.heap.size wr W ∧ (∀ k, q = some k → wr.heap.size ≤ k ∧ W.heap[k]? = some (oV 0 0 0 (.slice none 0 0))) ∧ ∀ p, v = some p → ByRow wr.heap.size W p.1 p.2 ∧ ∀ k, q = some k → p.1.ownBlock ≠ some k
section
variable {wr W : World} {q : Option Nat} {v : Option (Value × List Nat)}
theorem st_start (wr : World) : St wr none none wr := ⟨Below.refl _ _, fun k e => (by cases e), fun p e => (by cases e)⟩
theorem St.drew (h : St wr q v W) : St wr q v W.drew := ⟨h.1.drew, h.2.1, h.2.2⟩
theorem St.alloc (h : St wr none v W) : St wr (some W.heap.size) v (W.alloc (oV 0 0 0 (.slice none 0 0))) := by
  have hb := below_new W (oV 0 0 0 (.slice none 0 0))
  refine ⟨h.1.trans (hb.mono h.1.size), fun k e => ?_, fun p e => ⟨rrow_below (h.2.2 p e).1 hb, fun k e2 e3 => ?_⟩⟩
  · injection e with e; subst e; exact ⟨h.1.size, heap_alloc_new _ _⟩
  · injection e2 with e2; subst e2; have := ((h.2.2 p e).1.lt _ e3).2; omega
theorem St.build (h : St wr q none W) : St wr q (some (.slice (some ⟨W.heap.size, 0, none⟩) 0 0, [])) (W.alloc (.cells #[] 5)) := by
  have hb := below_new W (.cells #[] 5)
  refine ⟨h.1.trans (hb.mono h.1.size), fun k e => ⟨(h.2.1 k e).1, (hb.block _ (heap_lt (h.2.1 k e).2)).trans (h.2.1 k e).2⟩, fun p e => ?_⟩
  injection e with e
  subst e
  refine ⟨⟨rfl, .inr ⟨W.heap.size, 0, #[], rfl, h.1.size, heap_alloc_new _ _, Nat.le_refl _, by unfold maxLen; omega, rfl, rfl⟩⟩, fun k e2 e3 => ?_⟩
  have e4 := own_eq e3
  have := heap_lt (h.2.1 k e2).2
  omega
theorem St.app {a : Value} {xs ys : List Nat} {v2 : Value} (h : St wr q (some (a, xs)) W) (hy : Lies u8v wr v2 ys) (hl : xs.length + ys.length ≤ 140737488355328) :
    ∃ a' n' c' W', (∀ ty, (Builtin.append_ #[27, 27] ty #[a, v2]).run Try.prog W = .ok (.slice a' n' c') W') ∧ St wr q (some (.slice a' n' c', xs ++ ys)) W' := by
  obtain ⟨h1, h2, h3⟩ := h
  obtain ⟨h4, h5⟩ := h3 _ rfl
  obtain ⟨a', n', c', W', r, g1, g2, g3⟩ := run_appBs h4 h1.size (lies_below hy h1) hl
  have hlo : ∀ b, a.ownBlock = some b → wr.heap.size ≤ b := fun b e => (h4.lt b e).1
  refine ⟨a', n', c', W', r, h1.trans (g2.below h1.size (fun k e => hlo k e)), fun k e => ⟨(h2 k e).1, (g2.block k (heap_lt (h2 k e).2) (fun e2 => h5 k e e2)).trans (h2 k e).2⟩, fun p e => ?_⟩
  injection e with e
  subst e
  refine ⟨g1, fun k e2 e3 => ?_⟩
  rcases g3 k e3 with e4 | e4
  · exact h5 k e2 e4
  · have := heap_lt (h2 k e2).2; omega
theorem St.own {a : Value} {xs : List Nat} (h : St wr q (some (a, xs)) W) : ∀ g, a.ownBlock = some g → g < W.heap.size := fun g e => ((h.2.2 _ rfl).1.lt g e).2
theorem St.lies {a : Value} {xs : List Nat} (h : St wr q (some (a, xs)) W) : Lies u8v W a xs := byrow_lies (h.2.2 _ rfl).1
/-- Behind the call: what it answered. -/
def Sf (wr : World) (q : Option Nat) (ev : Value) (es : List Int) (W : World) : Prop :=
  Below wr.heap.size wr W ∧ (∀ k, q = some k → wr.heap.size ≤ k ∧ W.heap[k]? = some (oV 0 0 0 (.slice none 0 0))) ∧ NRow wr.heap.size W ev es ∧ ∀ k, q = some k → ev.ownBlock ≠ some k
theorem St.call {W' : World} {ev : Value} {es : List Int} (h : St wr q v W) (hn : NRow W.heap.size W' ev es) (hb : Below W.heap.size W W') : Sf wr q ev es W' :=
  ⟨h.1.trans (hb.mono h.1.size), fun k e => ⟨(h.2.1 k e).1, (hb.block _ (heap_lt (h.2.1 k e).2)).trans (h.2.1 k e).2⟩, rrow_low hn h.1.size, fun k e e2 => by have := (hn.lt k e2).1; have := heap_lt (h.2.1 k e).2; omega⟩
theorem Sf.alloc {ev : Value} {es : List Int} (h : Sf wr none ev es W) : Sf wr (some W.heap.size) ev es (W.alloc (oV 0 0 0 (.slice none 0 0))) := by
  have hb := below_new W (oV 0 0 0 (.slice none 0 0))
  refine ⟨h.1.trans (hb.mono h.1.size), fun k e => ?_, rrow_below h.2.2.1 hb, fun k e e2 => ?_⟩
  · injection e with e; subst e; exact ⟨h.1.size, heap_alloc_new _ _⟩
  · injection e with e; subst e; have := (h.2.2.1.lt _ e2).2; omega
theorem Sf.cells {ev : Value} {es : List Int} {k : Nat} (h : Sf wr (some k) ev es W) : (W.cell? ⟨k, 0, none⟩ = some (.int .i64 0) ∧ W.cell? ⟨k, 1, none⟩ = some (.int .i64 0) ∧ W.cell? ⟨k, 2, none⟩ = some (.int .u32 (0 : Nat)) ∧ W.cell? ⟨k, 3, none⟩ = some (.slice none 0 0)) ∧ W.frozen? ⟨k, 0, none⟩ = false ∧ W.frozen? ⟨k, 1, none⟩ = false ∧ W.frozen? ⟨k, 2, none⟩ = false ∧ W.frozen? ⟨k, 3, none⟩ = false := by
  have hk := (h.2.1 k rfl).2
  exact ⟨oV_cells hk, frozen_of_row _ _ 0 _ _ hk, frozen_of_row _ _ 1 _ _ hk, frozen_of_row _ _ 2 _ _ hk, frozen_of_row _ _ 3 _ _ hk⟩
theorem Sf.fin {ev : Value} {es : List Int} {k : Nat} (h : Sf wr (some k) ev es W) (a b c d : Value) : Below wr.heap.size wr (set4 W k a b c d) :=
  h.1.trans ((set4_turned (S := fun b => b = k) W rfl _ _ _ _).below h.1.size (fun j e => by have := (h.2.1 k rfl).1; omega))
end
end Go.Proofs.Ytffdpfkcfohbiaa
