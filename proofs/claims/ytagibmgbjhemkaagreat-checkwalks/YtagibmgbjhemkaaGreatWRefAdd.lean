/- The reference's Add. -/
import Derived.Test.YtagibmgbjhemkaaGreatRc17
import Derived.Handy
import Derived.Test.YtagibmgbjhemkaaGreatStEasy
import Derived.Laws.FloatArith
import Derived.Deep.QuietTactic
import Derived.BigQuiet
import Derived.Deep.DeepCutAuto
namespace Go.Proofs.YtagibmgbjhemkaaGreat

section
open Go.RowKit Go.Maps
section
variable [Inhabited EntI] {P : List EdgeV → (Nat → Prop) → World → Prop} {w w' w2 : World} {X : Sto} {A A' : Nat → Prop} {n N : Nat} {d : List EdgeV} {Q : EdgeV → Prop} {fv : Value}
set_option maxHeartbeats 2000000 in
set_option maxRecDepth 100000 in
theorem alongR (hF : StepFn fv N Q P) (from_ : Int) {ev : Value} {es : List Int} {m : Nat} (h : MidR P w X A m 0 [] A w) (hr : SRow w ev es) (hok : ∀ e ∈ es, okN e) (hl : es.length ≤ N) (hN : N ≤ 100000) (hx0 : 0 ≤ X.rd) (hx1 : X.rd ≤ 100000000)
    (hQ : ∀ (i : Nat) (x : EdgeV), X.ps[i]? = some (x, true) → Q x)
    (hb : ∀ b, blkOf ev = some b → b < w.heap.size → (X.L b = none ∧ b ≠ m) ∧ ¬ A b) :
    Calls Tryz.prog 40 #[.iface 139 (.agg #[.iface 24 (.pointer (some ⟨X.s, 0, none⟩)), .map (some m)]), .int .i64 from_, ev, fv] w fun e w' => e = .returned (.tuple #[.int .i64 (tPlace (trip X.ps from_ es)), .int .i64 (tCode (trip X.ps from_ es))]) ∧ Hid (∃ A', MidR P w X A m es.length (trip X.ps from_ es).1 A' w') := by
  obtain ⟨g, cb, rfl, eg, hC⟩ := hF.fn; have HC := hide hC; have HF := hide hF; have HM0 := hide h; obtain ⟨ea, ec, rfl, hcell⟩ := hr; have HROW : Hid (∀ n d A' W, MidR P w X A m n d A' W → ∀ (j : Nat) (k : Int), es[j]? = some k → ∃ g o, ea = some ⟨g, o, none⟩ ∧ W.cell? ⟨g, o + j, none⟩ = some (.int .i64 k)) := fun n d A' W hM j k hj => by
    have := SRow.turned ⟨ea, ec, rfl, hcell⟩ hM.turned (fun b hbk hlt hor => hor.elim (fun e => e.elim (fun e => e (hb b hbk hlt).1.1) (hb b hbk hlt).1.2) (hb b hbk hlt).2)
    obtain ⟨a, c, e, h2⟩ := this; injection e with e1 e2 e3
    subst e1; exact h2 j k hj
  obtain ⟨len, hlen⟩ : ∃ len, len = es.length := ⟨_, rfl⟩; have HLEN : Hid (len = es.length ∧ len ≤ N ∧ N ≤ 100000 ∧ 0 ≤ X.rd ∧ X.rd ≤ 100000000) := ⟨hlen, by omega, hN, hx0, hx1⟩
  rw [← hlen]; have HQ : Hid (∀ (i : Nat) (x : EdgeV), X.ps[i]? = some (x, true) → Q x ∧ x.1 = (i : Int) + 1) := fun i x hi => ⟨hQ i x hi, (h.st.elim fun n hn => (hn.2.edge i x hi).1)⟩
  -- one round's calls, over the store's own words
  have HOK := hide hok; have HNO : Hid (∀ n d A' W e, n < len → okN e → MidR P w X A m n d A' W → lk X.ps e = none → Calls Tryz.prog 170 #[.agg #[.iface 24 (.pointer (some ⟨X.s, 0, none⟩)), .map (some m)], .int .i64 e] W fun r w' => r = .returned (.tuple #[.agg #[.int .i64 0, .int .i64 0, .int .i64 0, .int .u32 0], .int .i64 6]) ∧ Hid (MidR P w X A m (n + 1) d A' (w'.alloc (oE (0, 0, 0, 0))))) := fun n d A' W e hn he hM hk => by
    have q1 := unhide HLEN; refine (recEdgeNo hF e he hM (by omega) hk).mono ?_
    rintro r w' ⟨rfl, hh⟩
    exact ⟨rfl, (unhide hh).below hF (below_new _ _)⟩
  have HYES : Hid (∀ n d A' W e x, n < len → okN e → MidR P w X A m n d A' W → lk X.ps e = some x → Calls Tryz.prog 170 #[.agg #[.iface 24 (.pointer (some ⟨X.s, 0, none⟩)), .map (some m)], .int .i64 e] W fun r w' => r = .returned (.tuple #[.agg #[.int .i64 x.1, .int .i64 x.2.1, .int .i64 x.2.2.1, .int .u32 x.2.2.2], .int .i64 0]) ∧ Hid (MidR P w X A m (n + 1) d A' (w'.alloc (oE x)) ∧ ∀ b, A' b → b < w'.heap.size)) := fun n d A' W e x hn he hM hk => by
    have q1 := unhide HLEN; refine (recEdgeYes hF e he hM (by omega) hx0 hx1 hk).mono ?_
    rintro r w' ⟨rfl, hh⟩
    exact ⟨rfl, (unhide hh).below hF (below_new _ _), fun b hb' => hF.lt _ _ _ b (unhide hh).pic hb'⟩
  generalize hsx : X.s = s at *; clear hC hF h hb hcell hlen hl hN hx0 hx1 hQ hsx hok
  go_enter Tryz.func40, Tryz.ntmps40
  go_wp2_with fail
  go_loopw [10, 18] (fun sa si wr => ∃ (i : Nat) (d : List EdgeV) (at_ : Int), si = .int .i64 i ∧ sa = .int .i64 at_ ∧ i ≤ len ∧ Hid (∃ A', MidR P w X A m i d A' wr ∧ Way X.ps from_ (es.take i) d ∧ at_ = endOf from_ d)) (fun _ si _ => len - (intOf si).toNat)
  case atStart => exact ⟨0, [], from_, rfl, rfl, Nat.zero_le _, A, unhide HM0, rfl, rfl⟩
  case round =>
    obtain ⟨i, d, at_, rfl, rfl, hi, hS⟩ := hrel; clear HM0
    by_cases hlt : i < len
    · have hz : (i : Int) < (len : Int) := by omega
      obtain ⟨A', hM, hW, hat⟩ := unhide hS; obtain ⟨e, he⟩ : ∃ e, es[i]? = some e := ⟨_, List.getElem?_eq_getElem (by have := (unhide HLEN).1; omega)⟩
      obtain ⟨eb, eo, rfl, hce⟩ := unhide HROW i d A' wr hM i e he; have hwi : wrap64 ((i : Int) + 1) = ((i + 1 : Nat) : Int) := by have := unhide HLEN; unfold wrap64; omega
      have HWI := hide hwi; have HT : Hid (trip X.ps from_ es = (d ++ (trip X.ps at_ (es.drop i)).1, (trip X.ps at_ (es.drop i)).2) ∧ es.drop i = e :: es.drop (i + 1) ∧ d.length = i) := by
        have h1 := Way.trip (es.drop i) hW; rw [List.take_append_drop] at h1; refine ⟨by rw [hat]; exact h1, ?_, ?_⟩
        · obtain ⟨hj, hj2⟩ := List.getElem?_eq_some_iff.1 he; rw [List.drop_eq_getElem_cons hj, hj2]
        · have := hW.len; rw [List.length_take] at this; have := (unhide HLEN).1; omega
      clear hwi
      cases hk : lk X.ps e with
      | none =>
        have C1 := hide (unhide HNO i d A' wr e hlt (unhide HOK e (List.mem_of_getElem? he)) hM hk); have HRES : Hid (trip X.ps from_ es = (d, some 6) ∧ d.length = i) := by
          obtain ⟨t1, t2, t3⟩ := unhide HT; rw [t1, t2, trip, hk]; exact ⟨by simp, t3⟩
        clear hS hM hW hat he hk HT
        go_wp2_with fail
        refine (unhide C1).mono ?_
        rintro r w1 ⟨rfl, h1⟩
        go_upto_region 6 with fail
        change Code.wp _ _ _ _ (w1.alloc (oE (0, 0, 0, 0))); generalize w1.alloc (oE (0, 0, 0, 0)) = w2 at *; clear C1 hce
        go_wp2_with fail
        go_ret2
        obtain ⟨t1, t2⟩ := unhide HRES; rw [t1]; refine ⟨by simp [tPlace, tCode, t2], A', ?_⟩
        exact (unhide h1).up (by have := (unhide HLEN).1; omega)
      | some x =>
        obtain ⟨ii, hii, hps⟩ := lk_some hk; obtain ⟨hq, hx1⟩ := unhide HQ ii x hps; obtain ⟨xe, xu, xv, xb⟩ := x; have hxe : xe = e := by have h' : xe = (ii : Int) + 1 := hx1; rw [h', hii]
        subst hxe; have C1 := hide (unhide HYES i d A' wr xe (xe, xu, xv, xb) hlt (unhide HOK xe (List.mem_of_getElem? he)) hM hk)
        by_cases hu : xu = at_
        · have HRES : Hid (Way X.ps from_ (es.take (i + 1)) (d ++ [(xe, xu, xv, xb)]) ∧ endOf from_ (d ++ [(xe, xu, xv, xb)]) = xv ∧ d.length < N ∧ Q (xe, xu, xv, xb)) := by
            refine ⟨?_, endOf_snoc _ _ _, by have := (unhide HT).2.2; have := unhide HLEN; omega, hq⟩
            rw [take_succ_of he]; exact hW.snoc hk (hu.trans hat)
          clear hS hM hW hat he hk HT hq hx1 hii hps; subst hu
          go_wp2_with fail
          refine (unhide C1).mono ?_
          rintro r w1 ⟨rfl, h1⟩
          clear C1 hce
          go_upto_region 6 with fail
          change Code.wp _ _ _ _ (w1.alloc (oE (xe, xu, xv, xb))); obtain ⟨x0, x1, x2, x3, -⟩ := box_cells (heap_alloc_new w1 (oE (xe, xu, xv, xb))); have CS : Hid (Calls Tryz.prog g (#[.int .i64 xe, .agg #[.int .i64 xe, .int .i64 xu, .int .i64 xv, .int .u32 xb]] ++ cb) (w1.alloc (oE (xe, xu, xv, xb))) fun e w' => e = .returned (.tuple #[]) ∧ w'.cell? ⟨w1.heap.size, 2, none⟩ = some (.int .i64 xv) ∧ Hid (∃ A2, MidR P w X A m (i + 1) (d ++ [(xe, xu, xv, xb)]) A2 w')) := by
            obtain ⟨q1, q2, q3, q4⟩ := unhide HRES; obtain ⟨m1, m2⟩ := unhide h1; have := unhide HC d (xe, xu, xv, xb) A' _ q3 q4 m1.pic; refine this.mono ?_
            rintro r w' ⟨rfl, hh⟩
            obtain ⟨A2, p1, p2, p3⟩ := unhide hh; refine ⟨rfl, ?_, A2, m1.step p1 p2 p3⟩; exact (cell_of_heap (x := ⟨w1.heap.size, 2, none⟩) (p2.block _ (by simp) (fun ha => Nat.lt_irrefl _ (m2 _ ha)))).trans x2
          clear h1; simp only at x0 x1 x2 x3; generalize w1.alloc (oE (xe, xu, xv, xb)) = w2 at *; generalize w1.heap.size = bx at *
          go_wp2_with fail
          refine (unhide CS).mono ?_
          rintro r w3 ⟨rfl, c3, h3⟩
          clear CS x0 x1 x2 x3
          go_wp2_with fail
          (try rw [unhide HWI])
          obtain ⟨A2, h4⟩ := unhide h3; obtain ⟨q1, q2, q3, q4⟩ := unhide HRES; exact ⟨⟨i + 1, d ++ [(xe, xu, xv, xb)], xv, rfl, rfl, by omega, A2, h4, q1, q2.symm⟩, by simp [intOf]; omega⟩
        · have HRES : Hid (trip X.ps from_ es = (d, some 80) ∧ d.length = i) := by
            obtain ⟨t1, t2, t3⟩ := unhide HT; rw [t1, t2, trip, hk]; simp only; rw [if_neg hu]; exact ⟨by simp, t3⟩
          have hu2 : (xu == at_) = false := by simp [hu]
          clear hS hM hW hat he hk HT hq hx1 hii hps
          go_wp2_with fail
          refine (unhide C1).mono ?_
          rintro r w1 ⟨rfl, h1⟩
          clear C1 hce
          go_upto_region 6 with fail
          change Code.wp _ _ _ _ (w1.alloc (oE (xe, xu, xv, xb))); obtain ⟨x0, x1, x2, x3, -⟩ := box_cells (heap_alloc_new w1 (oE (xe, xu, xv, xb))); simp only at x0 x1 x2 x3; generalize w1.alloc (oE (xe, xu, xv, xb)) = w2 at *; generalize w1.heap.size = bx at *
          go_wp2_with fail
          go_ret2
          obtain ⟨t1, t2⟩ := unhide HRES; rw [t1]; refine ⟨by simp [tPlace, tCode, t2], A', ?_⟩
          exact (unhide h1).1.up (by have := (unhide HLEN).1; omega)
    · have hz : ¬ (i : Int) < (len : Int) := by omega
      obtain ⟨A', hM, hW, hat⟩ := unhide hS; have e1 : es.take i = es := List.take_of_length_le (by have := (unhide HLEN).1; omega)
      have HRES : Hid (trip X.ps from_ es = (d, none) ∧ ∃ A', MidR P w X A m len d A' wr) := by
        rw [e1] at hW; refine ⟨hW.all, A', ?_⟩; exact hM.up hi
      clear hS hM hW hat e1
      go_wp2_with fail
      go_ret2
      obtain ⟨t1, t2⟩ := unhide HRES; rw [t1]; exact ⟨by simp [tPlace, tCode], t2⟩
end
end

section
open Go.RowKit
def bitsB (b : Nat) : Int := if (FloatKind.f32.format.order b b != some .eq) = true then 2143289344 else b
theorem bits_any (b : Nat) (w : World) :
    Calls Tryz.prog 44 #[.float .f32 b] w fun e w' => e = .returned (.int .u32 (bitsB b)) ∧ w' = w := by
  have hx := run_tobits; unfold bitsB; generalize hn : (FloatKind.f32.format.order b b != some .eq) = t; have hc : ∀ w, Calls Tryz.prog 80 #[.float .f32 b] w fun e w' => e = .returned (.bool t) ∧ w' = w := fun w => by
    have := isNaN_any b w; rwa [hn] at this
  have H := hide hc; clear hc hn
  cases t
  · go_enter Tryz.func44, Tryz.ntmps44
    go_wp2_with (go_at_call 80; refine (unhide H _).mono ?_; rintro e w' ⟨rfl, rfl⟩)
    go_ret
    exact ⟨rfl, rfl⟩
  · go_enter Tryz.func44, Tryz.ntmps44
    go_wp2_with (go_at_call 80; refine (unhide H _).mono ?_; rintro e w' ⟨rfl, rfl⟩)
    go_ret
    exact ⟨rfl, rfl⟩
theorem cost_any (b : Nat) (w : World) :
    Calls Tryz.prog 105 #[.float .f32 b] w fun e w' => e = .returned (.bool (decide (bitsB b ≤ 2139095040))) ∧ w' = w := by
  go_enter Tryz.func105, Tryz.ntmps105
  go_wp2_with (go_at_call 44; refine (bits_any _ _).mono ?_; rintro e w' ⟨rfl, rfl⟩)
  go_ret
  exact ⟨rfl, rfl⟩
theorem bitsB_eq {b : Nat} (h : b < 4294967296) : bitsB b = if M.nan b then 2143289344 else (b : Int) := by
  have := M.order_self h; unfold bitsB; rw [show FloatKind.f32.format = Ieee.single from rfl, this]
namespace M
open Ieee
def counts (b : Nat) : Nat := if b = 2147483648 then 0 else if 2139095040 < b then 2139095040 else b
theorem counts_le (b : Nat) : counts b ≤ 2139095040 := by unfold counts; (repeat' split) <;> omega
theorem sgn_cost {x : Nat} (h : x ≤ 2139095040) : sgn x = false := by
  rw [sgn_eq (by omega)]; exact decide_eq_false (by omega)
theorem add_some {x y : Nat} (hx : x ≤ 2139095040) (hy : y ≤ 2139095040) : ∃ r, single.add x y = some r := by
  unfold Format.add
  by_cases ix : x = 2139095040
  · rw [read_inf (x := x) (by omega), sgn_cost hx]
    by_cases iy : y = 2139095040
    · rw [read_inf (x := y) (by omega), sgn_cost hy]; exact ⟨_, rfl⟩
    · obtain ⟨m, k, e, -⟩ := read_fin (x := y) (by omega)
      rw [e]; exact ⟨_, rfl⟩
  · obtain ⟨m, k, e, -⟩ := read_fin (x := x) (by omega)
    rw [e]
    by_cases iy : y = 2139095040
    · rw [read_inf (x := y) (by omega)]; exact ⟨_, rfl⟩
    · obtain ⟨m, k, e, -⟩ := read_fin (x := y) (by omega)
      rw [e]; exact ⟨_, rfl⟩
def addC (x y : Nat) : Nat := (single.add x y).getD 0
theorem add_eq {x y : Nat} (hx : x ≤ 2139095040) (hy : y ≤ 2139095040) : single.add x y = some (addC x y) := by
  obtain ⟨r, hr⟩ := add_some hx hy; unfold addC; rw [hr]; rfl
end M
theorem asCost_nat (b : Nat) (h : b < 4294967296) (w : World) :
    Calls Tryz.prog 79 #[.float .f32 b] w fun e w' => e = .returned (.float .f32 (M.counts b)) ∧ w' = w := by
  have hx := run_frombits; have hz : (FloatKind.f32.format.order b 0 == some .eq) = decide (b = 0 ∨ b = 2147483648) := M.order_zero h; have hB := bitsB_eq h; unfold M.counts
  by_cases h0 : b = 0 ∨ b = 2147483648
  · rw [decide_eq_true h0] at hz; have e : (if b = 2147483648 then 0 else if 2139095040 < b then 2139095040 else b) = 0 := by (repeat' split) <;> omega
    rw [e]; clear e h0 hB
    go_enter Tryz.func79, Tryz.ntmps79
    go_wp2
    go_ret
    exact ⟨rfl, rfl⟩
  · rw [decide_eq_false h0] at hz
    by_cases h1 : 2139095040 < b
    · have e : (if b = 2147483648 then 0 else if 2139095040 < b then 2139095040 else b) = 2139095040 := by rw [if_neg (by omega), if_pos h1]
      rw [e]; have hc : ∀ w, Calls Tryz.prog 105 #[.float .f32 b] w fun e w' => e = .returned (.bool false) ∧ w' = w := fun w => by
        have := cost_any b w
        rwa [decide_eq_false] at this
        rw [hB]; split <;> omega
      have H := hide hc; clear e hc hB h0
      go_enter Tryz.func79, Tryz.ntmps79
      go_wp2_with (go_at_call 105; refine (unhide H _).mono ?_; rintro e w' ⟨rfl, rfl⟩)
      go_ret
      exact ⟨rfl, rfl⟩
    · have e : (if b = 2147483648 then 0 else if 2139095040 < b then 2139095040 else b) = b := by rw [if_neg (by omega), if_neg h1]
      rw [e]; have hc : ∀ w, Calls Tryz.prog 105 #[.float .f32 b] w fun e w' => e = .returned (.bool true) ∧ w' = w := fun w => by
        have := cost_any b w
        rwa [decide_eq_true] at this
        rw [hB]; have : M.nan b = false := decide_eq_false (by omega)
        rw [this]; simp; omega
      have H := hide hc; clear e hc hB h0
      go_enter Tryz.func79, Tryz.ntmps79
      go_wp2_with (go_at_call 105; refine (unhide H _).mono ?_; rintro e w' ⟨rfl, rfl⟩)
      go_ret
      exact ⟨rfl, rfl⟩
theorem add_nat (a b : Nat) (ha : a < 4294967296) (hb : b < 4294967296) (w : World) :
    Calls Tryz.prog 42 #[.float .f32 a, .float .f32 b] w fun e w' => e = .returned (.float .f32 (M.addC (M.counts a) (M.counts b))) ∧ w' = w := by
  have hr := fun w => run_float_arith (P := Tryz.prog) w .add 95 .f32 (M.counts a) (M.counts b) _ (M.add_eq (M.counts_le a) (M.counts_le b))
  have HA := hide (asCost_nat a ha); have HB := hide (asCost_nat b hb)
  go_enter Tryz.func42, Tryz.ntmps42
  go_wp2_with fail
  refine (unhide HA _).mono ?_
  rintro e w' ⟨rfl, rfl⟩
  go_wp2_with fail
  refine (unhide HB _).mono ?_
  rintro e w' ⟨rfl, rfl⟩
  go_wp2
  go_ret
  exact ⟨rfl, rfl⟩
end

section
open Go.RowKit
theorem counts_nat (b : Nat) (w : World) :
    Calls Tryz.prog 83 #[.int .u32 (b : Int)] w fun e w' => e = .returned (.int .i64 (M.counts b : Int)) ∧ w' = w := by
  unfold M.counts
  by_cases h1 : b = 2147483648
  · subst h1
    go_enter Tryz.func83, Tryz.ntmps83
    go_wp2
    go_ret
    exact ⟨rfl, rfl⟩
  · have h2 : ((b : Int) == 2147483648) = false := by simp; omega
    rw [if_neg h1]; clear h1
    by_cases h3 : 2139095040 < b
    · have h4 : (2139095040 : Int) < (b : Int) := by omega
      rw [if_pos h3]
      go_enter Tryz.func83, Tryz.ntmps83
      go_wp2
      go_ret
      exact ⟨rfl, rfl⟩
    · have h4 : ¬ (2139095040 : Int) < (b : Int) := by omega
      rw [if_neg h3]
      go_enter Tryz.func83, Tryz.ntmps83
      go_wp2
      go_ret
      exact ⟨rfl, rfl⟩
namespace M
def mant (x : Nat) : Nat := if x / 8388608 = 0 then x % 8388608 else x % 8388608 + 8388608
def expo (x : Nat) : Nat := if x / 8388608 = 0 then 1 else x / 8388608
def up (s k : Nat) : Bool := decide (2 ^ (k - 1) < s % 2 ^ k) || (decide (s % 2 ^ k = 2 ^ (k - 1)) && decide (s / 2 ^ k % 2 = 1))
def rounded (s k : Nat) : Nat := if k = 0 then s else s / 2 ^ k + (up s k).toNat
def tail (f k q : Nat) : Nat :=
  if 255 ≤ f + (if q = 16777216 then k + 1 else k) then 2139095040
  else if (if q = 16777216 then 8388608 else q) < 8388608 then q
  else (f + (if q = 16777216 then k + 1 else k)) * 8388608 + (if q = 16777216 then 8388608 else q) - 8388608
end M
theorem parts_nat (x : Nat) (hx : x ≤ 2139095040) (w : World) :
    Calls Tryz.prog 84 #[.int .i64 (x : Int)] w fun e w' => e = .returned (.tuple #[.int .i64 (M.mant x : Int), .int .i64 (M.expo x : Int)]) ∧ w' = w := by
  unfold M.mant M.expo; have hxi : (x : Int) ≤ 2139095040 := by omega
  by_cases h1 : x / 8388608 = 0
  · have h2 : ((x : Int) / 8388608 == 0) = true := by simp; omega
    rw [if_pos h1, if_pos h1]
    go_enter Tryz.func84, Tryz.ntmps84
    go_wp2
    go_ret2
    exact ⟨rfl, rfl⟩
  · have h2 : ((x : Int) / 8388608 == 0) = false := by simp; omega
    rw [if_neg h1, if_neg h1]
    go_enter Tryz.func84, Tryz.ntmps84
    go_wp2
    go_ret2
    exact ⟨rfl, rfl⟩
theorem ret_u32 {a b : Int} (h : a = b) : Ending.returned (.int .u32 a) = .returned (.int .u32 b) := by rw [h]
set_option maxRecDepth 100000 in
set_option maxHeartbeats 4000000 in
theorem refAdd_main (x y c1 c2 a b : Nat) (w : World) (m f d n : Nat) (hd : d ≤ 25) (hf : f ≤ 254)
    (hab : (c1 < c2 ∧ a = c2 ∧ b = c1) ∨ (¬ c1 < c2 ∧ a = c1 ∧ b = c2))
    (hne : ((a : Int) == 2139095040) = false) (s SH : Nat) (HS : Hid (wrap64 (wrap64 ((m : Int) * 2 ^ d) + (n : Int)) = (s : Int))) (hSH : SH ≤ 26) (HLO : Hid (∀ k, k < SH → 16777216 ≤ s / 2 ^ k)) (HHI : Hid (s / 2 ^ SH < 16777216))
    (HX : Hid (∀ w, Calls Tryz.prog 83 #[.int .u32 (x : Int)] w fun e w' => e = .returned (.int .i64 (c1 : Int)) ∧ w' = w))
    (HY : Hid (∀ w, Calls Tryz.prog 83 #[.int .u32 (y : Int)] w fun e w' => e = .returned (.int .i64 (c2 : Int)) ∧ w' = w))
    (HP1 : Hid (∀ w, Calls Tryz.prog 84 #[.int .i64 (a : Int)] w fun e w' => e = .returned (.tuple #[.int .i64 (m : Int), .int .i64 ((f : Int) + (d : Int))]) ∧ w' = w))
    (HP2 : Hid (∀ w, Calls Tryz.prog 84 #[.int .i64 (b : Int)] w fun e w' => e = .returned (.tuple #[.int .i64 (n : Int), .int .i64 (f : Int)]) ∧ w' = w)) :
    Calls Tryz.prog 50 #[.int .u32 (x : Int), .int .u32 (y : Int)] w fun e w' => e = .returned (.int .u32 ((M.tail f SH (M.rounded s SH) : Nat) : Int)) ∧ ∃ nq, w' = w.drewN nq := by
  go_enter Tryz.func50, Tryz.ntmps50
  go_upto_region 1 with fail
  go_cut [5, 6] from 16 (fun s5 s6 w1 => s5 = .int .i64 (a : Int) ∧ s6 = .int .i64 (b : Int) ∧ w1 = w)
  case first =>
    rcases hab with ⟨h, rfl, rfl⟩ | ⟨h, rfl, rfl⟩
    all_goals
      go_wp2_with fail
      refine (unhide HX _).mono ?_
      rintro e w' ⟨rfl, rfl⟩
      go_wp2_with fail
      refine (unhide HY _).mono ?_
      rintro e w' ⟨rfl, rfl⟩
      go_wp2_with fail
      refine (unhide HX _).mono ?_
      rintro e w' ⟨rfl, rfl⟩
      go_wp2_with fail
      refine (unhide HY _).mono ?_
      rintro e w' ⟨rfl, rfl⟩
      go_wp2_with fail
      all_goals
        go_meet
        case rel => first | exact ⟨rfl, rfl, rfl⟩ | exact ⟨congrArg (Value.int .i64) (by omega), congrArg (Value.int .i64) (by omega), rfl⟩ | (obtain rfl : a = b := (by omega); exact ⟨rfl, rfl, rfl⟩)
  case rest =>
    obtain ⟨rfl, rfl, rfl⟩ := hcut; clear hab
    go_wp2_with fail
    refine (unhide HP1 _).mono ?_
    rintro e w' ⟨rfl, rfl⟩
    go_wp2_with fail
    refine (unhide HP2 _).mono ?_
    rintro e w' ⟨rfl, rfl⟩
    go_upto_region 8 with fail
    go_cut [10, 11] from 16 (fun s10 s11 w1 => s10 = .int .i64 (f : Int) ∧ s11 = .int .i64 (s : Int) ∧ w1 = w')
    case first =>
      go_wp2_with fail
      go_meet
      case rel => exact ⟨rfl, by rw [unhide HS], rfl⟩
    case rest =>
      obtain ⟨rfl, rfl, hw⟩ := hcut; subst hw; clear HS hne hd HP1 HP2 HX HY
      go_wp2_with fail
      go_loop [12] (fun ti => ∃ k : Nat, k ≤ SH ∧ ti = .int .i64 (k : Int)) (fun ti => SH - (intOf ti).toNat)
      case atStart => exact ⟨0, Nat.zero_le _, rfl⟩
      case round =>
        obtain ⟨k, hk, rfl⟩ := hrel
        by_cases hlt : k < SH
        · have t1 : (16777216 : Int) ≤ (s : Int) / 2 ^ k := by
            have := unhide HLO k hlt; have e : ((s / 2 ^ k : Nat) : Int) = (s : Int) / 2 ^ k := by simp
            omega
          go_wp2
          go_round
          case rel => exact ⟨k + 1, by omega, by go_num⟩
          case measure => simp [intOf]; omega
        · have ek : k = SH := by omega
          have k26 : k ≤ 26 := by omega
          obtain ⟨p, hpn⟩ : ∃ p : Nat, 2 ^ k = p := ⟨_, rfl⟩; have hp : (2 : Int) ^ k = (p : Int) := by rw [← hpn]; simp
          have hp0 : (0 : Int) < (p : Int) := by
            have := Nat.two_pow_pos k; omega
          have hp1 : (p : Int) ≤ 67108864 := by
            have := Nat.pow_le_pow_right (n := 2) (by omega) k26
            omega
          obtain ⟨q, hqn⟩ : ∃ q : Nat, s / p = q := ⟨_, rfl⟩; obtain ⟨r, hrn⟩ : ∃ r : Nat, s % p = r := ⟨_, rfl⟩; have hq : (s : Int) / (p : Int) = (q : Int) := by rw [← hqn]; simp
          have hr : (s : Int) % (p : Int) = (r : Int) := by rw [← hrn]; simp
          have t3 : ¬ (16777216 : Int) ≤ (q : Int) := by
            have := unhide HHI; rw [← ek, hpn, hqn] at this; omega
          have EK := hide ek; have HPN := hide hpn; have HQN := hide hqn; have HRN := hide hrn; clear hlt hk hSH ek hpn hqn hrn; have t4 : q < 16777216 := by omega
          by_cases hk0 : k = 0
          · have HT : Hid (M.tail f SH (M.rounded s SH) = M.tail f k q) := by
              show _ = _; have e1 := unhide EK; have e2 := unhide HPN; have e3 := unhide HQN; unfold M.rounded; rw [← e1, if_pos hk0]; rw [hk0] at e2; rw [← e3, ← e2]; simp
            subst hk0
            go_wp2_with fail
            go_quiet (fail)
            go_upto_region 17 with fail
            clear hp hp0 hp1 hq hr t3; have z1b : ((q : Int) == 16777216) = false := by simp; omega
            have z2b : ¬ (255 : Int) ≤ (f : Int) := by omega
            by_cases z3 : q < 8388608
            · have z3b : (q : Int) < 8388608 := by omega
              go_wp2
              go_ret
              refine ⟨ret_u32 ?_, _, rfl⟩; rw [unhide HT]; unfold M.tail
              (repeat' split) <;> omega
            · have z3b : ¬ (q : Int) < 8388608 := by omega
              go_wp2
              go_ret
              refine ⟨ret_u32 ?_, _, rfl⟩; rw [unhide HT]; unfold M.tail
              (repeat' split) <;> omega
          · obtain ⟨h, hhn⟩ : ∃ h : Nat, 2 ^ (k - 1) = h := ⟨_, rfl⟩; have hh : (2 : Int) ^ (k - 1) = (h : Int) := by rw [← hhn]; simp
            have hh0 : (0 : Int) < (h : Int) := by
              have := Nat.two_pow_pos (k - 1); omega
            have hh1 : (h : Int) ≤ 33554432 := by
              have := Nat.pow_le_pow_right (n := 2) (by omega) (show k - 1 ≤ 25 by omega)
              omega
            have hk1 : (0 : Int) < (k : Int) := by omega
            have HT : Hid (M.tail f SH (M.rounded s SH) = M.tail f k (q + (decide (h < r) || (decide (r = h) && decide (q % 2 = 1))).toNat)) := by
              have e1 := unhide EK; have e2 := unhide HPN; have e3 := unhide HQN; have e4 := unhide HRN; show _ = _; unfold M.rounded M.up; rw [← e1, if_neg hk0, hhn, e2, e3, e4]
            have HRZ : Hid ((s : Int) % (p : Int) = (r : Int)) := hr; clear hhn hk0
            go_wp2_with fail
            go_quiet (fail)
            go_upto_region 13 with fail
            clear hp hp0 hp1 hq hr t3
            go_upto_region 15 with fail
            go_cut [85] from 51 (fun s85 w1 => s85 = .bool (decide (h < r) || (decide (r = h) && decide (q % 2 = 1))) ∧ w1 = wc.drewN nq)
            case first =>
              have hrz := unhide HRZ
              by_cases g1 : (h : Int) < (s : Int) % (p : Int)
              · have e : (decide (h < r) || (decide (r = h) && decide (q % 2 = 1))) = true := by
                  have : h < r := by omega
                  simp [this]
                have E := hide e; clear hrz e
                go_wp2_with fail
                go_meet
                case rel => exact ⟨by rw [unhide E], rfl⟩
              · by_cases g2 : (s : Int) % (p : Int) = (h : Int)
                · have g2b : ((s : Int) % (p : Int) == (h : Int)) = true := by simpa using g2
                  have rh : r = h := by omega
                  have e : (decide (h < r) || (decide (r = h) && decide (q % 2 = 1))) = ((q : Int) % 2 == 1) := by
                    rw [Bool.eq_iff_iff]; simp [rh]; omega
                  have E := hide e; clear hrz e g2 rh
                  go_wp2_with fail
                  go_meet
                  case rel => exact ⟨by rw [unhide E], rfl⟩
                · have g2b : ((s : Int) % (p : Int) == (h : Int)) = false := by simpa using g2
                  have e : (decide (h < r) || (decide (r = h) && decide (q % 2 = 1))) = false := by
                    have : ¬ h < r := by omega
                    have : ¬ r = h := by omega
                    simp [*]
                  have E := hide e; clear hrz e g2
                  go_wp2_with fail
                  go_meet
                  case rel => exact ⟨by rw [unhide E], rfl⟩
            case rest =>
              obtain ⟨rfl, hw⟩ := hcut; subst hw; clear hh hh0 hh1 HRZ; generalize (decide (h < r) || (decide (r = h) && decide (q % 2 = 1))) = u at HT ⊢
              cases u
              · change Hid (_ = M.tail f k q) at HT
                by_cases z1 : q = 16777216
                · have z1b : ((q : Int) == 16777216) = true := by simp; omega
                  by_cases z2 : 255 ≤ f + (k + 1)
                  · have z2b : (255 : Int) ≤ (f : Int) + ((k : Int) + 1) := by omega
                    have Z1 := hide z1; clear z1
                    go_wp2
                    go_ret
                    refine ⟨ret_u32 ?_, _, rfl⟩; rw [unhide HT]; have z1 := unhide Z1; unfold M.tail
                    (repeat' split) <;> omega
                  · have z2b : ¬ (255 : Int) ≤ (f : Int) + ((k : Int) + 1) := by omega
                    have Z1 := hide z1; clear z1
                    go_wp2
                    go_ret
                    refine ⟨ret_u32 ?_, _, rfl⟩; rw [unhide HT]; have z1 := unhide Z1; unfold M.tail
                    (repeat' split) <;> omega
                · have z1b : ((q : Int) == 16777216) = false := by simp; omega
                  by_cases z2 : 255 ≤ f + k
                  · have z2b : (255 : Int) ≤ (f : Int) + (k : Int) := by omega
                    go_wp2
                    go_ret
                    refine ⟨ret_u32 ?_, _, rfl⟩; rw [unhide HT]; unfold M.tail
                    (repeat' split) <;> omega
                  · have z2b : ¬ (255 : Int) ≤ (f : Int) + (k : Int) := by omega
                    by_cases z3 : q < 8388608
                    · have z3b : (q : Int) < 8388608 := by omega
                      go_wp2
                      go_ret
                      refine ⟨ret_u32 ?_, _, rfl⟩; rw [unhide HT]; unfold M.tail
                      (repeat' split) <;> omega
                    · have z3b : ¬ (q : Int) < 8388608 := by omega
                      go_wp2
                      go_ret
                      refine ⟨ret_u32 ?_, _, rfl⟩; rw [unhide HT]; unfold M.tail
                      (repeat' split) <;> omega
              · change Hid (_ = M.tail f k (q + 1)) at HT
                by_cases z1 : q + 1 = 16777216
                · have z1b : (((q : Int) + 1) == 16777216) = true := by simp; omega
                  by_cases z2 : 255 ≤ f + (k + 1)
                  · have z2b : (255 : Int) ≤ (f : Int) + ((k : Int) + 1) := by omega
                    have Z1 := hide z1; clear z1
                    go_wp2
                    go_ret
                    refine ⟨ret_u32 ?_, _, rfl⟩; rw [unhide HT]; have z1 := unhide Z1; unfold M.tail
                    (repeat' split) <;> omega
                  · have z2b : ¬ (255 : Int) ≤ (f : Int) + ((k : Int) + 1) := by omega
                    have Z1 := hide z1; clear z1
                    go_wp2
                    go_ret
                    refine ⟨ret_u32 ?_, _, rfl⟩; rw [unhide HT]; have z1 := unhide Z1; unfold M.tail
                    (repeat' split) <;> omega
                · have z1b : (((q : Int) + 1) == 16777216) = false := by simp; omega
                  by_cases z2 : 255 ≤ f + k
                  · have z2b : (255 : Int) ≤ (f : Int) + (k : Int) := by omega
                    go_wp2
                    go_ret
                    refine ⟨ret_u32 ?_, _, rfl⟩; rw [unhide HT]; unfold M.tail
                    (repeat' split) <;> omega
                  · have z2b : ¬ (255 : Int) ≤ (f : Int) + (k : Int) := by omega
                    by_cases z3 : q + 1 < 8388608
                    · have z3b : ((q : Int) + 1) < 8388608 := by omega
                      go_wp2
                      go_ret
                      refine ⟨ret_u32 ?_, _, rfl⟩; rw [unhide HT]; unfold M.tail
                      (repeat' split) <;> omega
                    · have z3b : ¬ ((q : Int) + 1) < 8388608 := by omega
                      go_wp2
                      go_ret
                      refine ⟨ret_u32 ?_, _, rfl⟩; rw [unhide HT]; unfold M.tail
                      (repeat' split) <;> omega
set_option maxRecDepth 100000 in
set_option maxHeartbeats 1000000 in
theorem refAdd_inf (x y c1 c2 a b : Nat) (w : World)
    (hab : (c1 < c2 ∧ a = c2 ∧ b = c1) ∨ (¬ c1 < c2 ∧ a = c1 ∧ b = c2))
    (HX : Hid (∀ w, Calls Tryz.prog 83 #[.int .u32 (x : Int)] w fun e w' => e = .returned (.int .i64 (c1 : Int)) ∧ w' = w))
    (HY : Hid (∀ w, Calls Tryz.prog 83 #[.int .u32 (y : Int)] w fun e w' => e = .returned (.int .i64 (c2 : Int)) ∧ w' = w))
    (hne : ((a : Int) == 2139095040) = true) :
    Calls Tryz.prog 50 #[.int .u32 (x : Int), .int .u32 (y : Int)] w fun e w' => e = .returned (.int .u32 2139095040) ∧ ∃ nq, w' = w.drewN nq := by
  go_enter Tryz.func50, Tryz.ntmps50
  go_upto_region 1 with fail
  go_cut [5, 6] from 16 (fun s5 s6 w1 => s5 = .int .i64 (a : Int) ∧ s6 = .int .i64 (b : Int) ∧ w1 = w)
  case first =>
    rcases hab with ⟨h, rfl, rfl⟩ | ⟨h, rfl, rfl⟩
    all_goals
      go_wp2_with fail
      refine (unhide HX _).mono ?_
      rintro e w' ⟨rfl, rfl⟩
      go_wp2_with fail
      refine (unhide HY _).mono ?_
      rintro e w' ⟨rfl, rfl⟩
      go_wp2_with fail
      refine (unhide HX _).mono ?_
      rintro e w' ⟨rfl, rfl⟩
      go_wp2_with fail
      refine (unhide HY _).mono ?_
      rintro e w' ⟨rfl, rfl⟩
      go_wp2_with fail
      all_goals
        go_meet
        case rel => first | exact ⟨rfl, rfl, rfl⟩ | exact ⟨congrArg (Value.int .i64) (by omega), congrArg (Value.int .i64) (by omega), rfl⟩ | (obtain rfl : a = b := (by omega); exact ⟨rfl, rfl, rfl⟩)
  case rest =>
    obtain ⟨rfl, rfl, rfl⟩ := hcut; clear hab
    go_wp2
    go_ret
    exact ⟨rfl, 0, rfl⟩
set_option maxRecDepth 100000 in
set_option maxHeartbeats 1000000 in
theorem refAdd_far (x y c1 c2 a b : Nat) (w : World) (m f d n : Nat) (hd : 26 ≤ d) (hf : f + d ≤ 254) (ha : a < 2139095040)
    (hab : (c1 < c2 ∧ a = c2 ∧ b = c1) ∨ (¬ c1 < c2 ∧ a = c1 ∧ b = c2))
    (HX : Hid (∀ w, Calls Tryz.prog 83 #[.int .u32 (x : Int)] w fun e w' => e = .returned (.int .i64 (c1 : Int)) ∧ w' = w))
    (HY : Hid (∀ w, Calls Tryz.prog 83 #[.int .u32 (y : Int)] w fun e w' => e = .returned (.int .i64 (c2 : Int)) ∧ w' = w))
    (HP1 : Hid (∀ w, Calls Tryz.prog 84 #[.int .i64 (a : Int)] w fun e w' => e = .returned (.tuple #[.int .i64 (m : Int), .int .i64 ((f : Int) + (d : Int))]) ∧ w' = w))
    (HP2 : Hid (∀ w, Calls Tryz.prog 84 #[.int .i64 (b : Int)] w fun e w' => e = .returned (.tuple #[.int .i64 (n : Int), .int .i64 (f : Int)]) ∧ w' = w)) :
    Calls Tryz.prog 50 #[.int .u32 (x : Int), .int .u32 (y : Int)] w fun e w' => e = .returned (.int .u32 (a : Int)) ∧ ∃ nq, w' = w.drewN nq := by
  go_enter Tryz.func50, Tryz.ntmps50
  go_upto_region 1 with fail
  go_cut [5, 6] from 16 (fun s5 s6 w1 => s5 = .int .i64 (a : Int) ∧ s6 = .int .i64 (b : Int) ∧ w1 = w)
  case first =>
    rcases hab with ⟨h, rfl, rfl⟩ | ⟨h, rfl, rfl⟩
    all_goals
      go_wp2_with fail
      refine (unhide HX _).mono ?_
      rintro e w' ⟨rfl, rfl⟩
      go_wp2_with fail
      refine (unhide HY _).mono ?_
      rintro e w' ⟨rfl, rfl⟩
      go_wp2_with fail
      refine (unhide HX _).mono ?_
      rintro e w' ⟨rfl, rfl⟩
      go_wp2_with fail
      refine (unhide HY _).mono ?_
      rintro e w' ⟨rfl, rfl⟩
      go_wp2_with fail
      all_goals
        go_meet
        case rel => first | exact ⟨rfl, rfl, rfl⟩ | exact ⟨congrArg (Value.int .i64) (by omega), congrArg (Value.int .i64) (by omega), rfl⟩ | (obtain rfl : a = b := (by omega); exact ⟨rfl, rfl, rfl⟩)
  case rest =>
    obtain ⟨rfl, rfl, rfl⟩ := hcut; clear hab; have hne : ((a : Int) == 2139095040) = false := by simp; omega
    go_wp2_with fail
    refine (unhide HP1 _).mono ?_
    rintro e w' ⟨rfl, rfl⟩
    go_wp2_with fail
    refine (unhide HP2 _).mono ?_
    rintro e w' ⟨rfl, rfl⟩
    go_wp2
    go_ret
    exact ⟨rfl, 0, rfl⟩
end

end Go.Proofs.YtagibmgbjhemkaaGreat
