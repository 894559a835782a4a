/- The tree beside the heap of a repair. -/
import Derived.Test.YtbmcibofecigeaaAtF
import Derived.Test.YtbmcibofecigeaaLiveF
import Derived.Test.YtbmcibofecigeaaLaws2
import Derived.Deep.RegionHeld3
import Derived.Test.YtbmcibofecigeaaWAdd
namespace Go.Proofs.Ytbmcibofecigeaa

section
open Go.RowKit Go.Maps
attribute [local go_sem] run_storeF
/-- What is told of a number: 0, or an error. -/
def askL (V : Int → Option Nat) (T : L14.Tr) (v : Int) : Int := if V v = none then 5 else if L14.fnd T v = true then 0 else 130
section
variable {L : Lab} {w : World} {p mv me : Nat} {s tc : Int} {V : Int → Option Nat} {nv : Nat} {E : L14.Es} {ne : Nat} {T : L14.Tr} {O I : Int → List Int}
set_option maxHeartbeats 400000 in
theorem vhasT (h : LvAt L w p mv me s tc V nv E ne T O I) {v : Int} (hv : okN v) : Calls Try.prog 29 #[.pointer (some ⟨p, 0, none⟩), .int .i64 v] w fun e w' => e = .returned (.bool (V v).isSome) ∧ w' = w := by
  have hq := h.lookV2 hv
  obtain ⟨-, c1, -, -, -⟩ := cellsL h.box
  generalize ptr (V v) = pv at *
  generalize (V v).isSome = r at *
  clear h hv
  go_enter Try.func29, Try.ntmps29
  go_wp2_with fail
  go_ret
  exact ⟨rfl, rfl⟩
theorem vsourceT (h : LvAt L w p mv me s tc V nv E ne T O I) : Calls Try.prog 16 #[.pointer (some ⟨p, 0, none⟩)] w fun e w' => e = .returned (.int .i64 s) ∧ w' = w := by
  obtain ⟨c0, -, -, -, -⟩ := cellsL h.box
  clear h
  go_enter Try.func16, Try.ntmps16
  go_wp2_with fail
  go_ret
  exact ⟨rfl, rfl⟩
set_option maxHeartbeats 1000000 in
theorem vreachedT (h : LvAt L w p mv me s tc V nv E ne T O I) {v : Int} (hv : okN v) : Calls Try.prog 33 #[.pointer (some ⟨p, 0, none⟩), .int .i64 v] w fun e w' => e = .returned (.tuple #[ptr (if askL V T v = 0 then V v else none), .int .i64 (askL V T v)]) ∧ w' = w := by
  have hq := h.lookV2 hv
  obtain ⟨-, c1, -, -, -⟩ := cellsL h.box
  cases hV : V v with
  | none =>
    have hA : askL V T v = 5 := by unfold askL; rw [hV, if_pos rfl]
    rw [hV] at hq
    rw [hA, if_neg (by decide)]
    have hq' : (Instr.lookup 48 (.map (some mv)) (.int .i64 v) true).run Try.prog w = .ok (.tuple #[.pointer none, .bool false]) w := hq
    clear h hv hV hq
    go_enter Try.func33, Try.ntmps33
    go_wp2_with fail
    go_ret2
    exact ⟨rfl, rfl⟩
  | some b =>
    obtain ⟨ov, iv, g1, -⟩ := h.sp v b hV
    obtain ⟨-, -, k2, -, -, -⟩ := cellsSp g1
    have hA0 : askL V T v = if L14.fnd T v = true then 0 else 130 := by unfold askL; rw [hV, if_neg (fun z => by cases z)]
    rw [hV] at hq
    have hq' : (Instr.lookup 48 (.map (some mv)) (.int .i64 v) true).run Try.prog w = .ok (.tuple #[.pointer (some ⟨b, 0, none⟩), .bool true]) w := hq
    cases hf : L14.fnd T v with
    | true =>
      have hf' : (T v).1 = true := hf
      rw [hf'] at k2
      rw [hf, if_pos rfl] at hA0
      rw [hA0, if_pos rfl]
      clear h hv hV hq g1 hf hf' hA0
      go_enter Try.func33, Try.ntmps33
      go_wp2_with fail
      go_ret2
      exact ⟨rfl, rfl⟩
    | false =>
      have hf' : (T v).1 = false := hf
      rw [hf'] at k2
      rw [hf, if_neg (by decide)] at hA0
      rw [hA0, if_neg (by decide)]
      clear h hv hV hq g1 hf hf' hA0
      go_enter Try.func33, Try.ntmps33
      go_wp2_with fail
      go_ret2
      exact ⟨rfl, rfl⟩
theorem askL_ok {v : Int} (h : askL V T v = 0) : ∃ b, V v = some b ∧ L14.fnd T v = true := by
  unfold askL at h
  cases hV : V v with
  | none => rw [hV, if_pos rfl] at h; cases h
  | some b =>
    rw [hV, if_neg (fun z => by cases z)] at h
    cases hf : L14.fnd T v with
    | true => exact ⟨b, rfl, rfl⟩
    | false => rw [hf, if_neg (by decide)] at h; cases h
set_option maxHeartbeats 1000000 in
theorem vdistT (h : LvAt L w p mv me s tc V nv E ne T O I) {v : Int} (hv : okN v) (hl : L14.cst T v ≤ 2139095040) : Calls Try.prog 14 #[.pointer (some ⟨p, 0, none⟩), .int .i64 v] w fun e w' => e = .returned (.tuple #[.int .u32 ((if askL V T v = 0 then L14.cst T v else 0 : Nat) : Int), .int .i64 (askL V T v)]) ∧ w' = w := by
  have C1 := hide (vreachedT h hv)
  have CB := hide (bits_nat hl)
  by_cases ha : askL V T v = 0
  · obtain ⟨b, hV, hf⟩ := askL_ok ha
    obtain ⟨ov, iv, g1, -⟩ := h.sp v b hV
    obtain ⟨-, -, -, k3, -, -⟩ := cellsSp g1
    have k3' : w.cell? ⟨b, 3, none⟩ = some (.float .f32 (L14.cst T v)) := k3
    rw [if_pos ha, ha, hV] at C1
    rw [if_pos ha, ha]
    have C1' : Hid (Calls Try.prog 33 #[.pointer (some ⟨p, 0, none⟩), .int .i64 v] w fun e w' => e = .returned (.tuple #[.pointer (some ⟨b, 0, none⟩), .int .i64 0]) ∧ w' = w) := C1
    generalize L14.cst T v = cc at *
    clear h hv hl C1 ha hV hf g1 k3
    go_enter Try.func14, Try.ntmps14
    go_wp2_with fail
    refine (unhide C1').mono ?_
    rintro e w1 ⟨rfl, hw1⟩
    rw [hw1]
    clear C1' hw1 w1
    go_wp2_with fail
    refine (unhide CB _).mono ?_
    rintro e w1 ⟨rfl, hw1⟩
    rw [hw1]
    clear CB hw1 w1
    go_wp2_with fail
    go_ret2
    exact ⟨rfl, rfl⟩
  · rw [if_neg ha] at C1
    rw [if_neg ha]
    have C1' : Hid (Calls Try.prog 33 #[.pointer (some ⟨p, 0, none⟩), .int .i64 v] w fun e w' => e = .returned (.tuple #[.pointer none, .int .i64 (askL V T v)]) ∧ w' = w) := C1
    generalize askL V T v = r at *
    have z0 : (r != 0) = true := by simpa using ha
    clear h hv hl C1 ha CB
    go_enter Try.func14, Try.ntmps14
    go_wp2_with fail
    refine (unhide C1').mono ?_
    rintro e w1 ⟨rfl, hw1⟩
    rw [hw1]
    clear C1' hw1 w1
    go_wp2_with fail
    go_ret2
    exact ⟨rfl, rfl⟩
set_option maxHeartbeats 1000000 in
theorem vlastT (h : LvAt L w p mv me s tc V nv E ne T O I) {v : Int} (hv : okN v) : Calls Try.prog 17 #[.pointer (some ⟨p, 0, none⟩), .int .i64 v] w fun e w' => e = .returned (.int .i64 (if askL V T v = 0 then L14.lst T v else 0)) ∧ w' = w := by
  have C1 := hide (vreachedT h hv)
  by_cases ha : askL V T v = 0
  · obtain ⟨b, hV, hf⟩ := askL_ok ha
    obtain ⟨ov, iv, g1, -⟩ := h.sp v b hV
    obtain ⟨-, -, -, -, k4, -⟩ := cellsSp g1
    have k4' : w.cell? ⟨b, 4, none⟩ = some (.int .i64 (L14.lst T v)) := k4
    rw [if_pos ha, ha, hV] at C1
    rw [if_pos ha]
    have C1' : Hid (Calls Try.prog 33 #[.pointer (some ⟨p, 0, none⟩), .int .i64 v] w fun e w' => e = .returned (.tuple #[.pointer (some ⟨b, 0, none⟩), .int .i64 0]) ∧ w' = w) := C1
    generalize L14.lst T v = cc at *
    clear h hv C1 ha hV hf g1 k4
    go_enter Try.func17, Try.ntmps17
    go_wp2_with fail
    refine (unhide C1').mono ?_
    rintro e w1 ⟨rfl, hw1⟩
    rw [hw1]
    clear C1' hw1 w1
    go_wp2_with fail
    go_ret
    exact ⟨rfl, rfl⟩
  · rw [if_neg ha] at C1
    rw [if_neg ha]
    have C1' : Hid (Calls Try.prog 33 #[.pointer (some ⟨p, 0, none⟩), .int .i64 v] w fun e w' => e = .returned (.tuple #[.pointer none, .int .i64 (askL V T v)]) ∧ w' = w) := C1
    generalize askL V T v = r at *
    have z0 : (r != 0) = true := by simpa using ha
    clear h hv C1 ha
    go_enter Try.func17, Try.ntmps17
    go_wp2_with fail
    refine (unhide C1').mono ?_
    rintro e w1 ⟨rfl, hw1⟩
    rw [hw1]
    clear C1' hw1 w1
    go_wp2_with fail
    go_ret
    exact ⟨rfl, rfl⟩
set_option maxHeartbeats 1000000 in
theorem vforgetT (h : LvAt L w p mv me s tc V nv E ne T O I) {v : Int} {b : Nat} (hv : okN v) (hV : V v = some b) : Calls Try.prog 57 #[.pointer (some ⟨p, 0, none⟩), .int .i64 v] w fun e w' => e = .returned (.tuple #[]) ∧ Hid (LvAt L w' p mv me s tc V nv E ne (L14.upd T v (false, 0, 0)) O I ∧ Turned (fun d => d = b) w w') := by
  have hq := h.lookV hv
  obtain ⟨-, c1, -, -, -⟩ := cellsL h.box
  obtain ⟨ov, iv, g1, -⟩ := h.sp v b hV
  obtain ⟨-, -, k2, k3, k4, kf⟩ := cellsSp g1
  have HE := hide (h.setSp hV (false, 0, 0))
  rw [hV] at hq
  have hq' : (Instr.lookup 48 (.map (some mv)) (.int .i64 v) false).run Try.prog w = .ok (.pointer (some ⟨b, 0, none⟩)) w := hq
  clear h hv hV hq g1
  go_enter Try.func57, Try.ntmps57
  go_wp2_with fail
  go_end0
  exact ⟨rfl, HE⟩
end
end

section
open Go.RowKit
/-- Whatever order is picked from here on; S holds behind every operation that is none of T. -/
def wpAnyL (P : Program) (md : Region.Mode) (ops : Array Oper) (Q : Exit → Act → World → Prop) (S : World → Prop) (T : List Nat) : Nat → Array Bool → Act → World → Prop
  | 0, listed, a, w => Region.ready md ops listed = [] ∧ Q .normal a w
  | fuel + 1, listed, a, w =>
    (Region.ready md ops listed = [] → Q .normal a w) ∧
    ∀ i ∈ Region.ready md ops listed, wpOp P ops Q i (fun a' w' => (T.contains i = false → S w') ∧ wpAnyL P md ops Q S T fuel (listed.setIfInBounds i true) a' w') a w

variable {P : Program} {ops : Array Oper} {Q : Exit → Act → World → Prop} {md : Region.Mode} {S : World → Prop} {T : List Nat}

theorem wpAny_of_L : ∀ (fuel : Nat) (listed : Array Bool) (a : Act) (w : World), wpAnyL P md ops Q S T fuel listed a w → wpAny P md ops Q fuel listed a w
  | 0, _, _, _, h => h
  | fuel + 1, _, _, _, h => ⟨h.1, fun i hi => wpOp_mono (fun a' w' h' => wpAny_of_L fuel _ a' w' h'.2) (h.2 i hi)⟩

/-- t waits for i. -/
def stuckB (md : Region.Mode) (ops : Array Oper) (i : Nat) : Nat → Nat → Bool
  | 0, _ => false
  | n + 1, t => match ops[t]? with
    | none => false
    | some o => o.after.toList.any fun e => Region.binds md e && (e.on == i || stuckB md ops i n e.on)
/-- Whatever has come up, all that it waits for has. -/
def closedB (md : Region.Mode) (ops : Array Oper) (listed : Array Bool) : Bool :=
  (List.range ops.size).all fun j => !listed.getD j false || match ops[j]? with
    | none => true
    | some o => o.after.toList.all fun e => !Region.binds md e || listed.getD e.on false
/-- All of T wait for i. -/
def tailB (md : Region.Mode) (ops : Array Oper) (T : List Nat) (i : Nat) : Bool := T.all fun t => stuckB md ops i ops.size t

def Closed (md : Region.Mode) (ops : Array Oper) (listed : Array Bool) : Prop := ∀ j o, ops[j]? = some o → listed.getD j false = true → ∀ e ∈ o.after, Region.binds md e = true → listed.getD e.on false = true

theorem closed_of {listed : Array Bool} (h : closedB md ops listed = true) : Closed md ops listed := fun j o ho hj e he hb => by
  have h1 := List.all_eq_true.1 h j (List.mem_range.2 (Array.getElem?_eq_some_iff.1 ho).1)
  rw [ho] at h1
  simp only [hj, Bool.not_true, Bool.false_or] at h1
  have h2 := List.all_eq_true.1 h1 e (by simpa using he)
  simpa [hb] using h2
theorem closed_ready {listed : Array Bool} {j : Nat} (h : Closed md ops listed) (hj : j ∈ Region.ready md ops listed) : Closed md ops (listed.setIfInBounds j true) := fun t o ho ht e he hb => by
  by_cases e1 : j = t
  · subst e1
    obtain ⟨-, o', ho', hall⟩ := mem_ready.1 hj
    rw [ho] at ho'
    cases ho'
    exact getD_set_true (hall e he hb)
  · rw [getD_set_ne false e1] at ht
    exact getD_set_true (h t o ho ht e he hb)
theorem stuck_not {listed : Array Bool} {i : Nat} (hc : Closed md ops listed) (hi : listed.getD i false = false) : ∀ n t, stuckB md ops i n t = true → listed.getD t false = false ∧ ¬ t ∈ Region.ready md ops listed
  | 0, t, h => by simp [stuckB] at h
  | n + 1, t, h => by
    unfold stuckB at h
    cases ho : ops[t]? with
    | none => rw [ho] at h; simp at h
    | some o =>
      rw [ho] at h
      obtain ⟨e, he, h2⟩ := List.any_eq_true.1 h
      rw [Bool.and_eq_true, Bool.or_eq_true] at h2
      have hun : listed.getD e.on false = false := by
        rcases h2.2 with h3 | h3
        · rw [beq_iff_eq] at h3; rw [h3]; exact hi
        · exact (stuck_not hc hi n e.on h3).1
      have he' : e ∈ o.after := by simpa using he
      refine ⟨?_, fun hr => ?_⟩
      · cases hl : listed.getD t false with
        | false => rfl
        | true => rw [hc t o ho hl e he' h2.1] at hun; cases hun
      · obtain ⟨-, o', ho', hall⟩ := mem_ready.1 hr
        rw [ho] at ho'
        cases ho'
        rw [hall e he' h2.1] at hun
        cases hun

theorem ready_unlisted {listed : Array Bool} {i : Nat} (h : i ∈ Region.ready md ops listed) : listed.getD i false = false := by
  have h0 := (mem_ready.1 h).1
  rcases Nat.lt_or_ge i listed.size with h' | h'
  · simp [h'] at h0 ⊢; exact h0
  · simp [Array.getElem?_eq_none h'] at h0

theorem wpAnyL_first {i : Nat} {oi : Oper} {v : Value} (hi : ops[i]? = some oi) (hsel : ∀ (j : Nat) (o : Oper) cs b, ops[j]? = some o → o.op ≠ .select cs b)
    (hQ : ∀ c a w, Q (.panic c) (a.put oi.dst v) w → Q (.panic c) a w) (hT : tailB md ops T i = true) :
    ∀ (fuel : Nat) (listed : Array Bool) (a : Act) (w : World), Closed md ops listed →
      (∀ j oj, ops[j]? = some oj → j ≠ i → listed.getD j true = false → (∀ e ∈ oj.after, Region.binds md e = true → e.on ≠ i) → oi.apart ops oj = true) →
      i ∈ Region.ready md ops listed → YieldsIf P ops S oi v a → S w →
      wpAnyL P md ops Q S T fuel (listed.setIfInBounds i true) (a.put oi.dst v) w → wpAnyL P md ops Q S T (fuel + 1) listed a w := by
  intro fuel
  induction fuel with
  | zero =>
    intro listed a w _ _ hr hy hS H
    refine ⟨fun h => (by rw [h] at hr; cases hr), fun j hj => ?_⟩
    by_cases hji : j = i
    · subst hji; exact hy.wpOp hi hS ⟨fun _ => hS, H⟩
    · have := ready_mono hj hji
      rw [H.1] at this
      cases this
  | succ fuel ih =>
    intro listed a w hcl hfree hr hy hS H
    refine ⟨fun h => (by rw [h] at hr; cases hr), fun j hj => ?_⟩
    by_cases hji : j = i
    · subst hji; exact hy.wpOp hi hS ⟨fun _ => hS, H⟩
    · have h1 := H.2 j (ready_mono hj hji)
      obtain ⟨hjun, oj, hoj, hall⟩ := mem_ready.1 hj
      have hnot : ∀ e ∈ oj.after, Region.binds md e = true → e.on ≠ i := fun e he hb heq => by
        have h1 := hall e he hb
        rw [heq, ready_unlisted hr] at h1
        cases h1
      have hTj : T.contains j = false := by
        cases ht : T.contains j with
        | false => rfl
        | true => exact absurd hj (stuck_not hcl (ready_unlisted hr) _ _ (List.all_eq_true.1 hT j (by simpa using ht))).2
      have h2 := wpOp_putIf hoj (hfree j oj hoj hji hjun hnot) (fun cs b => hsel i oi cs b hi) (fun cs b => hsel j oj cs b hoj) hQ hy h1
      have hfree' : ∀ k ok, ops[k]? = some ok → k ≠ i → (listed.setIfInBounds j true).getD k true = false →
          (∀ e ∈ ok.after, Region.binds md e = true → e.on ≠ i) → oi.apart ops ok = true := fun k ok hk hki hun hno => by
        refine hfree k ok hk hki ?_ hno
        by_cases hjk : j = k
        · subst hjk; exact hjun
        · rw [getD_set_ne true hjk] at hun; exact hun
      refine wpOp_mono (fun a' w' h3 => ⟨h3.2.1, ih (listed.setIfInBounds j true) a' w' (closed_ready hcl hj) hfree' (ready_mono hr (Ne.symm hji)) h3.1 (h3.2.1 hTj) ?_⟩) h2
      rw [Array.setIfInBounds_comm _ _ hji]
      exact h3.2.2

theorem takeL {i : Nat} {oi : Oper} {v : Value} {fuel : Nat} {listed : Array Bool} {a : Act} {w : World} (d : Option Tmp) (hi : ops[i]? = some oi) (hd : oi.dst = d)
    (hs : Region.noSelect ops = true) (hf : Region.free md ops listed i = true) (hr : (Region.ready md ops listed).contains i = true) (hcl : closedB md ops listed = true) (hT : tailB md ops T i = true)
    (hQ : ∀ c a w, Q (.panic c) (a.put d v) w → Q (.panic c) a w) (hy : YieldsIf P ops S oi v a) (hS : S w)
    (h : wpAnyL P md ops Q S T fuel (listed.setIfInBounds i true) (a.put d v) w) : wpAnyL P md ops Q S T (fuel + 1) listed a w := by
  subst hd
  exact wpAnyL_first hi (Region.noSelect_spec hs) hQ hT fuel listed a w (closed_of hcl) (Region.free_spec hi hf) (by simpa using hr) hy hS h

/-- The one operation that may come up now. -/
theorem readyL {i : Nat} {o : Oper} {fuel : Nat} {listed : Array Bool} {a : Act} {w : World} (hr : Region.ready md ops listed = [i]) (ho : ops[i]? = some o)
    (h : ∀ K' : Act → World → Prop, Shut (∀ a w, (T.contains i = false → S w) → wpAnyL P md ops Q S T fuel (listed.setIfInBounds i true) a w → K' a w) → if Region.wanted o (yielded ops a.tmps) = true then Oper.wp P o a w K' Q else K' (a.put o.dst undef) w) :
    wpAnyL P md ops Q S T (fuel + 1) listed a w := by
  refine ⟨fun h0 => (by rw [hr] at h0; cases h0), fun j hj => ?_⟩
  rw [hr] at hj
  obtain rfl : j = i := by simpa using hj
  exact wpOp_step ho (fun K' hK => h K' (fun a w hS hW => hK a w ⟨hS, hW⟩))

theorem doneL {listed : Array Bool} {a : Act} {w : World} (hr : Region.ready md ops listed = []) (h : Q .normal a w) : ∀ fuel, wpAnyL P md ops Q S T fuel listed a w
  | 0 => ⟨hr, h⟩
  | _ + 1 => ⟨fun _ => h, by rw [hr]; simp⟩

theorem regionL {id : Nat} {a : Act} {w : World} (T : List Nat) (S : World → Prop) (hm : P.follows .mixedOrders = true) (hS : S w.drew)
    (h : S w.drew → wpAnyL P .any ops Q S T ops.size (Array.replicate ops.size false) a w.drew) : (Code.region id ops true).wp P Q a w :=
  wp_region_any hm (wpAny_of_L _ _ _ _ (h hS))
end

section
open Go.RowKit Go.Maps
def costL (T : L14.Tr) (v : Int) : Nat := if L14.fnd T v = true then L14.cst T v else 4294967296
/-- How much there is to gain. -/
def muL (vs : List Int) (T : L14.Tr) : Nat := (vs.map (costL T)).sum
theorem muL_upd {T : L14.Tr} {v : Int} {x : L14.Sp} : ∀ {vs : List Int}, vs.Nodup → v ∈ vs → costL (L14.upd T v x) v < costL T v → muL vs (L14.upd T v x) < muL vs T
  | [], _, h, _ => by cases h
  | u :: vs, hn, hm, hc => by
    obtain ⟨h1, h2⟩ := List.nodup_cons.1 hn
    have other : ∀ w, w ≠ v → costL (L14.upd T v x) w = costL T w := fun w q => by unfold costL L14.fnd L14.cst; rw [L14.upd_ne q]
    unfold muL
    rw [List.map_cons, List.map_cons, List.sum_cons, List.sum_cons]
    by_cases e : u = v
    · subst e
      have : vs.map (costL (L14.upd T u x)) = vs.map (costL T) := List.map_congr_left (fun w hw => other w (fun z => h1 (by rw [← z]; exact hw)))
      rw [this]; omega
    · have hm' : v ∈ vs := (List.mem_cons.1 hm).resolve_left (fun z => e z.symm)
      have := muL_upd (T := T) (x := x) h2 hm' hc
      unfold muL at this
      rw [other u e]; omega
/-- The keys that wait. -/
def QK (ms : List EntF) (v : Int) : Prop := ∃ x ∈ ms, x.key = v
/-- The search's order: P were gone on from, none of them lies above mx, none that waits below it. -/
structure OrdL (T : L14.Tr) (ms : List EntF) (P : List Int) (mx : Nat) : Prop where
  rk : ∀ x ∈ ms, x.rank = L14.cst T x.key
  nd : P.Nodup
  pf : ∀ v ∈ P, L14.fnd T v = true ∧ L14.cst T v ≤ mx ∧ ¬ QK ms v
  lo : ∀ x ∈ ms, mx ≤ x.rank
/-- Nothing is farther. -/
def MonoL (T T' : L14.Tr) : Prop := ∀ v, costL T' v ≤ costL T v
theorem MonoL.refl (T : L14.Tr) : MonoL T T := fun _ => Nat.le_refl _
theorem MonoL.trans {T T' T2 : L14.Tr} (h1 : MonoL T T') (h2 : MonoL T' T2) : MonoL T T2 := fun v => Nat.le_trans (h2 v) (h1 v)
/-- Something is nearer. -/
def GainL (T T' : L14.Tr) : Prop := ∃ v, costL T' v < costL T v
theorem GainL.after {T T' T2 : L14.Tr} (h1 : GainL T T') (h2 : MonoL T' T2) : GainL T T2 := by
  obtain ⟨v, hv⟩ := h1
  exact ⟨v, Nat.lt_of_le_of_lt (h2 v) hv⟩
theorem cst_upd_ne {T : L14.Tr} {v w : Int} {x : L14.Sp} (h : w ≠ v) : L14.cst (L14.upd T v x) w = L14.cst T w := by unfold L14.cst; rw [L14.upd_ne h]
theorem fnd_upd_ne {T : L14.Tr} {v w : Int} {x : L14.Sp} (h : w ≠ v) : L14.fnd (L14.upd T v x) w = L14.fnd T w := by unfold L14.fnd; rw [L14.upd_ne h]
theorem cst_upd_self {T : L14.Tr} {v : Int} {f : Bool} {k : Nat} {e : Int} : L14.cst (L14.upd T v (f, k, e)) v = k := by unfold L14.cst; rw [L14.upd_self]
theorem fnd_upd_self {T : L14.Tr} {v : Int} {f : Bool} {k : Nat} {e : Int} : L14.fnd (L14.upd T v (f, k, e)) v = f := by unfold L14.fnd; rw [L14.upd_self]
theorem OrdL.start (T : L14.Tr) : OrdL T [] [] 0 := ⟨fun _ h => (by cases h), List.nodup_nil, fun _ h => (by cases h), fun _ h => (by cases h)⟩
/-- What is nearer by an offer was not gone on from. -/
theorem OrdL.fresh {T : L14.Tr} {ms : List EntF} {P : List Int} {mx : Nat} (h : OrdL T ms P mx) {v : Int} {k : Nat} (hk : mx ≤ k) (hs : L14.fnd T v = false ∨ (L14.fnd T v = true ∧ k < L14.cst T v)) : v ∉ P := fun hv => by
  obtain ⟨a, b, -⟩ := h.pf v hv
  rcases hs with q | ⟨-, q⟩
  · rw [a] at q; cases q
  · omega
theorem OrdL.push {T : L14.Tr} {ms : List EntF} {P : List Int} {mx : Nat} (h : OrdL T ms P mx) {v e : Int} {k nn : Nat} (hk : mx ≤ k) (hv : v ∉ P) (hq : ¬ QK ms v) : OrdL (L14.upd T v (true, k, e)) (ms ++ [⟨v, k, nn⟩]) P mx := by
  have hne : ∀ w ∈ P, w ≠ v := fun w hw z => hv (by rw [← z]; exact hw)
  refine ⟨fun x hx => ?_, h.nd, fun w hw => ?_, fun x hx => ?_⟩
  · rcases List.mem_append.1 hx with q | q
    · rw [cst_upd_ne (fun z => hq ⟨x, q, z⟩)]; exact h.rk x q
    · rw [List.mem_singleton.1 q]; exact cst_upd_self.symm
  · obtain ⟨a, b, c⟩ := h.pf w hw
    refine ⟨by rw [fnd_upd_ne (hne w hw)]; exact a, by rw [cst_upd_ne (hne w hw)]; exact b, fun ⟨x, hx, z⟩ => ?_⟩
    rcases List.mem_append.1 hx with q | q
    · exact c ⟨x, q, z⟩
    · rw [List.mem_singleton.1 q] at z; exact hne w hw z.symm
  · rcases List.mem_append.1 hx with q | q
    · exact h.lo x q
    · rw [List.mem_singleton.1 q]; exact hk
theorem mem_loweredL {k : Int} {r : Nat} {ms : List EntF} {x : EntF} (h : x ∈ lowered k r ms) : ∃ y ∈ ms, x.key = y.key ∧ (y.key = k → x.rank = r) ∧ (y.key ≠ k → x = y) := by
  unfold lowered at h
  obtain ⟨y, hy, rfl⟩ := List.mem_map.1 h
  by_cases e : y.key = k
  · rw [if_pos e]; exact ⟨y, hy, rfl, fun _ => rfl, fun z => absurd e z⟩
  · rw [if_neg e]; exact ⟨y, hy, rfl, fun z => absurd z e, fun _ => rfl⟩
theorem qk_lowered {k : Int} {r : Nat} {ms : List EntF} {u : Int} : QK (lowered k r ms) u ↔ QK ms u := by
  constructor
  · rintro ⟨x, hx, e⟩
    obtain ⟨y, hy, q, -⟩ := mem_loweredL hx
    exact ⟨y, hy, q.symm.trans e⟩
  · rintro ⟨y, hy, e⟩
    refine ⟨_, List.mem_map.2 ⟨y, hy, rfl⟩, ?_⟩
    by_cases q : y.key = k
    · rw [if_pos q]; exact e
    · rw [if_neg q]; exact e
theorem OrdL.lower {T : L14.Tr} {ms : List EntF} {P : List Int} {mx : Nat} (h : OrdL T ms P mx) {v e : Int} {k : Nat} (hk : mx ≤ k) (hv : v ∉ P) : OrdL (L14.upd T v (true, k, e)) (lowered v k ms) P mx := by
  have hne : ∀ w ∈ P, w ≠ v := fun w hw z => hv (by rw [← z]; exact hw)
  refine ⟨fun x hx => ?_, h.nd, fun w hw => ?_, fun x hx => ?_⟩
  · obtain ⟨y, hy, a, b, c⟩ := mem_loweredL hx
    by_cases q : y.key = v
    · rw [b q, a, q]; exact cst_upd_self.symm
    · rw [c q, cst_upd_ne q]; exact h.rk y hy
  · obtain ⟨a, b, c⟩ := h.pf w hw
    exact ⟨by rw [fnd_upd_ne (hne w hw)]; exact a, by rw [cst_upd_ne (hne w hw)]; exact b, fun z => c (qk_lowered.1 z)⟩
  · obtain ⟨y, hy, a, b, c⟩ := mem_loweredL hx
    by_cases q : y.key = v
    · rw [b q]; exact hk
    · rw [c q]; exact h.lo y hy
/-- The least that waits is gone on from. -/
theorem OrdL.pop {T : L14.Tr} {ms : List EntF} {P : List Int} {mx : Nat} (h : OrdL T ms P mx) (hf : ∀ v, QK ms v → L14.fnd T v = true) {x : EntF} (hx : x ∈ ms) (hle : ∀ y ∈ ms, x.rank ≤ y.rank) : OrdL T (without x.key ms) (x.key :: P) (L14.cst T x.key) := by
  have sub : ∀ y, y ∈ without x.key ms → y ∈ ms ∧ y.key ≠ x.key := fun y hy => by
    unfold without at hy
    obtain ⟨a, b⟩ := List.mem_filter.1 hy
    exact ⟨a, of_decide_eq_true b⟩
  have hr := h.rk x hx
  have hm := h.lo x hx
  refine ⟨fun y hy => h.rk y (sub y hy).1, List.nodup_cons.2 ⟨fun z => (h.pf _ z).2.2 ⟨x, hx, rfl⟩, h.nd⟩, fun w hw => ?_, fun y hy => by rw [← hr]; exact hle y (sub y hy).1⟩
  rcases List.mem_cons.1 hw with z | z
  · rw [z]; exact ⟨hf _ ⟨x, hx, rfl⟩, Nat.le_refl _, fun ⟨y, hy, e⟩ => (sub y hy).2 e⟩
  · obtain ⟨a, b, c⟩ := h.pf w z
    exact ⟨a, by omega, fun ⟨y, hy, e⟩ => c ⟨y, (sub y hy).1, e⟩⟩
theorem qk_without {x : Int} {ms : List EntF} {u : Int} : QK (without x ms) u ↔ u ≠ x ∧ QK ms u := by
  unfold without
  constructor
  · rintro ⟨y, hy, e⟩
    obtain ⟨a, b⟩ := List.mem_filter.1 hy
    have b := of_decide_eq_true b
    exact ⟨by rw [← e]; exact b, y, a, e⟩
  · rintro ⟨a, y, hy, e⟩
    exact ⟨y, List.mem_filter.2 ⟨hy, decide_eq_true (by rw [e]; exact a)⟩, e⟩
/-- The tree, and beside it the heap at ph, whose blocks begin at N0. -/
structure LH [Inhabited EntF] (N0 : Nat) (L : Lab) (w : World) (p mv me : Nat) (s tc : Int) (V : Int → Option Nat) (nv : Nat) (E : L14.Es) (ne : Nat) (T : L14.Tr) (O I : Int → List Int) (ph : Nat) (ms : List EntF) (nn : Nat) : Prop where
  lv : LvAt L w p mv me s tc V nv E ne T O I
  on : ∃ F, OnF w ph F ms nn ∧ ∀ b, F b → L b = none ∧ N0 ≤ b
  ml : ms.length ≤ nn
  nw : ∀ b, w.heap.size ≤ b → L b = none
  n0 : N0 ≤ w.heap.size
/-- What a step of a repair may touch. -/
abbrev Tou (N0 : Nat) (L : Lab) (w w' : World) : Prop := Turned (fun b => (∃ v, L b = some (4, v)) ∨ (N0 ≤ b ∧ L b = none)) w w'
section
variable [Inhabited EntF] {N0 : Nat} {L : Lab} {w w' : World} {p mv me : Nat} {s tc : Int} {V : Int → Option Nat} {nv : Nat} {E : L14.Es} {ne : Nat} {T T' : L14.Tr} {O I : Int → List Int} {ph : Nat} {ms ms' : List EntF} {nn nn' : Nat}
theorem LH.below (h : LH N0 L w p mv me s tc V nv E ne T O I ph ms nn) (hb : Below w.heap.size w w') : LH N0 L w' p mv me s tc V nv E ne T O I ph ms nn := by
  obtain ⟨F, ho, hF⟩ := h.on
  exact ⟨h.lv.below hb, ⟨F, ho.kept (fun k hk => hb.block k (ho.lt hk)), hF⟩, h.ml, fun b q => h.nw b (Nat.le_trans hb.size q), Nat.le_trans h.n0 hb.size⟩
/-- The tree is written, the heap stays. -/
theorem LH.tree (h : LH N0 L w p mv me s tc V nv E ne T O I ph ms nn) {b : Nat} {v : Int} (hl : LvAt L w' p mv me s tc V nv E ne T' O I) (ht : Turned (fun d => d = b) w w') (hb : L b = some (4, v)) : LH N0 L w' p mv me s tc V nv E ne T' O I ph ms nn ∧ Tou N0 L w w' := by
  obtain ⟨F, ho, hF⟩ := h.on
  exact ⟨⟨hl, ⟨F, ho.kept (fun k hk => ht.block k (ho.lt hk) (fun z => by have := (hF k hk).1; rw [z, hb] at this; cases this)), hF⟩, h.ml, fun d q => h.nw d (Nat.le_trans ht.size q), Nat.le_trans h.n0 ht.size⟩, ht.mono (fun k _ e => .inl ⟨v, by rw [e]; exact hb⟩)⟩
/-- The heap is another, the tree stays. -/
theorem LH.heap {F F' : Nat → Prop} (h : LH N0 L w p mv me s tc V nv E ne T O I ph ms nn) (hF : ∀ b, F b → L b = none ∧ N0 ≤ b) (ho : OnF w' ph F' ms' nn') (ht : Turned F w w') (hs : ∀ j, F' j → F j ∨ w.heap.size ≤ j) (hm : ms'.length ≤ nn') : LH N0 L w' p mv me s tc V nv E ne T O I ph ms' nn' ∧ Tou N0 L w w' :=
  ⟨⟨h.lv.kept (fun b hb hl => ht.block b hb (fun z => hl (hF b z).1)), ⟨F', ho, fun j hj => (hs j hj).elim (hF j) (fun q => ⟨h.nw j q, Nat.le_trans h.n0 q⟩)⟩, hm, fun d q => h.nw d (Nat.le_trans ht.size q), Nat.le_trans h.n0 ht.size⟩, ht.mono (fun k _ e => .inr ⟨(hF k e).2, (hF k e).1⟩)⟩
/-- What Push leaves: whether the key is new, it waits. -/
def PushAns [Inhabited EntF] (N0 : Nat) (L : Lab) (w : World) (p mv me : Nat) (s tc : Int) (V : Int → Option Nat) (nv : Nat) (E : L14.Es) (ne : Nat) (T : L14.Tr) (O I : Int → List Int) (ph : Nat) (ms : List EntF) (nn : Nat) (v : Int) (k : Nat) (r : Bool) (w' : World) : Prop :=
  (r = true ∧ ¬ QK ms v ∧ LH N0 L w' p mv me s tc V nv E ne T O I ph (ms ++ [⟨v, k, nn⟩]) (nn + 1) ∧ Tou N0 L w w') ∨ (r = false ∧ QK ms v ∧ w' = w)
theorem pushL (h : LH N0 L w p mv me s tc V nv E ne T O I ph ms nn) {v : Int} {k : Nat} (hv : okN v) (hk : k ≤ 2139095040) (hn : nn < 1000000000000) :
    Calls Try.prog 65 #[.pointer (some ⟨ph, 0, none⟩), .int .i64 v, .float .f32 k] w fun e w' => ∃ r, e = .returned (.bool r) ∧ Hid (PushAns N0 L w p mv me s tc V nv E ne T O I ph ms nn v k r w') := by
  obtain ⟨F, ho, hF⟩ := h.on
  have hml := h.ml
  by_cases hq : QK ms v
  · have C := ho.pushIn v k hv hq
    rw [show cfl k = k from Nat.min_eq_left hk] at C
    refine C.mono ?_
    rintro e w1 ⟨rfl, hw⟩
    exact ⟨false, rfl, .inr ⟨rfl, hq, hw⟩⟩
  · have C := ho.push v k hv (fun x hx e => hq ⟨x, hx, e⟩) (by omega) (by omega)
    rw [show cfl k = k from Nat.min_eq_left hk] at C
    refine C.mono ?_
    rintro e w1 ⟨rfl, F', g1, g2, g3⟩
    obtain ⟨f1, f2⟩ := h.heap (ms' := ms ++ [⟨v, k, nn⟩]) hF g1 g2 g3 (by simp; omega)
    exact ⟨true, rfl, .inl ⟨rfl, hq, f1, f2⟩⟩
theorem lowerL (h : LH N0 L w p mv me s tc V nv E ne T O I ph ms nn) {v : Int} {k : Nat} (hq : QK ms v) (hk : k ≤ 2139095040) (hn : nn < 1000000000000) (hr : ∀ x ∈ ms, x.key = v → k < x.rank ∧ x.rank ≤ 2139095040) :
    Calls Try.prog 66 #[.pointer (some ⟨ph, 0, none⟩), .int .i64 v, .float .f32 k] w fun e w' => ∃ r, e = .returned (.bool r) ∧ Hid (LH N0 L w' p mv me s tc V nv E ne T O I ph (lowered v k ms) nn ∧ Tou N0 L w w') := by
  obtain ⟨F, ho, hF⟩ := h.on
  have hml := h.ml
  obtain ⟨x, hx, e⟩ := hq
  obtain ⟨r1, r2⟩ := hr x hx e
  have C := ho.lower hx k (by omega)
  rw [show cfl k = k from Nat.min_eq_left hk, e] at C
  have hgf : gf k < gf x.rank := by unfold gf; rw [show cfl k = k from Nat.min_eq_left hk, show cfl x.rank = x.rank from Nat.min_eq_left r2]; omega
  rw [if_pos hgf] at C
  refine C.mono ?_
  rintro e1 w1 ⟨rfl, g1, g2⟩
  exact ⟨_, rfl, h.heap hF g1 g2 (fun j hj => .inl hj) (by unfold lowered; rw [List.length_map]; exact hml)⟩
/-- What Pop answers. -/
def PopL [Inhabited EntF] (N0 : Nat) (L : Lab) (w : World) (p mv me : Nat) (s tc : Int) (V : Int → Option Nat) (nv : Nat) (E : L14.Es) (ne : Nat) (T : L14.Tr) (O I : Int → List Int) (ph : Nat) (ms : List EntF) (nn : Nat) (a : Int) (b : Bool) (w' : World) : Prop :=
  (b = true ∧ ∃ x ∈ ms, a = x.key ∧ (∀ y ∈ ms, gf x.rank ≤ gf y.rank) ∧ LH N0 L w' p mv me s tc V nv E ne T O I ph (without x.key ms) nn ∧ Tou N0 L w w') ∨ (b = false ∧ ms = [] ∧ w' = w)
theorem popL (h : LH N0 L w p mv me s tc V nv E ne T O I ph ms nn) (hn : nn < 1000000000000) :
    Calls Try.prog 67 #[.pointer (some ⟨ph, 0, none⟩)] w fun e w' => ∃ a c b, e = .returned (.tuple #[.int .i64 a, .float .f32 c, .bool b]) ∧ Hid (PopL N0 L w p mv me s tc V nv E ne T O I ph ms nn a b w') := by
  obtain ⟨F, ho, hF⟩ := h.on
  have hml := h.ml
  cases hm : ms with
  | nil =>
    subst hm
    refine ho.popNone.mono ?_
    rintro e w' ⟨rfl, rfl⟩
    exact ⟨_, _, _, rfl, .inr ⟨rfl, rfl, rfl⟩⟩
  | cons m0 mr =>
    rw [← hm]
    refine (ho.pop (by rw [hm]; simp) (by omega)).mono ?_
    rintro e w' ⟨x, hx, rfl, hle, F', g1, g2, g3⟩
    obtain ⟨f1, f2⟩ := h.heap (ms' := without x.key ms) hF g1 g2 g3 (Nat.le_trans (List.length_filter_le _ _) hml)
    refine ⟨_, _, _, rfl, .inl ⟨rfl, x, hx, rfl, fun y hy => ?_, f1, f2⟩⟩
    have := hle y hy
    unfold le at this
    omega
end
end

end Go.Proofs.Ytbmcibofecigeaa
