/- The calls on edges, on both. -/
import Derived.Test.YtgocbcacfcfblaaGreatRel7
import Derived.Test.YtgocbcacfcfblaaGreatRefAddD
import Derived.Test.YtgocbcacfcfblaaGreatRefRewB
import Derived.Test.YtgocbcacfcfblaaGreatRefRew
namespace Go.Proofs.YtgocbcacfcfblaaGreat

section
open Go.RowKit Go.Maps
/-- Bounds behind n calls. -/
structure Bnd (n : Nat) (g : Gr) (es : List EdgeV) : Prop where
  nb : g.nb + 65536 * es.length ≤ 131072 * n
  wr0 : 0 ≤ g.wr
  wr1 : g.wr + es.length ≤ 2 * n
  rd0 : 0 ≤ g.rd
  rd1 : g.rd ≤ n
  wt : ∀ x ∈ es, 0 ≤ x.2.2.2 ∧ kept x.2.2.2 = some x.2.2.2
theorem Bnd.up {n m : Nat} {g : Gr} {es : List EdgeV} (h : Bnd n g es) (hm : n ≤ m) : Bnd m g es := by
  obtain ⟨h1, h2, h3, h4, h5, h6⟩ := h
  exact ⟨by omega, h2, by omega, h4, by omega, h6⟩
theorem kept_fit {n kb : Int} (h0 : 0 ≤ n) (h : kept n = some kb) : 0 ≤ kb ∧ kept kb = some kb := by
  unfold kept at h
  by_cases h1 : n = 2147483648
  · rw [if_pos h1] at h; cases h; exact ⟨by omega, rfl⟩
  · rw [if_neg h1] at h
    by_cases h2 : 2139095040 ≤ n
    · rw [if_pos h2] at h; cases h
    · rw [if_neg h2] at h; cases h
      exact ⟨h0, by unfold kept; rw [if_neg h1, if_neg h2]⟩
/-- A picture and a graph behind n calls. -/
def Nx (n : Nat) (g : Gr) (vs : List Int) (es : List EdgeV) : Prop := RelG g vs es ∧ Bnd n g es

structure Game [Inhabited EntI] (n : Nat) (X : Sto) (g : Gr) (vv ev : Value) (vs : List Int) (es : List EdgeV) (w : World) : Prop where
  st : StAt w X
  sh : Shows X g
  rel : RelG g vs es
  bnd : Bnd n g es
  few : n ≤ 1000
  vrow : NRow w vv vs
  erow : GRow 0 w ev es
  vfr : ∀ b, vv.ownBlock = some b → X.L b = none
  efr : ∀ b, ev.ownBlock = some b → X.L b = none

theorem addV_shows {X : Sto} {g : Gr} {k : Int} {q : Nat} (h3 : Shows X g) : Shows (X.more k q) { g with V := fun j => decide (j = k) || g.V j, N := g.N + 1 } := by
  refine ⟨fun j => ?_, by show X.N + 1 = _; rw [h3.N], h3.ps, h3.rd, h3.wr, h3.n⟩
  show (putK X.f k (some q) j).isSome = _
  unfold putK
  by_cases e : j = k
  · rw [if_pos e]; simp [e]
  · rw [if_neg e, h3.V]; simp [e]
/-- The store goes on to a picture. -/
def Goes [Inhabited EntI] (w : World) (X : Sto) (g : Gr) (w' : World) : Prop := ∃ X', Step w X w' X' ∧ Shows X' g

section
variable [Inhabited EntI] {n : Nat} {w w' : World} {X X' : Sto} {g g' : Gr} {vv ev : Value} {vs vs' : List Int} {es es' : List EdgeV}

theorem Goes.same (h : StAt w X) (h3 : Shows X g) : Goes w X g w := ⟨X, Step.refl h, h3⟩
theorem Goes.below (h : StAt w X) (h3 : Shows X g) (hb : Below w.heap.size w w') : Goes w X g w' := ⟨X, Step.below h hb, h3⟩
theorem Game.vlen (h : Game n X g vv ev vs es w) : vs.length ≤ 256 := by
  have := h.st.size; have := h.sh.N; have := h.rel.N; omega
theorem Game.elen (h : Game n X g vv ev vs es w) : es.length ≤ 1024 := by
  have h1 := h.rel.len
  have h2 := h.st.tab.len
  have h3 := h.sh.ps
  rw [h3] at h2; omega
theorem Game.plen (h : Game n X g vv ev vs es w) : (g.ps.length : Int) ≤ 1024 := by
  have h2 := h.st.tab.len
  rw [h.sh.ps] at h2; exact h2
theorem Game.nb (h : Game n X g vv ev vs es w) : g.nb ≤ 200000000 := by
  have := h.bnd.nb; have := h.few; omega
theorem Game.wrs (h : Game n X g vv ev vs es w) : 0 ≤ g.wr ∧ g.wr ≤ 2000 := by
  have := h.bnd.wr0; have := h.bnd.wr1; have := h.few; omega
theorem Game.rds (h : Game n X g vv ev vs es w) : 0 ≤ g.rd ∧ g.rd ≤ 1000 := by
  have := h.bnd.rd0; have := h.bnd.rd1; have := h.few; omega

/-- The store's call: the reference's lists stay. -/
theorem Game.store (h : Game n X g vv ev vs es w) (hS : Step w X w' X') : NRow w' vv vs ∧ GRow 0 w' ev es ∧ (∀ b, vv.ownBlock = some b → X'.L b = none) ∧ ∀ b, ev.ownBlock = some b → X'.L b = none := by
  obtain ⟨-, -, hF⟩ := hS
  exact ⟨nrow_kept h.vrow (fun b hb => (hF.old (h.vrow.lt b hb).2 (h.vfr b hb)).1), grow_kept h.erow (fun b hb => (hF.old (h.erow.lt b hb).2 (h.efr b hb)).1), fun b hb => (hF.old (h.vrow.lt b hb).2 (h.vfr b hb)).2, fun b hb => (hF.old (h.erow.lt b hb).2 (h.efr b hb)).2⟩
theorem StMid.none_new {lo li : Int → List Int} (h : StMid w X lo li) {b : Nat} (hb : w.heap.size ≤ b) : X.L b = none := h.new hb

theorem pairAddV (h : Game n X g vv ev vs es w) (v : Int) :
    ∃ (c : Int) (g' : Gr), (Calls Tryz.prog 24 #[.pointer (some ⟨X.s, 0, none⟩), .int .i64 v] w fun e w' => e = .returned (.int .i64 c) ∧ Hid (Goes w X g' w')) ∧
      ∀ W, NRow W vv vs → GRow 0 W ev es → Calls Tryz.prog 52 #[.agg #[vv, ev, .int .i64 g.rd, .int .i64 g.wr], .int .i64 v] W fun e w' => Hid (∃ vs' es', Nx (n + 1) g' vs' es' ∧ AnsG W vv ev vs' es' g'.rd g'.wr c e w') := by
  have hl := h.vlen
  have hb := h.bnd.up (Nat.le_succ n)
  by_cases h1 : v < 0 ∨ 2147483647 < v
  · exact ⟨4, g, (addVBad v h.st h1).mono fun _ _ ⟨e, e2⟩ => ⟨e, by subst e2; exact Goes.same h.st h.sh⟩, fun W r1 r2 => (refAddVBad v r1 r2 h1).mono fun _ _ hh => ⟨vs, es, ⟨h.rel, hb⟩, unhide hh⟩⟩
  have h2 : 0 ≤ v ∧ v ≤ 2147483647 := by omega
  cases hv : g.V v with
  | true => exact ⟨2, g, (addVTwice v h.st (h.sh.some_ hv)).mono fun _ _ ⟨e, e2⟩ => ⟨e, by subst e2; exact Goes.same h.st h.sh⟩, fun W r1 r2 => (refAddVTwice v r1 r2 (by omega) h2.1 h2.2 ((h.rel.V v).1 hv)).mono fun _ _ hh => ⟨vs, es, ⟨h.rel, hb⟩, unhide hh⟩⟩
  | false =>
    have hm : v ∉ vs := fun e => by rw [(h.rel.V v).2 e] at hv; cases hv
    have hN := h.rel.N
    have hS := h.st.size
    rw [h.sh.N] at hS
    by_cases h3 : g.N < 256
    · refine ⟨0, { g with V := fun j => decide (j = v) || g.V j, N := g.N + 1 }, (addVS v h.st h2.1 h2.2 (h.sh.none_ hv) (by rw [h.sh.N]; exact h3)).mono fun _ _ ⟨e, hh⟩ => ⟨e, _, unhide hh, addV_shows h.sh⟩, fun W r1 r2 => (refAddV v r1 r2 (by omega) h2.1 h2.2 hm (by omega) h.rel.rv).mono fun _ _ hh => ⟨plus vs v, es, ⟨h.rel.addV hv, ?_⟩, unhide hh⟩⟩
      exact ⟨hb.nb, hb.wr0, hb.wr1, hb.rd0, hb.rd1, hb.wt⟩
    · exact ⟨8, g, (addVMany v h.st h2.1 h2.2 (h.sh.none_ hv) (by rw [h.sh.N]; omega)).mono fun _ _ ⟨e, e2⟩ => ⟨e, by subst e2; exact Goes.same h.st h.sh⟩, fun W r1 r2 => (refAddVMany v r1 r2 (by omega) h2.1 h2.2 hm (by omega)).mono fun _ _ hh => ⟨vs, es, ⟨h.rel, hb⟩, unhide hh⟩⟩

theorem lose_shows {k : Int} {w1 : World} (h3 : Shows X g) (hV : Vanished w X k w1 X') : Shows X' (g.lose k) := by
  obtain ⟨-, r1, r2, r3, r4, r5, r6⟩ := hV
  rw [h3.ps] at r1 r5 r6
  have hN := h3.N
  refine ⟨fun j => ?_, ?_, r1, r4.trans h3.rd, by rw [r5, h3.wr]; rfl, Nat.le_trans r6 (Nat.add_le_add_right h3.n _)⟩
  · rw [r2]
    show (putK X.f k none j).isSome = _
    unfold putK
    by_cases e : j = k
    · rw [if_pos e]; simp [e, Gr.lose]
    · rw [if_neg e, h3.V]; simp [e, Gr.lose]
  · show X'.N = g.N - 1
    omega
theorem pairDropV (h : Game n X g vv ev vs es w) (v : Int) (hok : okN v) :
    ∃ (c : Int) (g' : Gr) (gs : List EdgeV), gs.length ≤ 1024 ∧ (Calls Tryz.prog 53 #[.pointer (some ⟨X.s, 0, none⟩), .int .i64 v] w fun e w' => ∃ (a : Option Addr) (m k : Nat), e = .returned (.tuple #[.slice a m k, .int .i64 c]) ∧ Hid ((∃ X', Step w X w' X' ∧ Shows X' g' ∧ ∀ b, (Value.slice a m k).ownBlock = some b → X'.L b = none) ∧ GRow w.heap.size w' (.slice a m k) gs)) ∧
      ∀ W, NRow W vv vs → GRow 0 W ev es → Calls Tryz.prog 54 #[.agg #[vv, ev, .int .i64 g.rd, .int .i64 g.wr], .int .i64 v] W fun e w' => Hid (∃ vs' es', Nx (n + 1) g' vs' es' ∧ AnsGL W vv ev vs' es' g'.rd g'.wr gs c e w') := by
  have hl := h.vlen
  have hle := h.elen
  have hb := h.bnd.up (Nat.le_succ n)
  have hw := h.wrs
  cases hv : g.V v with
  | false =>
    have hm : v ∉ vs := fun e => by rw [(h.rel.V v).2 e] at hv; cases hv
    exact ⟨5, g, [], by simp, (dropVNo v h.st hok (h.sh.none_ hv)).mono fun _ _ ⟨e, e2⟩ => ⟨none, 0, 0, e, by subst e2; exact ⟨⟨X, Step.refl h.st, h.sh, fun b hb => by cases hb⟩, ⟨rfl, .inl ⟨rfl, rfl⟩⟩⟩⟩, fun W r1 r2 => (refDropVNo v r1 r2 (by omega) hm).mono fun _ _ hh => ⟨vs, es, ⟨h.rel, hb⟩, unhide hh⟩⟩
  | true =>
    obtain ⟨q, hq⟩ : ∃ q, X.f v = some q := by cases e : X.f v with | none => exact absurd e (h.sh.some_ hv) | some q => exact ⟨q, rfl⟩
    have hnb := h.nb
    have hf := filt_len es (hits v)
    refine ⟨0, g.lose v, es.filter (hits v), Nat.le_trans (List.length_filter_le _ _) hle, (dropVS v h.st hq (by have := h.sh.n; omega) (by rw [h.sh.wr]; omega) (by rw [h.sh.wr]; omega)).mono ?_, fun W r1 r2 => (refDropV v r1 r2 (by omega) (by omega) (by omega) (by omega) ((h.rel.V v).1 hv)).mono fun _ _ hh => ⟨_, _, ⟨h.rel.lose hv, ?_⟩, ?_⟩⟩
    · rintro e w1 ⟨v', rfl, hh⟩
      obtain ⟨X1, hV, hG, hL⟩ := unhide hh
      rw [h.sh.ps, h.rel.gone v] at hG
      obtain ⟨a, m, k, e⟩ := grow_shape hG
      subst e
      exact ⟨a, m, k, rfl, ⟨X1, hV.1, lose_shows h.sh hV, hL⟩, hG⟩
    · have e1 := h.rel.boths_len v
      have := hb.nb; have := hb.wr0; have := hb.wr1
      refine ⟨?_, ?_, ?_, hb.rd0, hb.rd1, fun x hx => hb.wt x (List.mem_filter.1 hx).1⟩
      · show g.nb + 65536 * (boths g.ps v).length + _ ≤ _
        rw [e1]; omega
      · show 0 ≤ g.wr + ((boths g.ps v).length : Int)
        omega
      · show g.wr + ((boths g.ps v).length : Int) + _ ≤ _
        rw [e1]; omega
    · have e1 := h.rel.boths_len v
      have := unhide hh
      unfold AnsDropV at this
      show AnsGL W vv ev _ _ g.rd (g.wr + ((boths g.ps v).length : Int)) _ 0 _ _
      rw [e1]; exact this
end
end

section
open Go.RowKit Go.Maps
theorem ins_len (es : List EdgeV) (k : Nat) (x : EdgeV) (hk : k ≤ es.length) : (es.take k ++ [x] ++ es.drop k).length = es.length + 1 := by simp; omega
theorem cut_len (es : List EdgeV) (k : Nat) (hk : k < es.length) : (es.take k ++ es.drop (k + 1)).length + 1 = es.length := by simp; omega
section
variable [Inhabited EntI] {n : Nat} {w w' : World} {X X' : Sto} {g g' : Gr} {vv ev : Value} {vs vs' : List Int} {es es' : List EdgeV}

theorem ins_nx {i k : Nat} {u v kb : Int} (h : Game n X g vv ev vs es w) (hu : g.V u = true) (hv : g.V v = true) (hfree : ∀ a, g.ps[i]? ≠ some (a, true)) (hp : Puts es ((i : Int) + 1) k) (hk : 0 ≤ kb ∧ kept kb = some kb) : Nx (n + 1) (g.ins i u v kb) vs (es.take k ++ [((i : Int) + 1, u, v, kb)] ++ es.drop k) := by
  refine ⟨h.rel.ins hu hv hfree hp, ?_⟩
  have hl := ins_len es k ((i : Int) + 1, u, v, kb) hp.1
  have hb := h.bnd
  refine ⟨?_, ?_, ?_, hb.rd0, by have := hb.rd1; show g.rd ≤ _; omega, fun x hx => ?_⟩
  · show g.nb + 65536 + _ ≤ _
    rw [hl]; have := hb.nb; omega
  · show 0 ≤ g.wr + 1
    have := hb.wr0; omega
  · show g.wr + 1 + _ ≤ _
    rw [hl]; have := hb.wr1; omega
  · rcases List.mem_append.1 hx with hx | hx
    · rcases List.mem_append.1 hx with hx | hx
      · exact hb.wt x (List.mem_of_mem_take hx)
      · rw [List.mem_singleton.1 hx]; exact hk
    · exact hb.wt x (List.mem_of_mem_drop hx)
theorem Game.sv (h : Game n X g vv ev vs es w) {k : Int} (hk : k ∈ vs) : g.V k = true := (h.rel.V k).2 hk
theorem Game.nv (h : Game n X g vv ev vs es w) {k : Int} (hk : k ∉ vs) : g.V k = false := by
  cases e : g.V k with
  | false => rfl
  | true => exact absurd ((h.rel.V k).1 e) hk

theorem Game.least (h : Game n X g vv ev vs es w) (hf : ¬ ∀ j : Nat, j < 1024 → HasNo es ((j : Int) + 1)) : ∃ i, i < 1024 ∧ Least g.ps i := by
  obtain ⟨i, hi⟩ := Classical.not_forall.1 hf
  have hi1 : i < 1024 ∧ ¬ HasNo es ((i : Int) + 1) := by
    by_cases e : i < 1024
    · exact ⟨e, fun h2 => hi (fun _ => h2)⟩
    · exact absurd (fun h2 => absurd h2 e) hi
  clear hi hf
  obtain ⟨h1, h2⟩ := hi1
  induction i using Nat.strongRecOn with
  | _ i ih =>
    by_cases hall : ∀ j, j < i → ∃ a, g.ps[j]? = some (a, true)
    · exact ⟨i, h1, hall, fun a ha => h2 ((h.rel.noN i).2 ⟨a, ha⟩)⟩
    · obtain ⟨j, hj⟩ := Classical.not_forall.1 hall
      have hj1 : j < i := Classical.byContradiction (fun e => hj (fun e2 => absurd e2 e))
      exact ih j hj1 (by omega) (fun e => hj (fun _ => (h.rel.noN j).1 e))

theorem pairAddE (h : Game n X g vv ev vs es w) (u v b : Int) (hu : okN u) (hv : okN v) (h0 : 0 ≤ b) :
    ∃ (m c : Int) (g' : Gr), (Calls Tryz.prog 56 #[.pointer (some ⟨X.s, 0, none⟩), .int .i64 u, .int .i64 v, .int .u32 b] w fun e w' => e = .returned (.tuple #[.int .i64 m, .int .i64 c]) ∧ Hid (Goes w X g' w')) ∧
      ∀ W, NRow W vv vs → GRow 0 W ev es → Calls Tryz.prog 57 #[.agg #[vv, ev, .int .i64 g.rd, .int .i64 g.wr], .int .i64 u, .int .i64 v, .int .u32 b] W fun e w' => Hid (∃ vs' es', Nx (n + 1) g' vs' es' ∧ AnsGI W vv ev vs' es' g'.rd g'.wr m c e w') := by
  have hl := h.vlen
  have hle := h.elen
  have hb := h.bnd.up (Nat.le_succ n)
  have hw := h.wrs
  have hnb := h.nb
  by_cases hu1 : u ∈ vs
  · by_cases hv1 : v ∈ vs
    · have hU := h.sv hu1
      have hV := h.sv hv1
      cases hk : kept b with
      | none => exact ⟨0, 7, g, (addEBad u v b h.st (h.sh.some_ hU) (h.sh.some_ hV) h0 hk).mono fun _ _ ⟨e, e2⟩ => ⟨e, by subst e2; exact Goes.same h.st h.sh⟩, fun W r1 r2 => (refAddEBad u v b r1 r2 (by omega) (by omega) hu1 hv1 hk).mono fun _ _ hh => ⟨vs, es, ⟨h.rel, hb⟩, unhide hh⟩⟩
      | some kb =>
        by_cases hf : ∀ j : Nat, j < 1024 → HasNo es ((j : Int) + 1)
        · exact ⟨0, 8, g, (addEMany u v b h.st (h.sh.some_ hU) (h.sh.some_ hV) h0 hk (fun j hj => by rw [h.sh.ps]; exact (h.rel.noN j).1 (hf j hj))).mono fun _ _ ⟨e, e2⟩ => ⟨e, Goes.below h.st h.sh e2⟩, fun W r1 r2 => (refAddEMany u v b r1 r2 (by omega) (by omega) hu1 hv1 hk hf).mono fun _ _ hh => ⟨vs, es, ⟨h.rel, hb⟩, unhide hh⟩⟩
        · obtain ⟨i, hi, hL⟩ := h.least hf
          refine ⟨(i : Int) + 1, 0, g.ins i u v kb, (addES i u v b h.st (h.sh.some_ hU) (h.sh.some_ hV) h0 hk (by rw [h.sh.ps]; exact hL) hi (by have := h.sh.n; omega) (by rw [h.sh.wr]; omega) (by rw [h.sh.wr]; omega)).mono fun _ _ ⟨e, hh⟩ => ⟨e, ?_⟩, fun W r1 r2 => (refAddE u v b r1 r2 (by omega) (by omega) (by omega) (by omega) hu1 hv1 hk ⟨i, hi, fun e => ?_⟩).mono fun _ _ hh => ?_⟩
          · obtain ⟨X1, hI⟩ := unhide hh
            exact ⟨X1, hI.1, shows_ins h.sh hI⟩
          · obtain ⟨a, ha⟩ := (h.rel.noN i).1 e
            exact hL.2 a ha
          · obtain ⟨j, k, ⟨j1, j2, j3⟩, hP, vv', ev', e, q1, q2, q3, q4, q5⟩ := unhide hh
            have hj : j = i := by
              have : Least g.ps j := ⟨fun m hm => (h.rel.noN m).1 (j2 m hm), fun a ha => j3 ((h.rel.noN j).2 ⟨a, ha⟩)⟩
              exact this.one hL
            subst hj
            exact ⟨_, _, ins_nx h hU hV hL.2 hP (kept_fit h0 hk), vv', ev', e, q1, q2, q3, q4, q5⟩
    · exact ⟨0, 5, g, (addENo u v b h.st hu hv (.inr (h.sh.none_ (h.nv hv1)))).mono fun _ _ ⟨e, e2⟩ => ⟨e, by subst e2; exact Goes.same h.st h.sh⟩, fun W r1 r2 => (refAddENoV u v b r1 r2 (by omega) (by omega) hu1 hv1).mono fun _ _ hh => ⟨vs, es, ⟨h.rel, hb⟩, unhide hh⟩⟩
  · exact ⟨0, 5, g, (addENo u v b h.st hu hv (.inl (h.sh.none_ (h.nv hu1)))).mono fun _ _ ⟨e, e2⟩ => ⟨e, by subst e2; exact Goes.same h.st h.sh⟩, fun W r1 r2 => (refAddENoU u v b r1 r2 (by omega) (by omega) hu1).mono fun _ _ hh => ⟨vs, es, ⟨h.rel, hb⟩, unhide hh⟩⟩

theorem pairPutE (h : Game n X g vv ev vs es w) (e u v b : Int) (hu : okN u) (hv : okN v) (h0 : 0 ≤ b) :
    ∃ (c : Int) (g' : Gr), (Calls Tryz.prog 25 #[.pointer (some ⟨X.s, 0, none⟩), .agg #[.int .i64 e, .int .i64 u, .int .i64 v, .int .u32 b]] w fun r w' => r = .returned (.int .i64 c) ∧ Hid (Goes w X g' w')) ∧
      ∀ W, NRow W vv vs → GRow 0 W ev es → Calls Tryz.prog 58 #[.agg #[vv, ev, .int .i64 g.rd, .int .i64 g.wr], .agg #[.int .i64 e, .int .i64 u, .int .i64 v, .int .u32 b]] W fun r w' => Hid (∃ vs' es', Nx (n + 1) g' vs' es' ∧ AnsG W vv ev vs' es' g'.rd g'.wr c r w') := by
  have hl := h.vlen
  have hle := h.elen
  have hb := h.bnd.up (Nat.le_succ n)
  have hw := h.wrs
  have hnb := h.nb
  by_cases he : e < 1 ∨ 1024 < e
  · exact ⟨1, g, (putERange e u v b h.st he).mono fun _ _ ⟨e, e2⟩ => ⟨e, Goes.below h.st h.sh e2⟩, fun W r1 r2 => (refPutERange (e, u, v, b) r1 r2 (by omega) (by omega) he).mono fun _ _ hh => ⟨vs, es, ⟨h.rel, hb⟩, unhide hh⟩⟩
  have he1 : ¬ e < 1 := fun x => he (.inl x)
  have he2 : ¬ 1024 < e := fun x => he (.inr x)
  by_cases hu1 : u ∈ vs
  · by_cases hv1 : v ∈ vs
    · have hU := h.sv hu1
      have hV := h.sv hv1
      cases hk : kept b with
      | none => exact ⟨7, g, (putEBad e u v b h.st (by omega) (by omega) (h.sh.some_ hU) (h.sh.some_ hV) h0 hk).mono fun _ _ ⟨e, e2⟩ => ⟨e, Goes.below h.st h.sh e2⟩, fun W r1 r2 => (refPutEBad (e, u, v, b) r1 r2 (by omega) (by omega) he1 he2 hu1 hv1 hk).mono fun _ _ hh => ⟨vs, es, ⟨h.rel, hb⟩, unhide hh⟩⟩
      | some kb =>
        obtain ⟨i, rfl⟩ : ∃ i : Nat, e = (i : Int) + 1 := ⟨(e - 1).toNat, by omega⟩
        by_cases hf : HasNo es ((i : Int) + 1)
        · obtain ⟨a, ha⟩ := (h.rel.noN i).1 hf
          exact ⟨2, g, (putETwice i u v b h.st (by rw [h.sh.ps]; exact ha) (h.sh.some_ hU) (h.sh.some_ hV) h0 hk).mono fun _ _ ⟨e, e2⟩ => ⟨e, Goes.below h.st h.sh e2⟩, fun W r1 r2 => (refPutETwice ((i : Int) + 1, u, v, b) r1 r2 (by omega) (by omega) he1 he2 hu1 hv1 hk hf).mono fun _ _ hh => ⟨vs, es, ⟨h.rel, hb⟩, unhide hh⟩⟩
        · have hfree : ∀ a, g.ps[i]? ≠ some (a, true) := fun a ha => hf ((h.rel.noN i).2 ⟨a, ha⟩)
          refine ⟨0, g.ins i u v kb, (putES i u v b h.st (by omega) (by rw [h.sh.ps]; exact hfree) (h.sh.some_ hU) (h.sh.some_ hV) h0 hk (by have := h.sh.n; omega) (by rw [h.sh.wr]; omega) (by rw [h.sh.wr]; omega)).mono fun _ _ ⟨e, hh⟩ => ⟨e, ?_⟩, fun W r1 r2 => (refPutE ((i : Int) + 1, u, v, b) r1 r2 (by omega) (by omega) (by omega) (by omega) he1 he2 hu1 hv1 hk hf).mono fun _ _ hh => ?_⟩
          · obtain ⟨X1, hI⟩ := unhide hh
            exact ⟨X1, hI.1, shows_ins h.sh hI⟩
          · obtain ⟨k, hP, hA⟩ := unhide hh
            exact ⟨_, _, ins_nx h hU hV hfree hP (kept_fit h0 hk), hA⟩
    · exact ⟨5, g, (putENo e u v b h.st (by omega) (by omega) hu hv (.inr (h.sh.none_ (h.nv hv1)))).mono fun _ _ ⟨e, e2⟩ => ⟨e, Goes.below h.st h.sh e2⟩, fun W r1 r2 => (refPutENoV (e, u, v, b) r1 r2 (by omega) (by omega) he1 he2 hu1 hv1).mono fun _ _ hh => ⟨vs, es, ⟨h.rel, hb⟩, unhide hh⟩⟩
  · exact ⟨5, g, (putENo e u v b h.st (by omega) (by omega) hu hv (.inl (h.sh.none_ (h.nv hu1)))).mono fun _ _ ⟨e, e2⟩ => ⟨e, Goes.below h.st h.sh e2⟩, fun W r1 r2 => (refPutENoU (e, u, v, b) r1 r2 (by omega) (by omega) he1 he2 hu1).mono fun _ _ hh => ⟨vs, es, ⟨h.rel, hb⟩, unhide hh⟩⟩

theorem Game.noE (h : Game n X g vv ev vs es w) {e : Int} (hno : ¬ HasNo es e) : ∀ (i : Nat) a, e = (i : Int) + 1 → X.ps[i]? ≠ some (a, true) := fun i a he ha => hno ((h.rel.no e).2 ⟨i, a, he, by rw [← h.sh.ps]; exact ha⟩)
theorem Game.yesE (h : Game n X g vv ev vs es w) {e : Int} (hno : HasNo es e) : ∃ (i : Nat) (a : EdgeV), e = (i : Int) + 1 ∧ g.ps[i]? = some (a, true) ∧ (∃ k : Nat, es[k]? = some a) ∧ a.1 = e := by
  obtain ⟨k, a, hk, rfl⟩ := hno
  obtain ⟨i, hi⟩ := (h.rel.mem a).1 (List.mem_of_getElem? hk)
  exact ⟨i, a, (h.rel.edge i a hi).1, hi, ⟨k, hk⟩, rfl⟩

theorem pairDropE (h : Game n X g vv ev vs es w) (e : Int) :
    ∃ (x : EdgeV) (c : Int) (g' : Gr), (Calls Tryz.prog 19 #[.pointer (some ⟨X.s, 0, none⟩), .int .i64 e] w fun r w' => r = .returned (.tuple #[.agg #[.int .i64 x.1, .int .i64 x.2.1, .int .i64 x.2.2.1, .int .u32 x.2.2.2], .int .i64 c]) ∧ Hid (Goes w X g' w')) ∧
      ∀ W, NRow W vv vs → GRow 0 W ev es → Calls Tryz.prog 59 #[.agg #[vv, ev, .int .i64 g.rd, .int .i64 g.wr], .int .i64 e] W fun r w' => Hid (∃ vs' es', Nx (n + 1) g' vs' es' ∧ AnsGE W vv ev vs' es' g'.rd g'.wr x c r w') := by
  have hle := h.elen
  have hb := h.bnd.up (Nat.le_succ n)
  have hw := h.wrs
  have hnb := h.nb
  by_cases hno : HasNo es e
  · obtain ⟨i, a, rfl, hi, hx, ha⟩ := h.yesE hno
    refine ⟨a, 0, g.cut i, (dropES i h.st (by rw [h.sh.ps]; exact hi) (by have := h.sh.n; omega) (by rw [h.sh.wr]; omega) (by rw [h.sh.wr]; omega)).mono fun _ _ ⟨e, hh⟩ => ⟨e, ?_⟩, fun W r1 r2 => (refDropE _ r1 r2 (by omega) (by omega) (by omega) hx ha h.rel.re.one).mono fun _ _ hh => ?_⟩
    · obtain ⟨X1, hS, r1, r2, r3, r4, r5, r6⟩ := unhide hh
      exact ⟨X1, hS, fun j => by rw [r2]; exact h.sh.V j, r3.trans h.sh.N, by rw [r1, h.sh.ps]; rfl, r4.trans h.sh.rd, by rw [r5, h.sh.wr]; rfl, Nat.le_trans r6 (Nat.add_le_add_right h.sh.n _)⟩
    · obtain ⟨k, hk, hA⟩ := unhide hh
      refine ⟨_, _, ⟨h.rel.cut hi hk, ?_⟩, hA⟩
      have hc := cut_len es k (List.getElem?_eq_some_iff.1 hk).1
      refine ⟨?_, ?_, ?_, hb.rd0, hb.rd1, fun y hy => hb.wt y (((cut_mem h.rel.re hk).2 y).1 hy).1⟩
      · show g.nb + 65536 + _ ≤ _
        have := h.bnd.nb; omega
      · show 0 ≤ g.wr + 1
        omega
      · show g.wr + 1 + _ ≤ _
        have := h.bnd.wr1; omega
  · exact ⟨(0, 0, 0, 0), 6, g, (dropENo e h.st (h.noE hno)).mono fun _ _ ⟨e, e2⟩ => ⟨e, Goes.below h.st h.sh e2⟩, fun W r1 r2 => (refDropENo e r1 r2 (by omega) hno).mono fun _ _ hh => ⟨vs, es, ⟨h.rel, hb⟩, unhide hh⟩⟩

theorem pairEdge (h : Game n X g vv ev vs es w) (e : Int) :
    ∃ (x : EdgeV) (c : Int) (g' : Gr), (Calls Tryz.prog 62 #[.pointer (some ⟨X.s, 0, none⟩), .int .i64 e] w fun r w' => r = .returned (.tuple #[.agg #[.int .i64 x.1, .int .i64 x.2.1, .int .i64 x.2.2.1, .int .u32 x.2.2.2], .int .i64 c]) ∧ Hid (Goes w X g' w')) ∧
      ∀ W, NRow W vv vs → GRow 0 W ev es → Calls Tryz.prog 63 #[.agg #[vv, ev, .int .i64 g.rd, .int .i64 g.wr], .int .i64 e] W fun r w' => Hid (∃ vs' es', Nx (n + 1) g' vs' es' ∧ AnsGE W vv ev vs' es' g'.rd g'.wr x c r w') := by
  have hle := h.elen
  have hb := h.bnd.up (Nat.le_succ n)
  have hr := h.rds
  by_cases hno : HasNo es e
  · obtain ⟨i, a, rfl, hi, hx, ha⟩ := h.yesE hno
    refine ⟨a, 0, { g with rd := g.rd + 1 }, (edgeS i h.st (by rw [h.sh.ps]; exact hi) (by rw [h.sh.rd]; omega) (by rw [h.sh.rd]; omega)).mono fun _ _ ⟨e, hh⟩ => ⟨e, _, unhide hh, h.sh.V, h.sh.N, h.sh.ps, by show X.rd + 1 = _; rw [h.sh.rd], h.sh.wr, h.sh.n⟩, fun W r1 r2 => (refEdge _ r1 r2 (by omega) (by omega) (by omega) hx ha h.rel.re.one).mono fun _ _ hh => ⟨vs, es, ⟨⟨h.rel.rv, h.rel.V, h.rel.N, h.rel.re, h.rel.mem, h.rel.edge⟩, hb.nb, hb.wr0, hb.wr1, ?_, ?_, hb.wt⟩, unhide hh⟩⟩
    · show 0 ≤ g.rd + 1
      omega
    · show g.rd + 1 ≤ _
      have := h.bnd.rd1; omega
  · exact ⟨(0, 0, 0, 0), 6, g, (edgeNo e h.st (h.noE hno)).mono fun _ _ ⟨e, e2⟩ => ⟨e, Goes.below h.st h.sh e2⟩, fun W r1 r2 => (refEdgeNo e r1 r2 (by omega) hno).mono fun _ _ hh => ⟨vs, es, ⟨h.rel, hb⟩, unhide hh⟩⟩

theorem pairRew (h : Game n X g vv ev vs es w) (e b : Int) (h0 : 0 ≤ b) :
    ∃ (m c : Int) (g' : Gr), (Calls Tryz.prog 60 #[.pointer (some ⟨X.s, 0, none⟩), .int .i64 e, .int .u32 b] w fun r w' => r = .returned (.tuple #[.int .u32 m, .int .i64 c]) ∧ Hid (Goes w X g' w')) ∧
      ∀ W, NRow W vv vs → GRow 0 W ev es → Calls Tryz.prog 61 #[.agg #[vv, ev, .int .i64 g.rd, .int .i64 g.wr], .int .i64 e, .int .u32 b] W fun r w' => Hid (∃ vs' es', Nx (n + 1) g' vs' es' ∧ AnsGU W vv ev vs' es' g'.rd g'.wr m c r w') := by
  have hle := h.elen
  have hb := h.bnd.up (Nat.le_succ n)
  have hw := h.wrs
  have hnb := h.nb
  by_cases hno : HasNo es e
  · obtain ⟨i, a, rfl, hi, hx, ha⟩ := h.yesE hno
    cases hk : kept b with
    | none => exact ⟨0, 7, g, (rewBad i b h.st (by rw [h.sh.ps]; exact hi) h0 hk).mono fun _ _ ⟨e, e2⟩ => ⟨e, Goes.below h.st h.sh (unhide e2)⟩, fun W r1 r2 => (refReweighBad _ b hk r1 r2 (by omega) (by omega) (by omega) hx ha h.rel.re.one).mono fun _ _ hh => ⟨vs, es, ⟨h.rel, hb⟩, unhide hh⟩⟩
    | some kb =>
      refine ⟨a.2.2.2, 0, g.rew i (a.1, a.2.1, a.2.2.1, kb), (rewS i b h.st (by rw [h.sh.ps]; exact hi) h0 hk (by rw [h.sh.wr]; omega) (by rw [h.sh.wr]; omega)).mono fun _ _ ⟨e, hh⟩ => ⟨e, ?_⟩, fun W r1 r2 => (refReweigh _ b hk r1 r2 (by omega) (by omega) (by omega) hx ha h.rel.re.one).mono fun _ _ hh => ?_⟩
      · obtain ⟨X1, hS, r1, r2, r3, r4, r5, r6⟩ := unhide hh
        exact ⟨X1, hS, fun j => by rw [r2]; exact h.sh.V j, r3.trans h.sh.N, by rw [r1, h.sh.ps]; rfl, r4.trans h.sh.rd, by rw [r5, h.sh.wr]; rfl, Nat.le_trans r6 (Nat.add_le_add_right h.sh.n _)⟩
      · obtain ⟨k, hk2, hA⟩ := unhide hh
        refine ⟨_, _, ⟨h.rel.rew kb hi hk2, ?_⟩, hA⟩
        refine ⟨?_, ?_, ?_, hb.rd0, hb.rd1, fun y hy => (List.mem_or_eq_of_mem_set hy).elim (hb.wt y) (fun e => by rw [e]; exact kept_fit h0 hk)⟩
        · show g.nb + 65536 + _ ≤ _
          rw [List.length_set]; have := h.bnd.nb; omega
        · show 0 ≤ g.wr + 1
          omega
        · show g.wr + 1 + _ ≤ _
          rw [List.length_set]; have := h.bnd.wr1; omega
  · exact ⟨0, 6, g, (rewNo e b h.st (h.noE hno)).mono fun _ _ ⟨e, e2⟩ => ⟨e, Goes.below h.st h.sh (unhide e2)⟩, fun W r1 r2 => (refReweighNo e b r1 r2 (by omega) hno).mono fun _ _ hh => ⟨vs, es, ⟨h.rel, hb⟩, unhide hh⟩⟩
end
end

end Go.Proofs.YtgocbcacfcfblaaGreat
