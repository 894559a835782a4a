/- A store and the reference's graph side by side, and each call on both. -/
import Derived.Test.YtagibmgbjhemkaaGreatRel7
import Derived.Test.YtagibmgbjhemkaaGreatRefAddA
import Derived.Test.YtagibmgbjhemkaaGreatRefAddB
import Derived.Test.YtagibmgbjhemkaaGreatRefAddC
import Derived.Test.YtagibmgbjhemkaaGreatRefAddD
import Derived.Test.YtagibmgbjhemkaaGreatRefPutA
import Derived.Test.YtagibmgbjhemkaaGreatRefPutB
import Derived.Test.YtagibmgbjhemkaaGreatRefPutC
import Derived.Test.YtagibmgbjhemkaaGreatRefPutD
import Derived.Test.YtagibmgbjhemkaaGreatRefPutE
import Derived.Test.YtagibmgbjhemkaaGreatRefRew
import Derived.Test.YtagibmgbjhemkaaGreatRefRewB
import Derived.Test.YtagibmgbjhemkaaGreatRefDropE
namespace Go.Proofs.YtagibmgbjhemkaaGreat
open Go.RowKit Go.Maps

/-- Bounds behind n calls. -/
structure Bnd (n : Nat) (g : Gr) (es : List EdgeV) : Prop where
  nb : g.nb + 65536 * es.length ≤ 131072 * n
  wr0 : 0 ≤ g.wr
  wr1 : g.wr + es.length ≤ 2 * n
  rd0 : 0 ≤ g.rd
  rd1 : g.rd ≤ n
  wt : ∀ x ∈ es, 0 ≤ x.2.2.2 ∧ kept x.2.2.2 = some x.2.2.2
theorem Bnd.up {n m : Nat} {g : Gr} {es : List EdgeV} (h : Bnd n g es) (hm : n ≤ m) : Bnd m g es := by
  obtain ⟨h1, h2, h3, h4, h5, h6⟩ := h
  exact ⟨by omega, h2, by omega, h4, by omega, h6⟩
theorem kept_fit {n kb : Int} (h0 : 0 ≤ n) (h : kept n = some kb) : 0 ≤ kb ∧ kept kb = some kb := by
  unfold kept at h
  by_cases h1 : n = 2147483648
  · rw [if_pos h1] at h; cases h; exact ⟨by omega, rfl⟩
  · rw [if_neg h1] at h
    by_cases h2 : 2139095040 ≤ n
    · rw [if_pos h2] at h; cases h
    · rw [if_neg h2] at h; cases h
      exact ⟨h0, by unfold kept; rw [if_neg h1, if_neg h2]⟩
/-- A picture and a graph behind n calls. -/
def Nx (n : Nat) (g : Gr) (vs : List Int) (es : List EdgeV) : Prop := RelG g vs es ∧ Bnd n g es

structure Game [Inhabited EntI] (n : Nat) (X : Sto) (g : Gr) (vv ev : Value) (vs : List Int) (es : List EdgeV) (w : World) : Prop where
  st : StAt w X
  sh : Shows X g
  rel : RelG g vs es
  bnd : Bnd n g es
  few : n ≤ 6000
  vrow : NRow w vv vs
  erow : GRow 0 w ev es
  vfr : ∀ b, vv.ownBlock = some b → X.L b = none
  efr : ∀ b, ev.ownBlock = some b → X.L b = none

theorem addV_shows {X : Sto} {g : Gr} {k : Int} {q : Nat} (h3 : Shows X g) : Shows (X.more k q) { g with V := fun j => decide (j = k) || g.V j, N := g.N + 1 } := by
  refine ⟨fun j => ?_, by show X.N + 1 = _; rw [h3.N], h3.ps, h3.rd, h3.wr, h3.n⟩
  show (putK X.f k (some q) j).isSome = _
  unfold putK
  by_cases e : j = k
  · rw [if_pos e]; simp [e]
  · rw [if_neg e, h3.V]; simp [e]
/-- The store goes on to a picture. -/
def Goes [Inhabited EntI] (w : World) (X : Sto) (g : Gr) (w' : World) : Prop := ∃ X', Step w X w' X' ∧ Shows X' g

section
variable [Inhabited EntI] {n : Nat} {w w' : World} {X X' : Sto} {g g' : Gr} {vv ev : Value} {vs vs' : List Int} {es es' : List EdgeV}

theorem Goes.same (h : StAt w X) (h3 : Shows X g) : Goes w X g w := ⟨X, Step.refl h, h3⟩
theorem Goes.below (h : StAt w X) (h3 : Shows X g) (hb : Below w.heap.size w w') : Goes w X g w' := ⟨X, Step.below h hb, h3⟩
theorem Game.vlen (h : Game n X g vv ev vs es w) : vs.length ≤ 256 := by
  have := h.st.size; have := h.sh.N; have := h.rel.N; omega
theorem Game.elen (h : Game n X g vv ev vs es w) : es.length ≤ 1024 := by
  have h1 := h.rel.len
  have h2 := h.st.tab.len
  have h3 := h.sh.ps
  rw [h3] at h2; omega
theorem Game.plen (h : Game n X g vv ev vs es w) : (g.ps.length : Int) ≤ 1024 := by
  have h2 := h.st.tab.len
  rw [h.sh.ps] at h2; exact h2
theorem Game.nb (h : Game n X g vv ev vs es w) : g.nb ≤ 800000000 := by
  have := h.bnd.nb; have := h.few; omega
theorem Game.wrs (h : Game n X g vv ev vs es w) : 0 ≤ g.wr ∧ g.wr ≤ 12000 := by
  have := h.bnd.wr0; have := h.bnd.wr1; have := h.few; omega
theorem Game.rds (h : Game n X g vv ev vs es w) : 0 ≤ g.rd ∧ g.rd ≤ 6000 := by
  have := h.bnd.rd0; have := h.bnd.rd1; have := h.few; omega

/-- The store's call: the reference's lists stay. -/
theorem Game.store (h : Game n X g vv ev vs es w) (hS : Step w X w' X') : NRow w' vv vs ∧ GRow 0 w' ev es ∧ (∀ b, vv.ownBlock = some b → X'.L b = none) ∧ ∀ b, ev.ownBlock = some b → X'.L b = none := by
  obtain ⟨-, -, hF⟩ := hS
  exact ⟨nrow_kept h.vrow (fun b hb => (hF.old (h.vrow.lt b hb).2 (h.vfr b hb)).1), grow_kept h.erow (fun b hb => (hF.old (h.erow.lt b hb).2 (h.efr b hb)).1), fun b hb => (hF.old (h.vrow.lt b hb).2 (h.vfr b hb)).2, fun b hb => (hF.old (h.erow.lt b hb).2 (h.efr b hb)).2⟩
theorem pairAddV (h : Game n X g vv ev vs es w) (v : Int) :
    ∃ (c : Int) (g' : Gr), (Calls Tryz.prog 31 #[.pointer (some ⟨X.s, 0, none⟩), .int .i64 v] w fun e w' => e = .returned (.int .i64 c) ∧ Hid (Goes w X g' w')) ∧
      ∀ W, NRow W vv vs → GRow 0 W ev es → Calls Tryz.prog 63 #[.agg #[vv, ev, .int .i64 g.rd, .int .i64 g.wr], .int .i64 v] W fun e w' => Hid (∃ vs' es', Nx (n + 1) g' vs' es' ∧ AnsG W vv ev vs' es' g'.rd g'.wr c e w') := by
  have hl := h.vlen
  have hb := h.bnd.up (Nat.le_succ n)
  by_cases h1 : v < 0 ∨ 2147483647 < v
  · exact ⟨4, g, (addVBad v h.st h1).mono fun _ _ ⟨e, e2⟩ => ⟨e, by subst e2; exact Goes.same h.st h.sh⟩, fun W r1 r2 => (refAddVBad v r1 r2 h1).mono fun _ _ hh => ⟨vs, es, ⟨h.rel, hb⟩, unhide hh⟩⟩
  have h2 : 0 ≤ v ∧ v ≤ 2147483647 := by omega
  cases hv : g.V v with
  | true => exact ⟨2, g, (addVTwice v h.st (h.sh.some_ hv)).mono fun _ _ ⟨e, e2⟩ => ⟨e, by subst e2; exact Goes.same h.st h.sh⟩, fun W r1 r2 => (refAddVTwice v r1 r2 (by omega) h2.1 h2.2 ((h.rel.V v).1 hv)).mono fun _ _ hh => ⟨vs, es, ⟨h.rel, hb⟩, unhide hh⟩⟩
  | false =>
    have hm : v ∉ vs := fun e => by rw [(h.rel.V v).2 e] at hv; cases hv
    have hN := h.rel.N
    have hS := h.st.size
    rw [h.sh.N] at hS
    by_cases h3 : g.N < 256
    · refine ⟨0, { g with V := fun j => decide (j = v) || g.V j, N := g.N + 1 }, (addVS v h.st h2.1 h2.2 (h.sh.none_ hv) (by rw [h.sh.N]; exact h3)).mono fun _ _ ⟨e, hh⟩ => ⟨e, _, unhide hh, addV_shows h.sh⟩, fun W r1 r2 => (refAddV v r1 r2 (by omega) h2.1 h2.2 hm (by omega) h.rel.rv).mono fun _ _ hh => ⟨plus vs v, es, ⟨h.rel.addV hv, ?_⟩, unhide hh⟩⟩
      exact ⟨hb.nb, hb.wr0, hb.wr1, hb.rd0, hb.rd1, hb.wt⟩
    · exact ⟨8, g, (addVMany v h.st h2.1 h2.2 (h.sh.none_ hv) (by rw [h.sh.N]; omega)).mono fun _ _ ⟨e, e2⟩ => ⟨e, by subst e2; exact Goes.same h.st h.sh⟩, fun W r1 r2 => (refAddVMany v r1 r2 (by omega) h2.1 h2.2 hm (by omega)).mono fun _ _ hh => ⟨vs, es, ⟨h.rel, hb⟩, unhide hh⟩⟩

theorem lose_shows {k : Int} {w1 : World} (h3 : Shows X g) (hV : Vanished w X k w1 X') : Shows X' (g.lose k) := by
  obtain ⟨-, r1, r2, r3, r4, r5, r6⟩ := hV
  rw [h3.ps] at r1 r5 r6
  have hN := h3.N
  refine ⟨fun j => ?_, ?_, r1, r4.trans h3.rd, by rw [r5, h3.wr]; rfl, Nat.le_trans r6 (Nat.add_le_add_right h3.n _)⟩
  · rw [r2]
    show (putK X.f k none j).isSome = _
    unfold putK
    by_cases e : j = k
    · rw [if_pos e]; simp [e, Gr.lose]
    · rw [if_neg e, h3.V]; simp [e, Gr.lose]
  · show X'.N = g.N - 1
    omega
theorem pairDropV (h : Game n X g vv ev vs es w) (v : Int) (hok : okN v) :
    ∃ (c : Int) (g' : Gr) (gs : List EdgeV), gs.length ≤ 1024 ∧ (Calls Tryz.prog 64 #[.pointer (some ⟨X.s, 0, none⟩), .int .i64 v] w fun e w' => ∃ (a : Option Addr) (m k : Nat), e = .returned (.tuple #[.slice a m k, .int .i64 c]) ∧ Hid ((∃ X', Step w X w' X' ∧ Shows X' g' ∧ ∀ b, (Value.slice a m k).ownBlock = some b → X'.L b = none) ∧ GRow w.heap.size w' (.slice a m k) gs)) ∧
      ∀ W, NRow W vv vs → GRow 0 W ev es → Calls Tryz.prog 65 #[.agg #[vv, ev, .int .i64 g.rd, .int .i64 g.wr], .int .i64 v] W fun e w' => Hid (∃ vs' es', Nx (n + 1) g' vs' es' ∧ AnsGL W vv ev vs' es' g'.rd g'.wr gs c e w') := by
  have hl := h.vlen
  have hle := h.elen
  have hb := h.bnd.up (Nat.le_succ n)
  have hw := h.wrs
  cases hv : g.V v with
  | false =>
    have hm : v ∉ vs := fun e => by rw [(h.rel.V v).2 e] at hv; cases hv
    exact ⟨5, g, [], by simp, (dropVNo v h.st hok (h.sh.none_ hv)).mono fun _ _ ⟨e, e2⟩ => ⟨none, 0, 0, e, by subst e2; exact ⟨⟨X, Step.refl h.st, h.sh, fun b hb => by cases hb⟩, ⟨rfl, .inl ⟨rfl, rfl⟩⟩⟩⟩, fun W r1 r2 => (refDropVNo v r1 r2 (by omega) hm).mono fun _ _ hh => ⟨vs, es, ⟨h.rel, hb⟩, unhide hh⟩⟩
  | true =>
    obtain ⟨q, hq⟩ : ∃ q, X.f v = some q := by cases e : X.f v with | none => exact absurd e (h.sh.some_ hv) | some q => exact ⟨q, rfl⟩
    have hnb := h.nb
    have hf := filt_len es (hits v)
    refine ⟨0, g.lose v, es.filter (hits v), Nat.le_trans (List.length_filter_le _ _) hle, (dropVS v h.st hq (by have := h.sh.n; omega) (by rw [h.sh.wr]; omega) (by rw [h.sh.wr]; omega)).mono ?_, fun W r1 r2 => (refDropV v r1 r2 (by omega) (by omega) (by omega) (by omega) ((h.rel.V v).1 hv)).mono fun _ _ hh => ⟨_, _, ⟨h.rel.lose hv, ?_⟩, ?_⟩⟩
    · rintro e w1 ⟨v', rfl, hh⟩
      obtain ⟨X1, hV, hG, hL⟩ := unhide hh
      rw [h.sh.ps, h.rel.gone v] at hG
      obtain ⟨a, m, k, e⟩ := grow_shape hG
      subst e
      exact ⟨a, m, k, rfl, ⟨X1, hV.1, lose_shows h.sh hV, hL⟩, hG⟩
    · have e1 := h.rel.boths_len v
      have := hb.nb; have := hb.wr0; have := hb.wr1
      refine ⟨?_, ?_, ?_, hb.rd0, hb.rd1, fun x hx => hb.wt x (List.mem_filter.1 hx).1⟩
      · show g.nb + 65536 * (boths g.ps v).length + _ ≤ _
        rw [e1]; omega
      · show 0 ≤ g.wr + ((boths g.ps v).length : Int)
        omega
      · show g.wr + ((boths g.ps v).length : Int) + _ ≤ _
        rw [e1]; omega
    · have e1 := h.rel.boths_len v
      have := unhide hh
      unfold AnsDropV at this
      show AnsGL W vv ev _ _ g.rd (g.wr + ((boths g.ps v).length : Int)) _ 0 _ _
      rw [e1]; exact this
end
end Go.Proofs.YtagibmgbjhemkaaGreat
