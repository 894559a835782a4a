/- The calls on edges, on both. -/
import Derived.Test.YtagibmgbjhemkaaGreatRefPutM
import Derived.Test.YtagibmgbjhemkaaGreatRel7
import Derived.Test.YtagibmgbjhemkaaGreatRefPutD
import Derived.Test.YtagibmgbjhemkaaGreatRefDropE
namespace Go.Proofs.YtagibmgbjhemkaaGreat

section
open Go.RowKit Go.Maps
set_option maxHeartbeats 2000000 in
set_option maxRecDepth 100000 in
theorem refPutETwice {w : World} {vv ev : Value} {rd wr_0 : Int} {vs : List Int} {es : List EdgeV} (x : EdgeV) (h : NRow w vv vs) (hE : GRow 0 w ev es) (hlv : vs.length ≤ 1000000) (hl : es.length ≤ 1000000) (hx1 : ¬ x.1 < 1) (hx2 : ¬ 1024 < x.1) (hu : x.2.1 ∈ vs) (hv : x.2.2.1 ∈ vs) {n : Int} (hk : kept x.2.2.2 = some n) (ht : HasNo es x.1) :
    Calls Tryz.prog 69 #[.agg #[vv, ev, .int .i64 rd, .int .i64 wr_0], .agg #[.int .i64 x.1, .int .i64 x.2.1, .int .i64 x.2.2.1, .int .u32 x.2.2.2]] w fun e w' => Hid (AnsG w vv ev vs es rd wr_0 2 e w') := by
  have HF : Hid (∀ W, Below w.heap.size w W → NRow W vv vs ∧ GRow 0 W ev es) := fun W hW => ⟨nrow_below h hW, grow_below hE hW⟩
  have CH : Hid (∀ W, PFit w vv ev rd wr_0 x W → ∀ k, Calls Tryz.prog 19 #[.agg #[vv, ev, .int .i64 rd, .int .i64 wr_0], .int .i64 k] W fun e w' => e = .returned (.bool (decide (k ∈ vs))) ∧ Hid (PFit w vv ev rd wr_0 x w')) := fun W hW k => by
    refine (refHas k (nrow_below h hW.2.2.2.1) hlv).mono ?_
    rintro e w' ⟨rfl, g⟩
    exact ⟨rfl, hW.step g⟩
  have CT : Hid (∀ W, PFit w vv ev rd wr_0 x W → ∀ k, HasNo es k → Calls Tryz.prog 38 #[.agg #[vv, ev, .int .i64 rd, .int .i64 wr_0], .int .i64 k] W fun e w' => ∃ i : Nat, e = .returned (.int .i64 (i : Int)) ∧ Hid (PFit w vv ev rd wr_0 x w')) := fun W hW k hk => by
    refine (refAt k (grow_below hE hW.2.2.2.1) hl).mono ?_
    rintro e w' ⟨r, rfl, g⟩
    obtain ⟨g1, g2⟩ := unhide g
    rcases g1 with ⟨i, a, rfl, -, -⟩ | ⟨-, h1⟩
    · exact ⟨i, rfl, hW.step g2⟩
    · obtain ⟨j, b, hb, e⟩ := hk
      exact absurd e (h1 j b hb)
  have CA : Hid (∀ n W, Calls Tryz.prog 99 #[.int .u32 n] W fun e w' => e = .returned (ansK (kept n)) ∧ w' = W) := fun n W => refAdmit n W
  obtain ⟨va, vc, hvv, -⟩ := brow_shape h
  obtain ⟨vn, hvv'⟩ : ∃ vn, vv = .slice va vn vc := ⟨_, hvv⟩
  obtain ⟨ea, en, ec, hev⟩ := grow_shape hE
  have HP := hide (pfit_new w vv ev rd wr_0 x)
  clear h hE hvv hl hlv
  subst hvv' hev
  go_enter Tryz.func69, Tryz.ntmps69
  go_upto_region 1 with fail
  change Code.wp _ _ _ _ (((w.alloc (oG (.slice va vn vc) (.slice ea en ec) rd wr_0)).alloc (oX x)).alloc oZ)
  generalize ((w.alloc (oG (.slice va vn vc) (.slice ea en ec) rd wr_0)).alloc (oX x)).alloc oZ = wb at *
  have HZ : Hid (∃ b1 b2, b1 = w.heap.size + 1 ∧ b2 = w.heap.size + 2) := ⟨_, _, rfl, rfl⟩
  have n1 : ¬ w.heap.size = w.heap.size + 1 := by omega
  have n2 : ¬ w.heap.size + 1 = w.heap.size := by omega
  have n3 : ¬ w.heap.size = w.heap.size + 2 := by omega
  have n4 : ¬ w.heap.size + 2 = w.heap.size := by omega
  have n5 : ¬ w.heap.size + 1 = w.heap.size + 2 := by omega
  have n6 : ¬ w.heap.size + 2 = w.heap.size + 1 := by omega
  clear HZ
  have HCwb := unhide HP
  obtain ⟨c0, c1, c2, c3, cf⟩ := cellsG HCwb.1
  obtain ⟨x0, x1, x2, x3, xf⟩ := cellsX HCwb.2.1
  obtain ⟨d0, d1, d2, d3, df⟩ := cellsG (vv := .slice none 0 0) (ev := .slice none 0 0) (rd := 0) (wr := 0) HCwb.2.2.1
  clear HCwb
  go_wp2_with fail
  refine (unhide CH _ (unhide HP) _).mono ?_
  rintro e w2 ⟨rfl, H2⟩
  rw [decide_eq_true hu]
  clear c0 c1 c2 c3 cf x0 x1 x2 x3 xf d0 d1 d2 d3 df
  have HCw2 := unhide H2
  obtain ⟨c0, c1, c2, c3, cf⟩ := cellsG HCw2.1
  obtain ⟨x0, x1, x2, x3, xf⟩ := cellsX HCw2.2.1
  obtain ⟨d0, d1, d2, d3, df⟩ := cellsG (vv := .slice none 0 0) (ev := .slice none 0 0) (rd := 0) (wr := 0) HCw2.2.2.1
  clear HCw2
  go_wp2_with fail
  refine (unhide CH _ (unhide H2) _).mono ?_
  rintro e w3 ⟨rfl, H3⟩
  rw [decide_eq_true hv]
  clear c0 c1 c2 c3 cf x0 x1 x2 x3 xf d0 d1 d2 d3 df
  have HCw3 := unhide H3
  obtain ⟨c0, c1, c2, c3, cf⟩ := cellsG HCw3.1
  obtain ⟨x0, x1, x2, x3, xf⟩ := cellsX HCw3.2.1
  obtain ⟨d0, d1, d2, d3, df⟩ := cellsG (vv := .slice none 0 0) (ev := .slice none 0 0) (rd := 0) (wr := 0) HCw3.2.2.1
  clear HCw3
  go_wp2_with fail
  refine (unhide CA _ _).mono ?_
  rintro e w4 ⟨rfl, rfl⟩
  rw [hk]
  unfold ansK
  go_wp2_with fail
  refine (unhide CT _ (unhide H3) _ ht).mono ?_
  rintro e w5 ⟨i, rfl, H5⟩
  have hi0 : (0 : Int) ≤ (i : Int) := by omega
  clear c0 c1 c2 c3 cf x0 x1 x2 x3 xf d0 d1 d2 d3 df
  have HCw5 := unhide H5
  obtain ⟨c0, c1, c2, c3, cf⟩ := cellsG HCw5.1
  obtain ⟨x0, x1, x2, x3, xf⟩ := cellsX HCw5.2.1
  obtain ⟨d0, d1, d2, d3, df⟩ := cellsG (vv := .slice none 0 0) (ev := .slice none 0 0) (rd := 0) (wr := 0) HCw5.2.2.1
  clear HCw5
  go_wp2_with fail
  (try simp only [Exit.inBlock, Exit.then])
  change bodyPost _ _ _ _ _ (set4 w5 (w.heap.size + 2) _ _ _ _)
  refine bodyPost_ret (resG rfl _ _ (w.heap.size + 2) _ _ _ _ rfl (set4G_at (unhide H5).2.2.1 _ _ _ _)) rfl ?_
  have hB := set4_below (unhide H5).2.2.2.1 (by omega : w.heap.size ≤ w.heap.size + 2) (.slice va vn vc) (.slice ea en ec) (.int .i64 rd) (.int .i64 wr_0)
  exact ⟨_, _, rfl, (unhide HF _ hB).1, (unhide HF _ hB).2, hB, Apt.refl _ _, Apt.refl _ _⟩
end

section
open Go.RowKit Go.Maps
set_option maxHeartbeats 2000000 in
set_option maxRecDepth 100000 in
theorem refReweighBad {w : World} {vv ev : Value} {rd wr_0 : Int} {vs : List Int} {es : List EdgeV} (v n : Int) (hk : kept n = none) (h : NRow w vv vs) (hE : GRow 0 w ev es) (hl : es.length ≤ 400000) (hr0 : 0 ≤ wr_0) (hr1 : wr_0 ≤ 1000000000) {x : EdgeV} (hx : ∃ i : Nat, es[i]? = some x) (hxv : x.1 = v) (hone : ∀ (i j : Nat) (a b : EdgeV), es[i]? = some a → es[j]? = some b → a.1 = b.1 → a = b) :
    Calls Tryz.prog 72 #[.agg #[vv, ev, .int .i64 rd, .int .i64 wr_0], .int .i64 v, .int .u32 n] w fun e w' => Hid (AnsGU w vv ev vs es rd wr_0 0 7 e w') := by
  obtain ⟨t1, t2, t4, t5⟩ := two_boxes w (oG vv ev rd wr_0)
  obtain ⟨c0, c1, c2, c3, cf⟩ := cellsG t1
  have HF : Hid (∀ W, Below w.heap.size w W → NRow W vv vs ∧ GRow 0 W ev es) := fun W hW => ⟨nrow_below h hW, grow_below hE hW⟩
  have CH : Hid (Calls Tryz.prog 38 #[.agg #[vv, ev, .int .i64 rd, .int .i64 wr_0], .int .i64 v] ((w.alloc (oG vv ev rd wr_0)).alloc oZ) fun e w2 => ∃ (i : Nat) (g : Nat) (c : Nat), e = .returned (.int .i64 (i : Int)) ∧ (ev = .slice (some ⟨g, 0, none⟩) es.length c ∧ i < es.length ∧ es[i]? = some x ∧ g < w.heap.size ∧ w2.cell? ⟨g, i * 4 + 3, none⟩ = some (.int .u32 x.2.2.2)) ∧ Hid (w2.heap[w.heap.size + 1]? = some oZ ∧ w2.heap[w.heap.size]? = some (oG vv ev rd wr_0) ∧ Below w.heap.size w w2 ∧ w.heap.size + 2 ≤ w2.heap.size)) := by
    refine (refAt v (grow_below hE t4) (by omega)).mono ?_
    rintro e w2 ⟨r, rfl, g⟩
    obtain ⟨g1, g2⟩ := unhide g
    obtain ⟨i0, hi0⟩ := hx
    obtain ⟨i, a, rfl, k1, k2, -⟩ : ∃ (i : Nat) (a : EdgeV), r = (i : Int) ∧ es[i]? = some a ∧ a.1 = v ∧ ∀ (j : Nat) (b : EdgeV), j < i → es[j]? = some b → b.1 ≠ v := by
      rcases g1 with h | ⟨-, h⟩
      · exact h
      · exact absurd hxv (h i0 x hi0)
    have hax : a = x := hone i i0 a x k1 hi0 (k2.trans hxv.symm)
    subst hax
    have hil := (List.getElem?_eq_some_iff.1 k1).1
    have hEw := grow_below (grow_below hE t4) g2
    obtain ⟨g, c, eg, hc⟩ := grow_at hEw (by omega)
    have hgw : g < w.heap.size := (hE.lt g (by rw [eg]; rfl)).2
    obtain ⟨y0, y1, y2, y3⟩ := hc i a k1
    have gs := g2.size
    exact ⟨i, g, c, rfl, ⟨eg, hil, k1, hgw, y3⟩, (g2.block _ (by omega)).trans t2, (g2.block _ (by omega)).trans t1, t4.trans (g2.mono (by omega)), by omega⟩
  obtain ⟨va, vc, hvv, -⟩ := brow_shape h
  obtain ⟨vn, hvv'⟩ : ∃ vn, vv = .slice va vn vc := ⟨_, hvv⟩
  obtain ⟨ea, en, ec, hev⟩ := grow_shape hE
  have hwr : IntKind.i64.wrap (wr_0 + 1) = wr_0 + 1 := by rw [IntKind.wrap_i64]; omega
  have HLE : Hid (es.length ≤ 400000) := hl
  have CA : Hid (∀ W, Calls Tryz.prog 99 #[.int .u32 n] W fun e w' => e = .returned (ansK (kept n)) ∧ w' = W) := fun W => refAdmit n W
  rw [hk] at CA
  unfold ansK at CA
  clear t1 t2 t4 t5 h hE hvv hl hx hxv hone hr0 hr1 hk
  subst hvv' hev
  go_enter Tryz.func72, Tryz.ntmps72
  go_upto_region 1 with fail
  change Code.wp _ _ _ _ ((w.alloc (oG (.slice va vn vc) (.slice ea en ec) rd wr_0)).alloc oZ)
  generalize (w.alloc (oG (.slice va vn vc) (.slice ea en ec) rd wr_0)).alloc oZ = wb at *
  generalize hb1 : w.heap.size + 1 = b1 at *
  generalize hbb : w.heap.size = bb at *
  go_wp2_with fail
  refine (unhide CH).mono ?_
  rintro e w2 ⟨i, g, c, rfl, ⟨eg, hil, hix, hgw, y3⟩, h2⟩
  injection eg with eg1 eg2 eg3
  subst eg1 eg2 eg3
  obtain ⟨k1, k3, k4, k5⟩ := unhide h2
  clear c0 c1 c2 c3 cf CH h2
  obtain ⟨c0, c1, c2, c3, cf⟩ := cellsG k3
  have n1 : ¬ bb = b1 := by omega
  have n2 : ¬ b1 = bb := by omega
  have n7 : ¬ g = bb := by omega
  have n8 : ¬ bb = g := by omega
  have n9 : ¬ g = b1 := by omega
  have hz : (i : Int) < (es.length : Int) := by omega
  have hi0 : ¬ (i : Int) < 0 := by omega
  obtain ⟨d0, d1, d2, d3, df⟩ := cellsG (vv := .slice none 0 0) (ev := .slice none 0 0) (rd := 0) (wr := 0) k1
  have HT1 := hide k1
  have HB := hide k4
  clear k1 k3 k4 k5 hix
  go_wp2_with fail
  refine (unhide CA _).mono ?_
  rintro e w' ⟨rfl, rfl⟩
  go_wp2_with fail
  (try simp only [Exit.inBlock, Exit.then])
  change bodyPost _ _ _ _ _ (set4 w' b1 _ _ _ _)
  refine bodyPost_ret (results_cell_tmp_tmp rfl _ _ _ ⟨b1, 0, none⟩ _ rfl (loadG _ _ _ _ _ _ (set4G_at (unhide HT1) _ _ _ _))) rfl ?_
  have hB := set4_below (unhide HB) (by omega : bb ≤ b1) (.slice va vn vc) (.slice (some ⟨g, 0, none⟩) es.length ec) (.int .i64 rd) (.int .i64 wr_0)
  exact ⟨_, _, rfl, (unhide HF _ hB).1, (unhide HF _ hB).2, by first | exact hB | (rw [hbb]; exact hB), Apt.refl _ _, Apt.refl _ _⟩
end

section
open Go.RowKit Go.Maps
/-- Bounds behind n calls. -/
structure Bnd (n : Nat) (g : Gr) (es : List EdgeV) : Prop where
  nb : g.nb + 65536 * es.length ≤ 131072 * n
  wr0 : 0 ≤ g.wr
  wr1 : g.wr + es.length ≤ 2 * n
  rd0 : 0 ≤ g.rd
  rd1 : g.rd ≤ n
  wt : ∀ x ∈ es, 0 ≤ x.2.2.2 ∧ kept x.2.2.2 = some x.2.2.2
theorem Bnd.up {n m : Nat} {g : Gr} {es : List EdgeV} (h : Bnd n g es) (hm : n ≤ m) : Bnd m g es := by
  obtain ⟨h1, h2, h3, h4, h5, h6⟩ := h
  exact ⟨by omega, h2, by omega, h4, by omega, h6⟩
theorem kept_fit {n kb : Int} (h0 : 0 ≤ n) (h : kept n = some kb) : 0 ≤ kb ∧ kept kb = some kb := by
  unfold kept at h
  by_cases h1 : n = 2147483648
  · rw [if_pos h1] at h; cases h; exact ⟨by omega, rfl⟩
  · rw [if_neg h1] at h
    by_cases h2 : 2139095040 ≤ n
    · rw [if_pos h2] at h; cases h
    · rw [if_neg h2] at h; cases h
      exact ⟨h0, by unfold kept; rw [if_neg h1, if_neg h2]⟩
/-- A picture and a graph behind n calls. -/
def Nx (n : Nat) (g : Gr) (vs : List Int) (es : List EdgeV) : Prop := RelG g vs es ∧ Bnd n g es

structure Game [Inhabited EntI] (n : Nat) (X : Sto) (g : Gr) (vv ev : Value) (vs : List Int) (es : List EdgeV) (w : World) : Prop where
  st : StAt w X
  sh : Shows X g
  rel : RelG g vs es
  bnd : Bnd n g es
  few : n ≤ 6000
  vrow : NRow w vv vs
  erow : GRow 0 w ev es
  vfr : ∀ b, vv.ownBlock = some b → X.L b = none
  efr : ∀ b, ev.ownBlock = some b → X.L b = none

theorem addV_shows {X : Sto} {g : Gr} {k : Int} {q : Nat} (h3 : Shows X g) : Shows (X.more k q) { g with V := fun j => decide (j = k) || g.V j, N := g.N + 1 } := by
  refine ⟨fun j => ?_, by show X.N + 1 = _; rw [h3.N], h3.ps, h3.rd, h3.wr, h3.n⟩
  show (putK X.f k (some q) j).isSome = _
  unfold putK
  by_cases e : j = k
  · rw [if_pos e]; simp [e]
  · rw [if_neg e, h3.V]; simp [e]
/-- The store goes on to a picture. -/
def Goes [Inhabited EntI] (w : World) (X : Sto) (g : Gr) (w' : World) : Prop := ∃ X', Step w X w' X' ∧ Shows X' g

section
variable [Inhabited EntI] {n : Nat} {w w' : World} {X X' : Sto} {g g' : Gr} {vv ev : Value} {vs vs' : List Int} {es es' : List EdgeV}

theorem Goes.same (h : StAt w X) (h3 : Shows X g) : Goes w X g w := ⟨X, Step.refl h, h3⟩
theorem Goes.below (h : StAt w X) (h3 : Shows X g) (hb : Below w.heap.size w w') : Goes w X g w' := ⟨X, Step.below h hb, h3⟩
theorem Game.vlen (h : Game n X g vv ev vs es w) : vs.length ≤ 256 := by
  have := h.st.size; have := h.sh.N; have := h.rel.N; omega
theorem Game.elen (h : Game n X g vv ev vs es w) : es.length ≤ 1024 := by
  have h1 := h.rel.len
  have h2 := h.st.tab.len
  have h3 := h.sh.ps
  rw [h3] at h2; omega
theorem Game.plen (h : Game n X g vv ev vs es w) : (g.ps.length : Int) ≤ 1024 := by
  have h2 := h.st.tab.len
  rw [h.sh.ps] at h2; exact h2
theorem Game.nb (h : Game n X g vv ev vs es w) : g.nb ≤ 800000000 := by
  have := h.bnd.nb; have := h.few; omega
theorem Game.wrs (h : Game n X g vv ev vs es w) : 0 ≤ g.wr ∧ g.wr ≤ 12000 := by
  have := h.bnd.wr0; have := h.bnd.wr1; have := h.few; omega
theorem Game.rds (h : Game n X g vv ev vs es w) : 0 ≤ g.rd ∧ g.rd ≤ 6000 := by
  have := h.bnd.rd0; have := h.bnd.rd1; have := h.few; omega

/-- The store's call: the reference's lists stay. -/
theorem Game.store (h : Game n X g vv ev vs es w) (hS : Step w X w' X') : NRow w' vv vs ∧ GRow 0 w' ev es ∧ (∀ b, vv.ownBlock = some b → X'.L b = none) ∧ ∀ b, ev.ownBlock = some b → X'.L b = none := by
  obtain ⟨-, -, hF⟩ := hS
  exact ⟨nrow_kept h.vrow (fun b hb => (hF.old (h.vrow.lt b hb).2 (h.vfr b hb)).1), grow_kept h.erow (fun b hb => (hF.old (h.erow.lt b hb).2 (h.efr b hb)).1), fun b hb => (hF.old (h.vrow.lt b hb).2 (h.vfr b hb)).2, fun b hb => (hF.old (h.erow.lt b hb).2 (h.efr b hb)).2⟩
theorem pairAddV (h : Game n X g vv ev vs es w) (v : Int) :
    ∃ (c : Int) (g' : Gr), (Calls Tryz.prog 31 #[.pointer (some ⟨X.s, 0, none⟩), .int .i64 v] w fun e w' => e = .returned (.int .i64 c) ∧ Hid (Goes w X g' w')) ∧
      ∀ W, NRow W vv vs → GRow 0 W ev es → Calls Tryz.prog 63 #[.agg #[vv, ev, .int .i64 g.rd, .int .i64 g.wr], .int .i64 v] W fun e w' => Hid (∃ vs' es', Nx (n + 1) g' vs' es' ∧ AnsG W vv ev vs' es' g'.rd g'.wr c e w') := by
  have hl := h.vlen
  have hb := h.bnd.up (Nat.le_succ n)
  by_cases h1 : v < 0 ∨ 2147483647 < v
  · exact ⟨4, g, (addVBad v h.st h1).mono fun _ _ ⟨e, e2⟩ => ⟨e, by subst e2; exact Goes.same h.st h.sh⟩, fun W r1 r2 => (refAddVBad v r1 r2 h1).mono fun _ _ hh => ⟨vs, es, ⟨h.rel, hb⟩, unhide hh⟩⟩
  have h2 : 0 ≤ v ∧ v ≤ 2147483647 := by omega
  cases hv : g.V v with
  | true => exact ⟨2, g, (addVTwice v h.st (h.sh.some_ hv)).mono fun _ _ ⟨e, e2⟩ => ⟨e, by subst e2; exact Goes.same h.st h.sh⟩, fun W r1 r2 => (refAddVTwice v r1 r2 (by omega) h2.1 h2.2 ((h.rel.V v).1 hv)).mono fun _ _ hh => ⟨vs, es, ⟨h.rel, hb⟩, unhide hh⟩⟩
  | false =>
    have hm : v ∉ vs := fun e => by rw [(h.rel.V v).2 e] at hv; cases hv
    have hN := h.rel.N
    have hS := h.st.size
    rw [h.sh.N] at hS
    by_cases h3 : g.N < 256
    · refine ⟨0, { g with V := fun j => decide (j = v) || g.V j, N := g.N + 1 }, (addVS v h.st h2.1 h2.2 (h.sh.none_ hv) (by rw [h.sh.N]; exact h3)).mono fun _ _ ⟨e, hh⟩ => ⟨e, _, unhide hh, addV_shows h.sh⟩, fun W r1 r2 => (refAddV v r1 r2 (by omega) h2.1 h2.2 hm (by omega) h.rel.rv).mono fun _ _ hh => ⟨plus vs v, es, ⟨h.rel.addV hv, ?_⟩, unhide hh⟩⟩
      exact ⟨hb.nb, hb.wr0, hb.wr1, hb.rd0, hb.rd1, hb.wt⟩
    · exact ⟨8, g, (addVMany v h.st h2.1 h2.2 (h.sh.none_ hv) (by rw [h.sh.N]; omega)).mono fun _ _ ⟨e, e2⟩ => ⟨e, by subst e2; exact Goes.same h.st h.sh⟩, fun W r1 r2 => (refAddVMany v r1 r2 (by omega) h2.1 h2.2 hm (by omega)).mono fun _ _ hh => ⟨vs, es, ⟨h.rel, hb⟩, unhide hh⟩⟩

theorem lose_shows {k : Int} {w1 : World} (h3 : Shows X g) (hV : Vanished w X k w1 X') : Shows X' (g.lose k) := by
  obtain ⟨-, r1, r2, r3, r4, r5, r6⟩ := hV
  rw [h3.ps] at r1 r5 r6
  have hN := h3.N
  refine ⟨fun j => ?_, ?_, r1, r4.trans h3.rd, by rw [r5, h3.wr]; rfl, Nat.le_trans r6 (Nat.add_le_add_right h3.n _)⟩
  · rw [r2]
    show (putK X.f k none j).isSome = _
    unfold putK
    by_cases e : j = k
    · rw [if_pos e]; simp [e, Gr.lose]
    · rw [if_neg e, h3.V]; simp [e, Gr.lose]
  · show X'.N = g.N - 1
    omega
theorem pairDropV (h : Game n X g vv ev vs es w) (v : Int) (hok : okN v) :
    ∃ (c : Int) (g' : Gr) (gs : List EdgeV), gs.length ≤ 1024 ∧ (Calls Tryz.prog 64 #[.pointer (some ⟨X.s, 0, none⟩), .int .i64 v] w fun e w' => ∃ (a : Option Addr) (m k : Nat), e = .returned (.tuple #[.slice a m k, .int .i64 c]) ∧ Hid ((∃ X', Step w X w' X' ∧ Shows X' g' ∧ ∀ b, (Value.slice a m k).ownBlock = some b → X'.L b = none) ∧ GRow w.heap.size w' (.slice a m k) gs)) ∧
      ∀ W, NRow W vv vs → GRow 0 W ev es → Calls Tryz.prog 65 #[.agg #[vv, ev, .int .i64 g.rd, .int .i64 g.wr], .int .i64 v] W fun e w' => Hid (∃ vs' es', Nx (n + 1) g' vs' es' ∧ AnsGL W vv ev vs' es' g'.rd g'.wr gs c e w') := by
  have hl := h.vlen
  have hle := h.elen
  have hb := h.bnd.up (Nat.le_succ n)
  have hw := h.wrs
  cases hv : g.V v with
  | false =>
    have hm : v ∉ vs := fun e => by rw [(h.rel.V v).2 e] at hv; cases hv
    exact ⟨5, g, [], by simp, (dropVNo v h.st hok (h.sh.none_ hv)).mono fun _ _ ⟨e, e2⟩ => ⟨none, 0, 0, e, by subst e2; exact ⟨⟨X, Step.refl h.st, h.sh, fun b hb => by cases hb⟩, ⟨rfl, .inl ⟨rfl, rfl⟩⟩⟩⟩, fun W r1 r2 => (refDropVNo v r1 r2 (by omega) hm).mono fun _ _ hh => ⟨vs, es, ⟨h.rel, hb⟩, unhide hh⟩⟩
  | true =>
    obtain ⟨q, hq⟩ : ∃ q, X.f v = some q := by cases e : X.f v with | none => exact absurd e (h.sh.some_ hv) | some q => exact ⟨q, rfl⟩
    have hnb := h.nb
    have hf := filt_len es (hits v)
    refine ⟨0, g.lose v, es.filter (hits v), Nat.le_trans (List.length_filter_le _ _) hle, (dropVS v h.st hq (by have := h.sh.n; omega) (by rw [h.sh.wr]; omega) (by rw [h.sh.wr]; omega)).mono ?_, fun W r1 r2 => (refDropV v r1 r2 (by omega) (by omega) (by omega) (by omega) ((h.rel.V v).1 hv)).mono fun _ _ hh => ⟨_, _, ⟨h.rel.lose hv, ?_⟩, ?_⟩⟩
    · rintro e w1 ⟨v', rfl, hh⟩
      obtain ⟨X1, hV, hG, hL⟩ := unhide hh
      rw [h.sh.ps, h.rel.gone v] at hG
      obtain ⟨a, m, k, e⟩ := grow_shape hG
      subst e
      exact ⟨a, m, k, rfl, ⟨X1, hV.1, lose_shows h.sh hV, hL⟩, hG⟩
    · have e1 := h.rel.boths_len v
      have := hb.nb; have := hb.wr0; have := hb.wr1
      refine ⟨?_, ?_, ?_, hb.rd0, hb.rd1, fun x hx => hb.wt x (List.mem_filter.1 hx).1⟩
      · show g.nb + 65536 * (boths g.ps v).length + _ ≤ _
        rw [e1]; omega
      · show 0 ≤ g.wr + ((boths g.ps v).length : Int)
        omega
      · show g.wr + ((boths g.ps v).length : Int) + _ ≤ _
        rw [e1]; omega
    · have e1 := h.rel.boths_len v
      have := unhide hh
      unfold AnsDropV at this
      show AnsGL W vv ev _ _ g.rd (g.wr + ((boths g.ps v).length : Int)) _ 0 _ _
      rw [e1]; exact this
end
end

section
open Go.RowKit Go.Maps
theorem ins_len (es : List EdgeV) (k : Nat) (x : EdgeV) (hk : k ≤ es.length) : (es.take k ++ [x] ++ es.drop k).length = es.length + 1 := by simp; omega
theorem cut_len (es : List EdgeV) (k : Nat) (hk : k < es.length) : (es.take k ++ es.drop (k + 1)).length + 1 = es.length := by simp; omega
section
variable [Inhabited EntI] {n : Nat} {w w' : World} {X X' : Sto} {g g' : Gr} {vv ev : Value} {vs vs' : List Int} {es es' : List EdgeV}

theorem ins_nx {i k : Nat} {u v kb : Int} (h : Game n X g vv ev vs es w) (hu : g.V u = true) (hv : g.V v = true) (hfree : ∀ a, g.ps[i]? ≠ some (a, true)) (hp : Puts es ((i : Int) + 1) k) (hk : 0 ≤ kb ∧ kept kb = some kb) : Nx (n + 1) (g.ins i u v kb) vs (es.take k ++ [((i : Int) + 1, u, v, kb)] ++ es.drop k) := by
  refine ⟨h.rel.ins hu hv hfree hp, ?_⟩
  have hl := ins_len es k ((i : Int) + 1, u, v, kb) hp.1
  have hb := h.bnd
  refine ⟨?_, ?_, ?_, hb.rd0, by have := hb.rd1; show g.rd ≤ _; omega, fun x hx => ?_⟩
  · show g.nb + 65536 + _ ≤ _
    rw [hl]; have := hb.nb; omega
  · show 0 ≤ g.wr + 1
    have := hb.wr0; omega
  · show g.wr + 1 + _ ≤ _
    rw [hl]; have := hb.wr1; omega
  · rcases List.mem_append.1 hx with hx | hx
    · rcases List.mem_append.1 hx with hx | hx
      · exact hb.wt x (List.mem_of_mem_take hx)
      · rw [List.mem_singleton.1 hx]; exact hk
    · exact hb.wt x (List.mem_of_mem_drop hx)
theorem Game.sv (h : Game n X g vv ev vs es w) {k : Int} (hk : k ∈ vs) : g.V k = true := (h.rel.V k).2 hk
theorem Game.nv (h : Game n X g vv ev vs es w) {k : Int} (hk : k ∉ vs) : g.V k = false := by
  cases e : g.V k with
  | false => rfl
  | true => exact absurd ((h.rel.V k).1 e) hk

theorem Game.least (h : Game n X g vv ev vs es w) (hf : ¬ ∀ j : Nat, j < 1024 → HasNo es ((j : Int) + 1)) : ∃ i, i < 1024 ∧ Least g.ps i := by
  obtain ⟨i, hi⟩ := Classical.not_forall.1 hf
  have hi1 : i < 1024 ∧ ¬ HasNo es ((i : Int) + 1) := by
    by_cases e : i < 1024
    · exact ⟨e, fun h2 => hi (fun _ => h2)⟩
    · exact absurd (fun h2 => absurd h2 e) hi
  clear hi hf
  obtain ⟨h1, h2⟩ := hi1
  induction i using Nat.strongRecOn with
  | _ i ih =>
    by_cases hall : ∀ j, j < i → ∃ a, g.ps[j]? = some (a, true)
    · exact ⟨i, h1, hall, fun a ha => h2 ((h.rel.noN i).2 ⟨a, ha⟩)⟩
    · obtain ⟨j, hj⟩ := Classical.not_forall.1 hall
      have hj1 : j < i := Classical.byContradiction (fun e => hj (fun e2 => absurd e2 e))
      exact ih j hj1 (by omega) (fun e => hj (fun _ => (h.rel.noN j).1 e))

theorem pairAddE (h : Game n X g vv ev vs es w) (u v b : Int) (hu : okN u) (hv : okN v) (h0 : 0 ≤ b) :
    ∃ (m c : Int) (g' : Gr), (Calls Tryz.prog 67 #[.pointer (some ⟨X.s, 0, none⟩), .int .i64 u, .int .i64 v, .int .u32 b] w fun e w' => e = .returned (.tuple #[.int .i64 m, .int .i64 c]) ∧ Hid (Goes w X g' w')) ∧
      ∀ W, NRow W vv vs → GRow 0 W ev es → Calls Tryz.prog 68 #[.agg #[vv, ev, .int .i64 g.rd, .int .i64 g.wr], .int .i64 u, .int .i64 v, .int .u32 b] W fun e w' => Hid (∃ vs' es', Nx (n + 1) g' vs' es' ∧ AnsGI W vv ev vs' es' g'.rd g'.wr m c e w') := by
  have hl := h.vlen
  have hle := h.elen
  have hb := h.bnd.up (Nat.le_succ n)
  have hw := h.wrs
  have hnb := h.nb
  by_cases hu1 : u ∈ vs
  · by_cases hv1 : v ∈ vs
    · have hU := h.sv hu1
      have hV := h.sv hv1
      cases hk : kept b with
      | none => exact ⟨0, 7, g, (addEBad u v b h.st (h.sh.some_ hU) (h.sh.some_ hV) h0 hk).mono fun _ _ ⟨e, e2⟩ => ⟨e, by subst e2; exact Goes.same h.st h.sh⟩, fun W r1 r2 => (refAddEBad u v b r1 r2 (by omega) (by omega) hu1 hv1 hk).mono fun _ _ hh => ⟨vs, es, ⟨h.rel, hb⟩, unhide hh⟩⟩
      | some kb =>
        by_cases hf : ∀ j : Nat, j < 1024 → HasNo es ((j : Int) + 1)
        · exact ⟨0, 8, g, (addEMany u v b h.st (h.sh.some_ hU) (h.sh.some_ hV) h0 hk (fun j hj => by rw [h.sh.ps]; exact (h.rel.noN j).1 (hf j hj))).mono fun _ _ ⟨e, e2⟩ => ⟨e, Goes.below h.st h.sh e2⟩, fun W r1 r2 => (refAddEMany u v b r1 r2 (by omega) (by omega) hu1 hv1 hk hf).mono fun _ _ hh => ⟨vs, es, ⟨h.rel, hb⟩, unhide hh⟩⟩
        · obtain ⟨i, hi, hL⟩ := h.least hf
          refine ⟨(i : Int) + 1, 0, g.ins i u v kb, (addES i u v b h.st (h.sh.some_ hU) (h.sh.some_ hV) h0 hk (by rw [h.sh.ps]; exact hL) hi (by have := h.sh.n; omega) (by rw [h.sh.wr]; omega) (by rw [h.sh.wr]; omega)).mono fun _ _ ⟨e, hh⟩ => ⟨e, ?_⟩, fun W r1 r2 => (refAddE u v b r1 r2 (by omega) (by omega) (by omega) (by omega) hu1 hv1 hk ⟨i, hi, fun e => ?_⟩).mono fun _ _ hh => ?_⟩
          · obtain ⟨X1, hI⟩ := unhide hh
            exact ⟨X1, hI.1, shows_ins h.sh hI⟩
          · obtain ⟨a, ha⟩ := (h.rel.noN i).1 e
            exact hL.2 a ha
          · obtain ⟨j, k, ⟨j1, j2, j3⟩, hP, vv', ev', e, q1, q2, q3, q4, q5⟩ := unhide hh
            have hj : j = i := by
              have : Least g.ps j := ⟨fun m hm => (h.rel.noN m).1 (j2 m hm), fun a ha => j3 ((h.rel.noN j).2 ⟨a, ha⟩)⟩
              exact this.one hL
            subst hj
            exact ⟨_, _, ins_nx h hU hV hL.2 hP (kept_fit h0 hk), vv', ev', e, q1, q2, q3, q4, q5⟩
    · exact ⟨0, 5, g, (addENo u v b h.st hu hv (.inr (h.sh.none_ (h.nv hv1)))).mono fun _ _ ⟨e, e2⟩ => ⟨e, by subst e2; exact Goes.same h.st h.sh⟩, fun W r1 r2 => (refAddENoV u v b r1 r2 (by omega) (by omega) hu1 hv1).mono fun _ _ hh => ⟨vs, es, ⟨h.rel, hb⟩, unhide hh⟩⟩
  · exact ⟨0, 5, g, (addENo u v b h.st hu hv (.inl (h.sh.none_ (h.nv hu1)))).mono fun _ _ ⟨e, e2⟩ => ⟨e, by subst e2; exact Goes.same h.st h.sh⟩, fun W r1 r2 => (refAddENoU u v b r1 r2 (by omega) (by omega) hu1).mono fun _ _ hh => ⟨vs, es, ⟨h.rel, hb⟩, unhide hh⟩⟩

theorem pairPutE (h : Game n X g vv ev vs es w) (e u v b : Int) (hu : okN u) (hv : okN v) (h0 : 0 ≤ b) :
    ∃ (c : Int) (g' : Gr), (Calls Tryz.prog 32 #[.pointer (some ⟨X.s, 0, none⟩), .agg #[.int .i64 e, .int .i64 u, .int .i64 v, .int .u32 b]] w fun r w' => r = .returned (.int .i64 c) ∧ Hid (Goes w X g' w')) ∧
      ∀ W, NRow W vv vs → GRow 0 W ev es → Calls Tryz.prog 69 #[.agg #[vv, ev, .int .i64 g.rd, .int .i64 g.wr], .agg #[.int .i64 e, .int .i64 u, .int .i64 v, .int .u32 b]] W fun r w' => Hid (∃ vs' es', Nx (n + 1) g' vs' es' ∧ AnsG W vv ev vs' es' g'.rd g'.wr c r w') := by
  have hl := h.vlen
  have hle := h.elen
  have hb := h.bnd.up (Nat.le_succ n)
  have hw := h.wrs
  have hnb := h.nb
  by_cases he : e < 1 ∨ 1024 < e
  · exact ⟨1, g, (putERange e u v b h.st he).mono fun _ _ ⟨e, e2⟩ => ⟨e, Goes.below h.st h.sh e2⟩, fun W r1 r2 => (refPutERange (e, u, v, b) r1 r2 (by omega) (by omega) he).mono fun _ _ hh => ⟨vs, es, ⟨h.rel, hb⟩, unhide hh⟩⟩
  have he1 : ¬ e < 1 := fun x => he (.inl x)
  have he2 : ¬ 1024 < e := fun x => he (.inr x)
  by_cases hu1 : u ∈ vs
  · by_cases hv1 : v ∈ vs
    · have hU := h.sv hu1
      have hV := h.sv hv1
      cases hk : kept b with
      | none => exact ⟨7, g, (putEBad e u v b h.st (by omega) (by omega) (h.sh.some_ hU) (h.sh.some_ hV) h0 hk).mono fun _ _ ⟨e, e2⟩ => ⟨e, Goes.below h.st h.sh e2⟩, fun W r1 r2 => (refPutEBad (e, u, v, b) r1 r2 (by omega) (by omega) he1 he2 hu1 hv1 hk).mono fun _ _ hh => ⟨vs, es, ⟨h.rel, hb⟩, unhide hh⟩⟩
      | some kb =>
        obtain ⟨i, rfl⟩ : ∃ i : Nat, e = (i : Int) + 1 := ⟨(e - 1).toNat, by omega⟩
        by_cases hf : HasNo es ((i : Int) + 1)
        · obtain ⟨a, ha⟩ := (h.rel.noN i).1 hf
          exact ⟨2, g, (putETwice i u v b h.st (by rw [h.sh.ps]; exact ha) (h.sh.some_ hU) (h.sh.some_ hV) h0 hk).mono fun _ _ ⟨e, e2⟩ => ⟨e, Goes.below h.st h.sh e2⟩, fun W r1 r2 => (refPutETwice ((i : Int) + 1, u, v, b) r1 r2 (by omega) (by omega) he1 he2 hu1 hv1 hk hf).mono fun _ _ hh => ⟨vs, es, ⟨h.rel, hb⟩, unhide hh⟩⟩
        · have hfree : ∀ a, g.ps[i]? ≠ some (a, true) := fun a ha => hf ((h.rel.noN i).2 ⟨a, ha⟩)
          refine ⟨0, g.ins i u v kb, (putES i u v b h.st (by omega) (by rw [h.sh.ps]; exact hfree) (h.sh.some_ hU) (h.sh.some_ hV) h0 hk (by have := h.sh.n; omega) (by rw [h.sh.wr]; omega) (by rw [h.sh.wr]; omega)).mono fun _ _ ⟨e, hh⟩ => ⟨e, ?_⟩, fun W r1 r2 => (refPutE ((i : Int) + 1, u, v, b) r1 r2 (by omega) (by omega) (by omega) (by omega) he1 he2 hu1 hv1 hk hf).mono fun _ _ hh => ?_⟩
          · obtain ⟨X1, hI⟩ := unhide hh
            exact ⟨X1, hI.1, shows_ins h.sh hI⟩
          · obtain ⟨k, hP, hA⟩ := unhide hh
            exact ⟨_, _, ins_nx h hU hV hfree hP (kept_fit h0 hk), hA⟩
    · exact ⟨5, g, (putENo e u v b h.st (by omega) (by omega) hu hv (.inr (h.sh.none_ (h.nv hv1)))).mono fun _ _ ⟨e, e2⟩ => ⟨e, Goes.below h.st h.sh e2⟩, fun W r1 r2 => (refPutENoV (e, u, v, b) r1 r2 (by omega) (by omega) he1 he2 hu1 hv1).mono fun _ _ hh => ⟨vs, es, ⟨h.rel, hb⟩, unhide hh⟩⟩
  · exact ⟨5, g, (putENo e u v b h.st (by omega) (by omega) hu hv (.inl (h.sh.none_ (h.nv hu1)))).mono fun _ _ ⟨e, e2⟩ => ⟨e, Goes.below h.st h.sh e2⟩, fun W r1 r2 => (refPutENoU (e, u, v, b) r1 r2 (by omega) (by omega) he1 he2 hu1).mono fun _ _ hh => ⟨vs, es, ⟨h.rel, hb⟩, unhide hh⟩⟩

theorem Game.noE (h : Game n X g vv ev vs es w) {e : Int} (hno : ¬ HasNo es e) : ∀ (i : Nat) a, e = (i : Int) + 1 → X.ps[i]? ≠ some (a, true) := fun i a he ha => hno ((h.rel.no e).2 ⟨i, a, he, by rw [← h.sh.ps]; exact ha⟩)
theorem Game.yesE (h : Game n X g vv ev vs es w) {e : Int} (hno : HasNo es e) : ∃ (i : Nat) (a : EdgeV), e = (i : Int) + 1 ∧ g.ps[i]? = some (a, true) ∧ (∃ k : Nat, es[k]? = some a) ∧ a.1 = e := by
  obtain ⟨k, a, hk, rfl⟩ := hno
  obtain ⟨i, hi⟩ := (h.rel.mem a).1 (List.mem_of_getElem? hk)
  exact ⟨i, a, (h.rel.edge i a hi).1, hi, ⟨k, hk⟩, rfl⟩

theorem pairDropE (h : Game n X g vv ev vs es w) (e : Int) :
    ∃ (x : EdgeV) (c : Int) (g' : Gr), (Calls Tryz.prog 26 #[.pointer (some ⟨X.s, 0, none⟩), .int .i64 e] w fun r w' => r = .returned (.tuple #[.agg #[.int .i64 x.1, .int .i64 x.2.1, .int .i64 x.2.2.1, .int .u32 x.2.2.2], .int .i64 c]) ∧ Hid (Goes w X g' w')) ∧
      ∀ W, NRow W vv vs → GRow 0 W ev es → Calls Tryz.prog 70 #[.agg #[vv, ev, .int .i64 g.rd, .int .i64 g.wr], .int .i64 e] W fun r w' => Hid (∃ vs' es', Nx (n + 1) g' vs' es' ∧ AnsGE W vv ev vs' es' g'.rd g'.wr x c r w') := by
  have hle := h.elen
  have hb := h.bnd.up (Nat.le_succ n)
  have hw := h.wrs
  have hnb := h.nb
  by_cases hno : HasNo es e
  · obtain ⟨i, a, rfl, hi, hx, ha⟩ := h.yesE hno
    refine ⟨a, 0, g.cut i, (dropES i h.st (by rw [h.sh.ps]; exact hi) (by have := h.sh.n; omega) (by rw [h.sh.wr]; omega) (by rw [h.sh.wr]; omega)).mono fun _ _ ⟨e, hh⟩ => ⟨e, ?_⟩, fun W r1 r2 => (refDropE _ r1 r2 (by omega) (by omega) (by omega) hx ha h.rel.re.one).mono fun _ _ hh => ?_⟩
    · obtain ⟨X1, hS, r1, r2, r3, r4, r5, r6⟩ := unhide hh
      exact ⟨X1, hS, fun j => by rw [r2]; exact h.sh.V j, r3.trans h.sh.N, by rw [r1, h.sh.ps]; rfl, r4.trans h.sh.rd, by rw [r5, h.sh.wr]; rfl, Nat.le_trans r6 (Nat.add_le_add_right h.sh.n _)⟩
    · obtain ⟨k, hk, hA⟩ := unhide hh
      refine ⟨_, _, ⟨h.rel.cut hi hk, ?_⟩, hA⟩
      have hc := cut_len es k (List.getElem?_eq_some_iff.1 hk).1
      refine ⟨?_, ?_, ?_, hb.rd0, hb.rd1, fun y hy => hb.wt y (((cut_mem h.rel.re hk).2 y).1 hy).1⟩
      · show g.nb + 65536 + _ ≤ _
        have := h.bnd.nb; omega
      · show 0 ≤ g.wr + 1
        omega
      · show g.wr + 1 + _ ≤ _
        have := h.bnd.wr1; omega
  · exact ⟨(0, 0, 0, 0), 6, g, (dropENo e h.st (h.noE hno)).mono fun _ _ ⟨e, e2⟩ => ⟨e, Goes.below h.st h.sh e2⟩, fun W r1 r2 => (refDropENo e r1 r2 (by omega) hno).mono fun _ _ hh => ⟨vs, es, ⟨h.rel, hb⟩, unhide hh⟩⟩

theorem pairEdge (h : Game n X g vv ev vs es w) (e : Int) :
    ∃ (x : EdgeV) (c : Int) (g' : Gr), (Calls Tryz.prog 73 #[.pointer (some ⟨X.s, 0, none⟩), .int .i64 e] w fun r w' => r = .returned (.tuple #[.agg #[.int .i64 x.1, .int .i64 x.2.1, .int .i64 x.2.2.1, .int .u32 x.2.2.2], .int .i64 c]) ∧ Hid (Goes w X g' w')) ∧
      ∀ W, NRow W vv vs → GRow 0 W ev es → Calls Tryz.prog 74 #[.agg #[vv, ev, .int .i64 g.rd, .int .i64 g.wr], .int .i64 e] W fun r w' => Hid (∃ vs' es', Nx (n + 1) g' vs' es' ∧ AnsGE W vv ev vs' es' g'.rd g'.wr x c r w') := by
  have hle := h.elen
  have hb := h.bnd.up (Nat.le_succ n)
  have hr := h.rds
  by_cases hno : HasNo es e
  · obtain ⟨i, a, rfl, hi, hx, ha⟩ := h.yesE hno
    refine ⟨a, 0, { g with rd := g.rd + 1 }, (edgeS i h.st (by rw [h.sh.ps]; exact hi) (by rw [h.sh.rd]; omega) (by rw [h.sh.rd]; omega)).mono fun _ _ ⟨e, hh⟩ => ⟨e, _, unhide hh, h.sh.V, h.sh.N, h.sh.ps, by show X.rd + 1 = _; rw [h.sh.rd], h.sh.wr, h.sh.n⟩, fun W r1 r2 => (refEdge _ r1 r2 (by omega) (by omega) (by omega) hx ha h.rel.re.one).mono fun _ _ hh => ⟨vs, es, ⟨⟨h.rel.rv, h.rel.V, h.rel.N, h.rel.re, h.rel.mem, h.rel.edge⟩, hb.nb, hb.wr0, hb.wr1, ?_, ?_, hb.wt⟩, unhide hh⟩⟩
    · show 0 ≤ g.rd + 1
      omega
    · show g.rd + 1 ≤ _
      have := h.bnd.rd1; omega
  · exact ⟨(0, 0, 0, 0), 6, g, (edgeNo e h.st (h.noE hno)).mono fun _ _ ⟨e, e2⟩ => ⟨e, Goes.below h.st h.sh e2⟩, fun W r1 r2 => (refEdgeNo e r1 r2 (by omega) hno).mono fun _ _ hh => ⟨vs, es, ⟨h.rel, hb⟩, unhide hh⟩⟩

theorem pairRew (h : Game n X g vv ev vs es w) (e b : Int) (h0 : 0 ≤ b) :
    ∃ (m c : Int) (g' : Gr), (Calls Tryz.prog 71 #[.pointer (some ⟨X.s, 0, none⟩), .int .i64 e, .int .u32 b] w fun r w' => r = .returned (.tuple #[.int .u32 m, .int .i64 c]) ∧ Hid (Goes w X g' w')) ∧
      ∀ W, NRow W vv vs → GRow 0 W ev es → Calls Tryz.prog 72 #[.agg #[vv, ev, .int .i64 g.rd, .int .i64 g.wr], .int .i64 e, .int .u32 b] W fun r w' => Hid (∃ vs' es', Nx (n + 1) g' vs' es' ∧ AnsGU W vv ev vs' es' g'.rd g'.wr m c r w') := by
  have hle := h.elen
  have hb := h.bnd.up (Nat.le_succ n)
  have hw := h.wrs
  have hnb := h.nb
  by_cases hno : HasNo es e
  · obtain ⟨i, a, rfl, hi, hx, ha⟩ := h.yesE hno
    cases hk : kept b with
    | none => exact ⟨0, 7, g, (rewBad i b h.st (by rw [h.sh.ps]; exact hi) h0 hk).mono fun _ _ ⟨e, e2⟩ => ⟨e, Goes.below h.st h.sh (unhide e2)⟩, fun W r1 r2 => (refReweighBad _ b hk r1 r2 (by omega) (by omega) (by omega) hx ha h.rel.re.one).mono fun _ _ hh => ⟨vs, es, ⟨h.rel, hb⟩, unhide hh⟩⟩
    | some kb =>
      refine ⟨a.2.2.2, 0, g.rew i (a.1, a.2.1, a.2.2.1, kb), (rewS i b h.st (by rw [h.sh.ps]; exact hi) h0 hk (by rw [h.sh.wr]; omega) (by rw [h.sh.wr]; omega)).mono fun _ _ ⟨e, hh⟩ => ⟨e, ?_⟩, fun W r1 r2 => (refReweigh _ b hk r1 r2 (by omega) (by omega) (by omega) hx ha h.rel.re.one).mono fun _ _ hh => ?_⟩
      · obtain ⟨X1, hS, r1, r2, r3, r4, r5, r6⟩ := unhide hh
        exact ⟨X1, hS, fun j => by rw [r2]; exact h.sh.V j, r3.trans h.sh.N, by rw [r1, h.sh.ps]; rfl, r4.trans h.sh.rd, by rw [r5, h.sh.wr]; rfl, Nat.le_trans r6 (Nat.add_le_add_right h.sh.n _)⟩
      · obtain ⟨k, hk2, hA⟩ := unhide hh
        refine ⟨_, _, ⟨h.rel.rew kb hi hk2, ?_⟩, hA⟩
        refine ⟨?_, ?_, ?_, hb.rd0, hb.rd1, fun y hy => (List.mem_or_eq_of_mem_set hy).elim (hb.wt y) (fun e => by rw [e]; exact kept_fit h0 hk)⟩
        · show g.nb + 65536 + _ ≤ _
          rw [List.length_set]; have := h.bnd.nb; omega
        · show 0 ≤ g.wr + 1
          omega
        · show g.wr + 1 + _ ≤ _
          rw [List.length_set]; have := h.bnd.wr1; omega
  · exact ⟨0, 6, g, (rewNo e b h.st (h.noE hno)).mono fun _ _ ⟨e, e2⟩ => ⟨e, Goes.below h.st h.sh (unhide e2)⟩, fun W r1 r2 => (refReweighNo e b r1 r2 (by omega) hno).mono fun _ _ hh => ⟨vs, es, ⟨h.rel, hb⟩, unhide hh⟩⟩
end
end

end Go.Proofs.YtagibmgbjhemkaaGreat
