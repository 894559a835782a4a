/- The calls on edges, on both. -/
import Derived.Test.YtagibmgbjhemkaaGreatGame7
namespace Go.Proofs.YtagibmgbjhemkaaGreat
open Go.RowKit Go.Maps

theorem ins_len (es : List EdgeV) (k : Nat) (x : EdgeV) (hk : k ≤ es.length) : (es.take k ++ [x] ++ es.drop k).length = es.length + 1 := by simp; omega
theorem cut_len (es : List EdgeV) (k : Nat) (hk : k < es.length) : (es.take k ++ es.drop (k + 1)).length + 1 = es.length := by simp; omega
section
variable [Inhabited EntI] {n : Nat} {w w' : World} {X X' : Sto} {g g' : Gr} {vv ev : Value} {vs vs' : List Int} {es es' : List EdgeV}

theorem ins_nx {i k : Nat} {u v kb : Int} (h : Game n X g vv ev vs es w) (hu : g.V u = true) (hv : g.V v = true) (hfree : ∀ a, g.ps[i]? ≠ some (a, true)) (hp : Puts es ((i : Int) + 1) k) (hk : 0 ≤ kb ∧ kept kb = some kb) : Nx (n + 1) (g.ins i u v kb) vs (es.take k ++ [((i : Int) + 1, u, v, kb)] ++ es.drop k) := by
  refine ⟨h.rel.ins hu hv hfree hp, ?_⟩
  have hl := ins_len es k ((i : Int) + 1, u, v, kb) hp.1
  have hb := h.bnd
  refine ⟨?_, ?_, ?_, hb.rd0, by have := hb.rd1; show g.rd ≤ _; omega, fun x hx => ?_⟩
  · show g.nb + 65536 + _ ≤ _
    rw [hl]; have := hb.nb; omega
  · show 0 ≤ g.wr + 1
    have := hb.wr0; omega
  · show g.wr + 1 + _ ≤ _
    rw [hl]; have := hb.wr1; omega
  · rcases List.mem_append.1 hx with hx | hx
    · rcases List.mem_append.1 hx with hx | hx
      · exact hb.wt x (List.mem_of_mem_take hx)
      · rw [List.mem_singleton.1 hx]; exact hk
    · exact hb.wt x (List.mem_of_mem_drop hx)
theorem Game.sv (h : Game n X g vv ev vs es w) {k : Int} (hk : k ∈ vs) : g.V k = true := (h.rel.V k).2 hk
theorem Game.nv (h : Game n X g vv ev vs es w) {k : Int} (hk : k ∉ vs) : g.V k = false := by
  cases e : g.V k with
  | false => rfl
  | true => exact absurd ((h.rel.V k).1 e) hk

theorem Game.least (h : Game n X g vv ev vs es w) (hf : ¬ ∀ j : Nat, j < 1024 → HasNo es ((j : Int) + 1)) : ∃ i, i < 1024 ∧ Least g.ps i := by
  obtain ⟨i, hi⟩ := Classical.not_forall.1 hf
  have hi1 : i < 1024 ∧ ¬ HasNo es ((i : Int) + 1) := by
    by_cases e : i < 1024
    · exact ⟨e, fun h2 => hi (fun _ => h2)⟩
    · exact absurd (fun h2 => absurd h2 e) hi
  clear hi hf
  obtain ⟨h1, h2⟩ := hi1
  induction i using Nat.strongRecOn with
  | _ i ih =>
    by_cases hall : ∀ j, j < i → ∃ a, g.ps[j]? = some (a, true)
    · exact ⟨i, h1, hall, fun a ha => h2 ((h.rel.noN i).2 ⟨a, ha⟩)⟩
    · obtain ⟨j, hj⟩ := Classical.not_forall.1 hall
      have hj1 : j < i := Classical.byContradiction (fun e => hj (fun e2 => absurd e2 e))
      exact ih j hj1 (by omega) (fun e => hj (fun _ => (h.rel.noN j).1 e))

theorem pairAddE (h : Game n X g vv ev vs es w) (u v b : Int) (hu : okN u) (hv : okN v) (h0 : 0 ≤ b) :
    ∃ (m c : Int) (g' : Gr), (Calls Tryz.prog 67 #[.pointer (some ⟨X.s, 0, none⟩), .int .i64 u, .int .i64 v, .int .u32 b] w fun e w' => e = .returned (.tuple #[.int .i64 m, .int .i64 c]) ∧ Hid (Goes w X g' w')) ∧
      ∀ W, NRow W vv vs → GRow 0 W ev es → Calls Tryz.prog 68 #[.agg #[vv, ev, .int .i64 g.rd, .int .i64 g.wr], .int .i64 u, .int .i64 v, .int .u32 b] W fun e w' => Hid (∃ vs' es', Nx (n + 1) g' vs' es' ∧ AnsGI W vv ev vs' es' g'.rd g'.wr m c e w') := by
  have hl := h.vlen
  have hle := h.elen
  have hb := h.bnd.up (Nat.le_succ n)
  have hw := h.wrs
  have hnb := h.nb
  by_cases hu1 : u ∈ vs
  · by_cases hv1 : v ∈ vs
    · have hU := h.sv hu1
      have hV := h.sv hv1
      cases hk : kept b with
      | none => exact ⟨0, 7, g, (addEBad u v b h.st (h.sh.some_ hU) (h.sh.some_ hV) h0 hk).mono fun _ _ ⟨e, e2⟩ => ⟨e, by subst e2; exact Goes.same h.st h.sh⟩, fun W r1 r2 => (refAddEBad u v b r1 r2 (by omega) (by omega) hu1 hv1 hk).mono fun _ _ hh => ⟨vs, es, ⟨h.rel, hb⟩, unhide hh⟩⟩
      | some kb =>
        by_cases hf : ∀ j : Nat, j < 1024 → HasNo es ((j : Int) + 1)
        · exact ⟨0, 8, g, (addEMany u v b h.st (h.sh.some_ hU) (h.sh.some_ hV) h0 hk (fun j hj => by rw [h.sh.ps]; exact (h.rel.noN j).1 (hf j hj))).mono fun _ _ ⟨e, e2⟩ => ⟨e, Goes.below h.st h.sh e2⟩, fun W r1 r2 => (refAddEMany u v b r1 r2 (by omega) (by omega) hu1 hv1 hk hf).mono fun _ _ hh => ⟨vs, es, ⟨h.rel, hb⟩, unhide hh⟩⟩
        · obtain ⟨i, hi, hL⟩ := h.least hf
          refine ⟨(i : Int) + 1, 0, g.ins i u v kb, (addES i u v b h.st (h.sh.some_ hU) (h.sh.some_ hV) h0 hk (by rw [h.sh.ps]; exact hL) hi (by have := h.sh.n; omega) (by rw [h.sh.wr]; omega) (by rw [h.sh.wr]; omega)).mono fun _ _ ⟨e, hh⟩ => ⟨e, ?_⟩, fun W r1 r2 => (refAddE u v b r1 r2 (by omega) (by omega) (by omega) (by omega) hu1 hv1 hk ⟨i, hi, fun e => ?_⟩).mono fun _ _ hh => ?_⟩
          · obtain ⟨X1, hI⟩ := unhide hh
            exact ⟨X1, hI.1, shows_ins h.sh hI⟩
          · obtain ⟨a, ha⟩ := (h.rel.noN i).1 e
            exact hL.2 a ha
          · obtain ⟨j, k, ⟨j1, j2, j3⟩, hP, vv', ev', e, q1, q2, q3, q4, q5⟩ := unhide hh
            have hj : j = i := by
              have : Least g.ps j := ⟨fun m hm => (h.rel.noN m).1 (j2 m hm), fun a ha => j3 ((h.rel.noN j).2 ⟨a, ha⟩)⟩
              exact this.one hL
            subst hj
            exact ⟨_, _, ins_nx h hU hV hL.2 hP (kept_fit h0 hk), vv', ev', e, q1, q2, q3, q4, q5⟩
    · exact ⟨0, 5, g, (addENo u v b h.st hu hv (.inr (h.sh.none_ (h.nv hv1)))).mono fun _ _ ⟨e, e2⟩ => ⟨e, by subst e2; exact Goes.same h.st h.sh⟩, fun W r1 r2 => (refAddENoV u v b r1 r2 (by omega) (by omega) hu1 hv1).mono fun _ _ hh => ⟨vs, es, ⟨h.rel, hb⟩, unhide hh⟩⟩
  · exact ⟨0, 5, g, (addENo u v b h.st hu hv (.inl (h.sh.none_ (h.nv hu1)))).mono fun _ _ ⟨e, e2⟩ => ⟨e, by subst e2; exact Goes.same h.st h.sh⟩, fun W r1 r2 => (refAddENoU u v b r1 r2 (by omega) (by omega) hu1).mono fun _ _ hh => ⟨vs, es, ⟨h.rel, hb⟩, unhide hh⟩⟩

theorem pairPutE (h : Game n X g vv ev vs es w) (e u v b : Int) (hu : okN u) (hv : okN v) (h0 : 0 ≤ b) :
    ∃ (c : Int) (g' : Gr), (Calls Tryz.prog 32 #[.pointer (some ⟨X.s, 0, none⟩), .agg #[.int .i64 e, .int .i64 u, .int .i64 v, .int .u32 b]] w fun r w' => r = .returned (.int .i64 c) ∧ Hid (Goes w X g' w')) ∧
      ∀ W, NRow W vv vs → GRow 0 W ev es → Calls Tryz.prog 69 #[.agg #[vv, ev, .int .i64 g.rd, .int .i64 g.wr], .agg #[.int .i64 e, .int .i64 u, .int .i64 v, .int .u32 b]] W fun r w' => Hid (∃ vs' es', Nx (n + 1) g' vs' es' ∧ AnsG W vv ev vs' es' g'.rd g'.wr c r w') := by
  have hl := h.vlen
  have hle := h.elen
  have hb := h.bnd.up (Nat.le_succ n)
  have hw := h.wrs
  have hnb := h.nb
  by_cases he : e < 1 ∨ 1024 < e
  · exact ⟨1, g, (putERange e u v b h.st he).mono fun _ _ ⟨e, e2⟩ => ⟨e, Goes.below h.st h.sh e2⟩, fun W r1 r2 => (refPutERange (e, u, v, b) r1 r2 (by omega) (by omega) he).mono fun _ _ hh => ⟨vs, es, ⟨h.rel, hb⟩, unhide hh⟩⟩
  have he1 : ¬ e < 1 := fun x => he (.inl x)
  have he2 : ¬ 1024 < e := fun x => he (.inr x)
  by_cases hu1 : u ∈ vs
  · by_cases hv1 : v ∈ vs
    · have hU := h.sv hu1
      have hV := h.sv hv1
      cases hk : kept b with
      | none => exact ⟨7, g, (putEBad e u v b h.st (by omega) (by omega) (h.sh.some_ hU) (h.sh.some_ hV) h0 hk).mono fun _ _ ⟨e, e2⟩ => ⟨e, Goes.below h.st h.sh e2⟩, fun W r1 r2 => (refPutEBad (e, u, v, b) r1 r2 (by omega) (by omega) he1 he2 hu1 hv1 hk).mono fun _ _ hh => ⟨vs, es, ⟨h.rel, hb⟩, unhide hh⟩⟩
      | some kb =>
        obtain ⟨i, rfl⟩ : ∃ i : Nat, e = (i : Int) + 1 := ⟨(e - 1).toNat, by omega⟩
        by_cases hf : HasNo es ((i : Int) + 1)
        · obtain ⟨a, ha⟩ := (h.rel.noN i).1 hf
          exact ⟨2, g, (putETwice i u v b h.st (by rw [h.sh.ps]; exact ha) (h.sh.some_ hU) (h.sh.some_ hV) h0 hk).mono fun _ _ ⟨e, e2⟩ => ⟨e, Goes.below h.st h.sh e2⟩, fun W r1 r2 => (refPutETwice ((i : Int) + 1, u, v, b) r1 r2 (by omega) (by omega) he1 he2 hu1 hv1 hk hf).mono fun _ _ hh => ⟨vs, es, ⟨h.rel, hb⟩, unhide hh⟩⟩
        · have hfree : ∀ a, g.ps[i]? ≠ some (a, true) := fun a ha => hf ((h.rel.noN i).2 ⟨a, ha⟩)
          refine ⟨0, g.ins i u v kb, (putES i u v b h.st (by omega) (by rw [h.sh.ps]; exact hfree) (h.sh.some_ hU) (h.sh.some_ hV) h0 hk (by have := h.sh.n; omega) (by rw [h.sh.wr]; omega) (by rw [h.sh.wr]; omega)).mono fun _ _ ⟨e, hh⟩ => ⟨e, ?_⟩, fun W r1 r2 => (refPutE ((i : Int) + 1, u, v, b) r1 r2 (by omega) (by omega) (by omega) (by omega) he1 he2 hu1 hv1 hk hf).mono fun _ _ hh => ?_⟩
          · obtain ⟨X1, hI⟩ := unhide hh
            exact ⟨X1, hI.1, shows_ins h.sh hI⟩
          · obtain ⟨k, hP, hA⟩ := unhide hh
            exact ⟨_, _, ins_nx h hU hV hfree hP (kept_fit h0 hk), hA⟩
    · exact ⟨5, g, (putENo e u v b h.st (by omega) (by omega) hu hv (.inr (h.sh.none_ (h.nv hv1)))).mono fun _ _ ⟨e, e2⟩ => ⟨e, Goes.below h.st h.sh e2⟩, fun W r1 r2 => (refPutENoV (e, u, v, b) r1 r2 (by omega) (by omega) he1 he2 hu1 hv1).mono fun _ _ hh => ⟨vs, es, ⟨h.rel, hb⟩, unhide hh⟩⟩
  · exact ⟨5, g, (putENo e u v b h.st (by omega) (by omega) hu hv (.inl (h.sh.none_ (h.nv hu1)))).mono fun _ _ ⟨e, e2⟩ => ⟨e, Goes.below h.st h.sh e2⟩, fun W r1 r2 => (refPutENoU (e, u, v, b) r1 r2 (by omega) (by omega) he1 he2 hu1).mono fun _ _ hh => ⟨vs, es, ⟨h.rel, hb⟩, unhide hh⟩⟩

theorem Game.noE (h : Game n X g vv ev vs es w) {e : Int} (hno : ¬ HasNo es e) : ∀ (i : Nat) a, e = (i : Int) + 1 → X.ps[i]? ≠ some (a, true) := fun i a he ha => hno ((h.rel.no e).2 ⟨i, a, he, by rw [← h.sh.ps]; exact ha⟩)
theorem Game.yesE (h : Game n X g vv ev vs es w) {e : Int} (hno : HasNo es e) : ∃ (i : Nat) (a : EdgeV), e = (i : Int) + 1 ∧ g.ps[i]? = some (a, true) ∧ (∃ k : Nat, es[k]? = some a) ∧ a.1 = e := by
  obtain ⟨k, a, hk, rfl⟩ := hno
  obtain ⟨i, hi⟩ := (h.rel.mem a).1 (List.mem_of_getElem? hk)
  exact ⟨i, a, (h.rel.edge i a hi).1, hi, ⟨k, hk⟩, rfl⟩

theorem pairDropE (h : Game n X g vv ev vs es w) (e : Int) :
    ∃ (x : EdgeV) (c : Int) (g' : Gr), (Calls Tryz.prog 26 #[.pointer (some ⟨X.s, 0, none⟩), .int .i64 e] w fun r w' => r = .returned (.tuple #[.agg #[.int .i64 x.1, .int .i64 x.2.1, .int .i64 x.2.2.1, .int .u32 x.2.2.2], .int .i64 c]) ∧ Hid (Goes w X g' w')) ∧
      ∀ W, NRow W vv vs → GRow 0 W ev es → Calls Tryz.prog 70 #[.agg #[vv, ev, .int .i64 g.rd, .int .i64 g.wr], .int .i64 e] W fun r w' => Hid (∃ vs' es', Nx (n + 1) g' vs' es' ∧ AnsGE W vv ev vs' es' g'.rd g'.wr x c r w') := by
  have hle := h.elen
  have hb := h.bnd.up (Nat.le_succ n)
  have hw := h.wrs
  have hnb := h.nb
  by_cases hno : HasNo es e
  · obtain ⟨i, a, rfl, hi, hx, ha⟩ := h.yesE hno
    refine ⟨a, 0, g.cut i, (dropES i h.st (by rw [h.sh.ps]; exact hi) (by have := h.sh.n; omega) (by rw [h.sh.wr]; omega) (by rw [h.sh.wr]; omega)).mono fun _ _ ⟨e, hh⟩ => ⟨e, ?_⟩, fun W r1 r2 => (refDropE _ r1 r2 (by omega) (by omega) (by omega) hx ha h.rel.re.one).mono fun _ _ hh => ?_⟩
    · obtain ⟨X1, hS, r1, r2, r3, r4, r5, r6⟩ := unhide hh
      exact ⟨X1, hS, fun j => by rw [r2]; exact h.sh.V j, r3.trans h.sh.N, by rw [r1, h.sh.ps]; rfl, r4.trans h.sh.rd, by rw [r5, h.sh.wr]; rfl, Nat.le_trans r6 (Nat.add_le_add_right h.sh.n _)⟩
    · obtain ⟨k, hk, hA⟩ := unhide hh
      refine ⟨_, _, ⟨h.rel.cut hi hk, ?_⟩, hA⟩
      have hc := cut_len es k (List.getElem?_eq_some_iff.1 hk).1
      refine ⟨?_, ?_, ?_, hb.rd0, hb.rd1, fun y hy => hb.wt y (((cut_mem h.rel.re hk).2 y).1 hy).1⟩
      · show g.nb + 65536 + _ ≤ _
        have := h.bnd.nb; omega
      · show 0 ≤ g.wr + 1
        omega
      · show g.wr + 1 + _ ≤ _
        have := h.bnd.wr1; omega
  · exact ⟨(0, 0, 0, 0), 6, g, (dropENo e h.st (h.noE hno)).mono fun _ _ ⟨e, e2⟩ => ⟨e, Goes.below h.st h.sh e2⟩, fun W r1 r2 => (refDropENo e r1 r2 (by omega) hno).mono fun _ _ hh => ⟨vs, es, ⟨h.rel, hb⟩, unhide hh⟩⟩

theorem pairEdge (h : Game n X g vv ev vs es w) (e : Int) :
    ∃ (x : EdgeV) (c : Int) (g' : Gr), (Calls Tryz.prog 73 #[.pointer (some ⟨X.s, 0, none⟩), .int .i64 e] w fun r w' => r = .returned (.tuple #[.agg #[.int .i64 x.1, .int .i64 x.2.1, .int .i64 x.2.2.1, .int .u32 x.2.2.2], .int .i64 c]) ∧ Hid (Goes w X g' w')) ∧
      ∀ W, NRow W vv vs → GRow 0 W ev es → Calls Tryz.prog 74 #[.agg #[vv, ev, .int .i64 g.rd, .int .i64 g.wr], .int .i64 e] W fun r w' => Hid (∃ vs' es', Nx (n + 1) g' vs' es' ∧ AnsGE W vv ev vs' es' g'.rd g'.wr x c r w') := by
  have hle := h.elen
  have hb := h.bnd.up (Nat.le_succ n)
  have hr := h.rds
  by_cases hno : HasNo es e
  · obtain ⟨i, a, rfl, hi, hx, ha⟩ := h.yesE hno
    refine ⟨a, 0, { g with rd := g.rd + 1 }, (edgeS i h.st (by rw [h.sh.ps]; exact hi) (by rw [h.sh.rd]; omega) (by rw [h.sh.rd]; omega)).mono fun _ _ ⟨e, hh⟩ => ⟨e, _, unhide hh, h.sh.V, h.sh.N, h.sh.ps, by show X.rd + 1 = _; rw [h.sh.rd], h.sh.wr, h.sh.n⟩, fun W r1 r2 => (refEdge _ r1 r2 (by omega) (by omega) (by omega) hx ha h.rel.re.one).mono fun _ _ hh => ⟨vs, es, ⟨⟨h.rel.rv, h.rel.V, h.rel.N, h.rel.re, h.rel.mem, h.rel.edge⟩, hb.nb, hb.wr0, hb.wr1, ?_, ?_, hb.wt⟩, unhide hh⟩⟩
    · show 0 ≤ g.rd + 1
      omega
    · show g.rd + 1 ≤ _
      have := h.bnd.rd1; omega
  · exact ⟨(0, 0, 0, 0), 6, g, (edgeNo e h.st (h.noE hno)).mono fun _ _ ⟨e, e2⟩ => ⟨e, Goes.below h.st h.sh e2⟩, fun W r1 r2 => (refEdgeNo e r1 r2 (by omega) hno).mono fun _ _ hh => ⟨vs, es, ⟨h.rel, hb⟩, unhide hh⟩⟩

theorem pairRew (h : Game n X g vv ev vs es w) (e b : Int) (h0 : 0 ≤ b) :
    ∃ (m c : Int) (g' : Gr), (Calls Tryz.prog 71 #[.pointer (some ⟨X.s, 0, none⟩), .int .i64 e, .int .u32 b] w fun r w' => r = .returned (.tuple #[.int .u32 m, .int .i64 c]) ∧ Hid (Goes w X g' w')) ∧
      ∀ W, NRow W vv vs → GRow 0 W ev es → Calls Tryz.prog 72 #[.agg #[vv, ev, .int .i64 g.rd, .int .i64 g.wr], .int .i64 e, .int .u32 b] W fun r w' => Hid (∃ vs' es', Nx (n + 1) g' vs' es' ∧ AnsGU W vv ev vs' es' g'.rd g'.wr m c r w') := by
  have hle := h.elen
  have hb := h.bnd.up (Nat.le_succ n)
  have hw := h.wrs
  have hnb := h.nb
  by_cases hno : HasNo es e
  · obtain ⟨i, a, rfl, hi, hx, ha⟩ := h.yesE hno
    cases hk : kept b with
    | none => exact ⟨0, 7, g, (rewBad i b h.st (by rw [h.sh.ps]; exact hi) h0 hk).mono fun _ _ ⟨e, e2⟩ => ⟨e, Goes.below h.st h.sh (unhide e2)⟩, fun W r1 r2 => (refReweighBad _ b hk r1 r2 (by omega) (by omega) (by omega) hx ha h.rel.re.one).mono fun _ _ hh => ⟨vs, es, ⟨h.rel, hb⟩, unhide hh⟩⟩
    | some kb =>
      refine ⟨a.2.2.2, 0, g.rew i (a.1, a.2.1, a.2.2.1, kb), (rewS i b h.st (by rw [h.sh.ps]; exact hi) h0 hk (by rw [h.sh.wr]; omega) (by rw [h.sh.wr]; omega)).mono fun _ _ ⟨e, hh⟩ => ⟨e, ?_⟩, fun W r1 r2 => (refReweigh _ b hk r1 r2 (by omega) (by omega) (by omega) hx ha h.rel.re.one).mono fun _ _ hh => ?_⟩
      · obtain ⟨X1, hS, r1, r2, r3, r4, r5, r6⟩ := unhide hh
        exact ⟨X1, hS, fun j => by rw [r2]; exact h.sh.V j, r3.trans h.sh.N, by rw [r1, h.sh.ps]; rfl, r4.trans h.sh.rd, by rw [r5, h.sh.wr]; rfl, Nat.le_trans r6 (Nat.add_le_add_right h.sh.n _)⟩
      · obtain ⟨k, hk2, hA⟩ := unhide hh
        refine ⟨_, _, ⟨h.rel.rew kb hi hk2, ?_⟩, hA⟩
        refine ⟨?_, ?_, ?_, hb.rd0, hb.rd1, fun y hy => (List.mem_or_eq_of_mem_set hy).elim (hb.wt y) (fun e => by rw [e]; exact kept_fit h0 hk)⟩
        · show g.nb + 65536 + _ ≤ _
          rw [List.length_set]; have := h.bnd.nb; omega
        · show 0 ≤ g.wr + 1
          omega
        · show g.wr + 1 + _ ≤ _
          rw [List.length_set]; have := h.bnd.wr1; omega
  · exact ⟨0, 6, g, (rewNo e b h.st (h.noE hno)).mono fun _ _ ⟨e, e2⟩ => ⟨e, Goes.below h.st h.sh (unhide e2)⟩, fun W r1 r2 => (refReweighNo e b r1 r2 (by omega) hno).mono fun _ _ hh => ⟨vs, es, ⟨h.rel, hb⟩, unhide hh⟩⟩
end
end Go.Proofs.YtagibmgbjhemkaaGreat
