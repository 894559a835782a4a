/- A law of layer 10 in the midst: the index beside the reference's graph. -/
import Derived.Test.YtkmhcgmmbkchaaaGreatAwake10
import Derived.Test.YtkmhcgmmbkchaaaGreatFrame10
namespace Go.Proofs.YtkmhcgmmbkchaaaGreat
open Go.RowKit Go.Maps T9
/-- The index and the graph's box, behind some calls. -/
structure LS (w : World) (gb c p m ma ml me : Nat) (lk : Int) (V : List Int) (es : List EdV) (N : Nat) (vv ev : Value) (wr : Int) (L : Nat → Nat) (W : World) : Prop where
  k : KSt L W c p m ma ml me lk V es N
  g : GOk V es N
  box : W.heap[gb]? = some (oG vv ev 0 wr)
  vs : NRow W vv V
  es_ : GRow 0 W ev es
  lv : ∀ b, vv.ownBlock = some b → L b = 0 ∧ b ≠ gb
  le : ∀ b, ev.ownBlock = some b → L b = 0 ∧ b ≠ gb
  lg : L gb = 0
  low : ∀ b, b < w.heap.size → L b = 0
  bel : Below w.heap.size w W
  hg : w.heap.size ≤ gb
  wr0 : 0 ≤ wr
  wr1 : wr ≤ N
section
variable {w W W' : World} {gb c p m ma ml me : Nat} {lk : Int} {V : List Int} {es : List EdV} {N : Nat} {vv ev : Value} {wr : Int} {L : Nat → Nat}
theorem LS.below (h : LS w gb c p m ma ml me lk V es N vv ev wr L W) (hb : Below W.heap.size W W') : LS w gb c p m ma ml me lk V es N vv ev wr L W' :=
  ⟨h.k.below hb, h.g, (hb.block gb (heap_lt h.box)).trans h.box, nrow_below h.vs hb, grow_below h.es_ hb, h.lv, h.le, h.lg, h.low, h.bel.trans (hb.mono h.bel.size), h.hg, h.wr0, h.wr1⟩
theorem LS.named (h : LS w gb c p m ma ml me lk V es N vv ev wr L W) : LS w gb c p m ma ml me lk V es N vv ev wr (lab L W.heap.size 0) W :=
  ⟨h.k.named 0, h.g, h.box, h.vs, h.es_, fun b q => ⟨(if_pos (h.vs.lt b q).2).trans (h.lv b q).1, (h.lv b q).2⟩, fun b q => ⟨(if_pos (h.es_.lt b q).2).trans (h.le b q).1, (h.le b q).2⟩, (if_pos (heap_lt h.box)).trans h.lg, fun b hb => (if_pos (by have := h.bel.size; omega)).trans (h.low b hb), h.bel, h.hg, h.wr0, h.wr1⟩
/-- One call is played: the graph's box is the old one, until the answer is stored. -/
theorem LS.play {k e u v : Int} {r : Ending} (h : LS w gb c p m ma ml me lk V es N vv ev wr L W) (hp : PlayAns L W c p m ma ml me lk V es N vv ev 0 wr k e u v r W') :
    ∃ vv' ev' wr' V' es' lk' L', r = .returned (.tuple #[.agg #[vv', ev', .int .i64 0, .int .i64 wr'], .bool true]) ∧ W'.heap[gb]? = some (oG vv ev 0 wr) ∧ LS w gb c p m ma ml me lk' V' es' (N + 3) vv' ev' wr' L' (set4 W' gb vv' ev' (.int .i64 0) (.int .i64 wr')) ∧ Bd k e u v V es lk es' lk' ∧ ∀ b, b < W.heap.size → L b = 0 → b ≠ gb → (set4 W' gb vv' ev' (.int .i64 0) (.int .i64 wr')).heap[b]? = W.heap[b]? := by
  obtain ⟨vv', ev', wr', V', es', lk', L', rfl, q1, q2, q3, q4, q5, q6, q7, q8, q9, q10⟩ := hp
  have hgl := heap_lt h.box
  have hbx := (q3.tur.block gb hgl (fun z => z h.lg)).trans h.box
  have hlg := (q3.lab_ gb hgl).trans h.lg
  have hbs := h.bel.size
  refine ⟨vv', ev', wr', V', es', lk', L', rfl, hbx, ⟨q1.set hlg _ _ _ _, q2, set4G_at hbx _ _ _ _, ?_, ?_, ?_, ?_, hlg, fun b hb => (q3.lab_ b (by omega)).trans (h.low b hb), ?_, h.hg, by have := h.wr0; omega, by have := h.wr1; omega⟩, q10, fun b hb hl hn => ?_⟩
  · exact nrow_kept q4 (fun b q => set4_other (fun z => by
      rcases (q6 b q).2 with y | y
      · exact (h.lv b y).2 z
      · omega) _ _ _ _)
  · exact grow_kept q5 (fun b q => set4_other (fun z => by
      rcases (q7 b q).2 with y | y
      · exact (h.le b y).2 z
      · omega) _ _ _ _)
  · intro b q
    refine ⟨(q6 b q).1, fun z => ?_⟩
    rcases (q6 b q).2 with y | y
    · exact (h.lv b y).2 z
    · omega
  · intro b q
    refine ⟨(q7 b q).1, fun z => ?_⟩
    rcases (q7 b q).2 with y | y
    · exact (h.le b y).2 z
    · omega
  · exact set4_below (h.bel.trans ⟨q3.tur.os, q3.tur.tape, q3.tur.output, q3.tur.size, fun b hb => q3.tur.block b (by omega) (fun z => z (h.low b hb))⟩) h.hg _ _ _ _
  · rw [set4_other hn]; exact q3.tur.block b hb (fun z => z hl)
/-- At the beginning. -/
theorem ls_new {w1 : World} (h : NewK w c p m ma ml me w1) : LS w w1.heap.size c p m ma ml me 0 [] [] 0 (.slice none 0 0) (.slice none 0 0) 0 (lab (labN c p m ma ml me) w1.heap.size 0) (w1.alloc oZ) := by
  obtain ⟨k1, k2, k3⟩ := kst_new h
  have hs := k3.size
  exact ⟨(k1.named 0).below (below_new w1 oZ), gok_nil, heap_alloc_new w1 oZ, ⟨rfl, .inl ⟨rfl, rfl⟩⟩, ⟨rfl, .inl ⟨rfl, rfl⟩⟩, fun b q => (by cases q), fun b q => (by cases q), if_neg (by omega), fun b hb => (if_pos (by omega)).trans (k2 b hb), k3.trans ((below_new w1 oZ).mono hs), hs, Int.le_refl _, Int.le_refl _⟩
/-- Members and Same, as the law asks them. -/
theorem ls_members (h : LS w gb c p m ma ml me lk V es N vv ev wr L W) (hN : N ≤ 1000) {u : Int} (hu : okN u) : Calls Tryz.prog 11 #[.pointer (some ⟨c, 0, none⟩), .int .i64 u] W fun e w' => ∃ a n c', e = .returned (.slice a n c') ∧ Hid ((u ∈ V → ∃ ms : List Int, n = ms.length ∧ ∀ z, z ∈ V → Mut (AE es) u z → z ∈ ms) ∧ n ≤ 1000 ∧ Below W.heap.size W w') := by
  obtain ⟨S, h1, h2⟩ := h.k
  have ht := h1.tot_
  by_cases hv : u ∈ V
  · obtain ⟨x, hx, hux, -⟩ := h2.self.2 hv
    refine (kMembersF (Q := fun v' w' => BRow W.heap.size w' v' x.ks ∧ Below W.heap.size W w') h1.box ((membersN u _ h1.at_ hx hux (by omega)).mono fun e w' hh => hh)).mono ?_
    rintro e w' ⟨v', rfl, hq⟩
    obtain ⟨q1, q2⟩ := unhide hq
    obtain ⟨a, c', rfl, -⟩ := brow_shape q1
    refine ⟨a, _, c', rfl, fun _ => ⟨x.ks, rfl, fun z hz hm => sp_in h1.at_.fam hx hux ((h2 u z).2 ⟨hv, hz, hm⟩)⟩, ?_, q2⟩
    have := len_le_tot hx; omega
  · refine (kMembersF (Q := fun v' w' => v' = .slice none 0 0 ∧ w' = W) h1.box ((membersNoN u _ h1.at_ hu (h2.notin hv)).mono fun e w' hh => ⟨_, hh.1, rfl, hh.2⟩)).mono ?_
    rintro e w' ⟨v', rfl, hq⟩
    obtain ⟨rfl, rfl⟩ := unhide hq
    exact ⟨none, 0, 0, rfl, fun q => absurd q hv, by omega, Below.refl _ _⟩
theorem ls_same (h : LS w gb c p m ma ml me lk V es N vv ev wr L W) {u v : Int} (hu : okN u) (hv : okN v) : Calls Tryz.prog 23 #[.pointer (some ⟨c, 0, none⟩), .int .i64 u, .int .i64 v] W fun e w' => ∃ t, e = .returned (.bool t) ∧ Hid ((t = true ↔ u ∈ V ∧ v ∈ V ∧ Mut (AE es) u v) ∧ w' = W) := by
  obtain ⟨S, h1, h2⟩ := h.k
  refine (kSameS h1.box h1.at_ hu hv).mono ?_
  rintro e w' ⟨t, rfl, hq⟩
  obtain ⟨q1, q2⟩ := unhide hq
  exact ⟨t, rfl, by rw [q1, h2 u v], q2⟩
theorem ls_play (h : LS w gb c p m ma ml me lk V es N vv ev wr L W) (hN : N ≤ 900) {k e u v : Int} (he : okN e) (hu : okN u) (hv : okN v) : Calls Tryz.prog 9 #[.pointer (some ⟨c, 0, none⟩), .agg #[vv, ev, .int .i64 0, .int .i64 wr], .agg #[.int .i64 k, .int .i64 e, .int .i64 u, .int .i64 v]] W fun r w' => Hid (PlayAns L W c p m ma ml me lk V es N vv ev 0 wr k e u v r w') :=
  playS h.k h.g (by omega) h.vs h.es_ (fun b q => (h.lv b q).1) (fun b q => (h.le b q).1) h.wr0 (by have := h.wr1; omega) he hu hv
end
theorem opAt_below {w W : World} {b off : Nat} {o : OpV} (h : OpAt w b off o) (hb : Below w.heap.size w W) : OpAt W b off o := by
  obtain ⟨h1, h2, h3, h4⟩ := h
  have hl : b < w.heap.size := by
    rcases Nat.lt_or_ge b w.heap.size with q | q
    · exact q
    · unfold World.cell? at h1
      rw [Array.getElem?_eq_none q] at h1; cases h1
  exact ⟨(hb.cell (p := ⟨b, off, none⟩) hl).trans h1, (hb.cell (p := ⟨b, off + 1, none⟩) hl).trans h2, (hb.cell (p := ⟨b, off + 2, none⟩) hl).trans h3, (hb.cell (p := ⟨b, off + 3, none⟩) hl).trans h4⟩
end Go.Proofs.YtkmhcgmmbkchaaaGreat
