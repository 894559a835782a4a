/- The search: from. -/
import Derived.Test.YtdpdghhieokcfaaSea95
import Derived.Deep.LoopGhost
namespace Go.Proofs.Ytdpdghhieokcfaa
open Go.RowKit Go.Maps T9
namespace T9
section
variable {nx : Nat → List Nat} {s : St}
theorem Inv.tryStep (h : Inv nx s) {a q : Nat} {rest : List Nat} (ht : s.tl = a :: rest) (hq : (nx a)[s.tried a]? = some q) : Inv nx (s.tryStep a q) := by
  unfold St.tryStep
  by_cases hv : s.tu q = 0
  · rw [if_pos hv]; exact h.tryNew ht hq hv
  · rw [if_neg hv]
    by_cases hh : s.hd q = none
    · rw [if_pos hh]; exact h.tryOpen ht hq hv hh
    · rw [if_neg hh]; exact h.tryShut ht hq hv hh
theorem todo_tryStep {n a q : Nat} (ha : a < n) (hl : s.tried a < (nx a).length) (hq : q < n) : (s.tryStep a q).todo nx n < s.todo nx n := by
  have h1 := todo_tick (s := s) (nx := nx) ha hl
  unfold St.tryStep
  by_cases hv : s.tu q = 0
  · rw [if_pos hv]
    have h2 := todo_enter (s := s.tick a) (nx := nx) hq hv
    omega
  · rw [if_neg hv]
    by_cases hh : s.hd q = none
    · rw [if_pos hh, todo_lower]; omega
    · rw [if_neg hh]; omega
theorem cnt_tryStep {n a q : Nat} (h : s.Cnt n) (hq : q < n) : (s.tryStep a q).Cnt n := by
  unfold St.tryStep
  by_cases hv : s.tu q = 0
  · rw [if_pos hv]; exact cnt_enter (s := s.tick a) h hq hv
  · rw [if_neg hv]
    by_cases hh : s.hd q = none
    · rw [if_pos hh]; exact h
    · rw [if_neg hh]; exact h
theorem seen_enter {p x : Nat} (hx : s.tu x ≠ 0) : (s.enter p).tu x ≠ 0 := by
  show up s.tu p (s.turn + 1) x ≠ 0
  unfold up
  by_cases e : x = p
  · rw [if_pos e]; omega
  · rw [if_neg e]; exact hx
theorem seen_tryStep {a q x : Nat} (hx : s.tu x ≠ 0) : (s.tryStep a q).tu x ≠ 0 := by
  unfold St.tryStep
  by_cases hv : s.tu q = 0
  · rw [if_pos hv]; exact seen_enter (s := s.tick a) hx
  · rw [if_neg hv]
    by_cases hh : s.hd q = none
    · rw [if_pos hh]; exact hx
    · rw [if_neg hh]; exact hx
/-- Amid a search. -/
def Amid (nx : Nat → List Nat) (n : Nat) (s0 s : St) : Prop := Inv nx s ∧ s.Cnt n ∧ ∀ x, s0.tu x ≠ 0 → s.tu x ≠ 0
theorem Amid.small {n : Nat} {s0 : St} (h : Amid nx n s0 s) (hn : n ≤ 1000000) : s.turn ≤ 1000000 ∧ s.tl.length ≤ 1000000 ∧ s.op.length ≤ 1000000 := by
  obtain ⟨h1, h2⟩ := h.1.fewOpen
  have := h.2.1.1
  omega
end
end T9
theorem NxAt.len {w w' : World} {nv : Value} {n : Nat} {nx : Nat → List Nat} (h : NxAt w nv n nx) (hb : Below w.heap.size w w') {p : Nat} (hp : p < n) :
    ∃ gn cn x c, nv = .slice (some ⟨gn, 0, none⟩) n cn ∧ w'.cell? ⟨gn, p, none⟩ = some (.slice x (nx p).length c) := by
  obtain ⟨gn, cn, e, hg, -, hr⟩ := h
  obtain ⟨v, hv, hr⟩ := hr p hp
  obtain ⟨x, c, ev, -⟩ := brow_shape hr
  rw [pl_len] at ev
  exact ⟨gn, cn, x, c, e, by rw [hb.cell (p := ⟨gn, p, none⟩) hg, hv, ev]⟩
section
variable {L : Nat → Nat} {s : St} {kv ov nv hv tv lv rv : Value} {w w' w0 : World} {nx : Nat → List Nat} {sb n : Nat}
/-- One step, whichever it is. -/
def Stepped (F : SF) (nx : Nat → List Nat) (s0 s : St) (w' : World) : Prop := ∃ s', SM F s' w' ∧ Amid nx F.n s0 s' ∧ s'.todo nx F.n < s.todo nx F.n
theorem tryArcT {F : SF} {s0 : St} (hN : NxAt F.w0 F.nv F.n nx) (h : SMem F L s kv ov w) (hA : Amid nx F.n s0 s) {a : Nat} {rest : List Nat} (ht : s.tl = a :: rest) (hlt : s.tried a < (nx a).length) (hnx : ∀ p, p < F.n → ∀ q ∈ nx p, q < F.n) (hn : F.n ≤ 1000000) (hl : ∀ p, p < F.n → (nx p).length ≤ 1000000) :
    Calls Try.prog 63 #[.pointer (some ⟨F.sb, 0, none⟩), .int .i64 a] w fun r w' => r = .returned (.tuple #[]) ∧ Hid (Stepped F nx s0 s w') := by
  have ha : a < F.n := hA.1.trailed hA.2.1 a (by rw [ht]; simp)
  have hq : (nx a)[s.tried a]? = some (nx a)[s.tried a] := List.getElem?_eq_getElem hlt
  have hqn := hnx a ha _ (List.mem_of_getElem? hq)
  obtain ⟨s1, s2, s3⟩ := hA.small hn
  refine (tryArcS hN h ha hq hqn hn (hl a ha) s1 s2 s3).mono ?_
  rintro r w' ⟨rfl, hh⟩
  exact ⟨rfl, _, unhide hh, ⟨hA.1.tryStep ht hq, cnt_tryStep hA.2.1 hqn, fun x hx => seen_tryStep (hA.2.2 x hx)⟩, todo_tryStep ha hlt hqn⟩
theorem leaveT {F : SF} {s0 : St} (h : SMem F L s kv ov w) (hA : Amid nx F.n s0 s) {a : Nat} {rest : List Nat} (ht : s.tl = a :: rest) (hf : s.tried a = (nx a).length) (hn : F.n ≤ 1000000) :
    Calls Try.prog 64 #[.pointer (some ⟨F.sb, 0, none⟩), .int .i64 a] w fun r w' => r = .returned (.tuple #[]) ∧ Hid (Stepped F nx s0 s w') := by
  have htr := hA.1.trailed hA.2.1
  have ha : a < F.n := htr a (by rw [ht]; simp)
  obtain ⟨s1, s2, s3⟩ := hA.small hn
  by_cases hla : s.lo a = s.tu a
  · have hao : a ∈ s.op := hA.1.sub.subset (by rw [ht]; simp)
    obtain ⟨l1, op', e, hne⟩ := List.eq_append_cons_of_mem hao
    refine (leaveShut h ht e hla hne (hA.1.opened hA.2.1) hn s3 s2).mono ?_
    rintro r w' ⟨rfl, hh⟩
    obtain ⟨m, m1, m2, m3⟩ := unhide hh
    exact ⟨rfl, _, m3, ⟨hA.1.close ht hf hla e m1 m2, hA.2.1, hA.2.2⟩, by have := todo_close (nx := nx) (n := F.n) (m := m) (cl := l1 ++ [a]) (op' := op') ht; omega⟩
  · cases rest with
    | nil => exact absurd (hA.1.first ht) hla
    | cons b rest =>
      refine (leaveBack h ht hla ha (htr b (by rw [ht]; simp)) hn s2).mono ?_
      rintro r w' ⟨rfl, hh⟩
      exact ⟨rfl, _, unhide hh, ⟨hA.1.leave ht hf hla, hA.2.1, hA.2.2⟩, by have := todo_back (nx := nx) (n := F.n) (v := min (s.lo b) (s.lo a)) ht; omega⟩
/-- Behind from. -/
def FromAns (F : SF) (nx : Nat → List Nat) (s0 : St) (w' : World) : Prop := ∃ s', SM F s' w' ∧ Amid nx F.n s0 s' ∧ s'.tl = []
set_option maxHeartbeats 4000000 in
set_option maxRecDepth 100000 in
theorem fromS {F : SF} (hN : NxAt F.w0 F.nv F.n nx) (h : SMem F L s kv ov w) (hI : Inv nx s) (hC : s.Cnt F.n) (ht : s.tl = []) {p : Nat} (hp : p < F.n) (hv : s.tu p = 0) (hnx : ∀ p, p < F.n → ∀ q ∈ nx p, q < F.n) (hn : F.n ≤ 1000000) (hl : ∀ p, p < F.n → (nx p).length ≤ 1000000) :
    Calls Try.prog 44 #[.pointer (some ⟨F.sb, 0, none⟩), .int .i64 p] w fun r w' => r = .returned (.tuple #[]) ∧ Hid (FromAns F nx (s.enter p) w') := by
  have hA : Amid nx F.n s s := ⟨hI, hC, fun _ h => h⟩
  obtain ⟨s1, s2, s3⟩ := hA.small hn
  have CE := hide (enterS h hp hn s1 s2 s3)
  have hA0 : Amid nx F.n (s.enter p) (s.enter p) := ⟨hI.enter hv (fun t q => by rw [ht] at q; cases q), cnt_enter hC hp hv, fun _ h => h⟩
  obtain ⟨sb, nv, gh, ch, gt, ct, gl, cl, gr, cr, n, w0, hF⟩ := SF.shape h (by omega)
  obtain ⟨gn, cn, _, _, en, -⟩ := hN.len h.below hp
  rw [hF] at en
  dsimp only at en
  subst en
  have HF := hide hF
  have hsb : F.sb = sb := by rw [hF]
  rw [hsb] at CE ⊢
  have HC := hide (And.intro hN (And.intro hnx (And.intro hn (And.intro hl hsb))))
  have HA0 := hide hA0
  obtain ⟨t0, ht0⟩ : ∃ t0, t0 = (s.enter p).todo nx F.n := ⟨_, rfl⟩
  have HT0 := hide ht0
  generalize s.enter p = s0 at *
  clear hN h hI hC ht hp hv hnx hn hl hA s1 s2 s3 hA0 hF hsb ht0
  go_enter Try.func44, Try.ntmps44
  go_wp2_with fail
  refine (unhide CE).mono ?_
  rintro r w1 ⟨rfl, hh⟩
  clear CE
  go_upto_region 1 with fail
  go_loopg [4] t0 (fun k s4 wr => Hid (∃ s', SM F s' wr ∧ Amid nx F.n s0 s' ∧ s'.todo nx F.n ≤ k))
  case atStart => exact ⟨s0, unhide hh, unhide HA0, by rw [unhide HT0]; exact Nat.le_refl _⟩
  case round =>
    obtain ⟨st, ⟨L', kv', ov', hM⟩, hA, hk⟩ := unhide hrel
    obtain ⟨hN, hnx, hn, hl, hsb⟩ := unhide HC
    obtain ⟨s1, s2, s3⟩ := hA.small hn
    cases ht : st.tl with
    | nil =>
      have hkr : BRow F.w0.heap.size wr kv' [] := by have := hM.kr; rw [ht] at this; exact this
      obtain ⟨x, c, rfl, -⟩ := brow_shape hkr
      have hM2 := hM
      rw [unhide HF] at hM2
      obtain ⟨-, -, -, -, -, -, c6, -, -⟩ := hM2.cells
      have HG : Hid (FromAns F nx s0 wr) := ⟨st, ⟨_, _, _, hM⟩, hA, ht⟩
      clear hM hM2 hA hk hN hnx hn hl hsb s1 s2 s3 ht hkr hrel hh HA0
      go_wp2_with fail
      go_end0
      exact ⟨rfl, HG⟩
    | cons a rest =>
      obtain ⟨gk, ck, rfl, hck, x1⟩ := hM.trailAt ht
      have ha : a < F.n := hA.1.trailed hA.2.1 a (by rw [ht]; simp)
      have CT : Hid (st.tried a < (nx a).length → ∀ q, Calls Try.prog 63 #[.pointer (some ⟨sb, 0, none⟩), .int .i64 a] (wr.drewN q) fun r w' => r = .returned (.tuple #[]) ∧ Hid (Stepped F nx s0 st w')) := fun hlt q => by
        have := tryArcT hN (hM.drew q) hA ht hlt hnx hn hl
        rw [hsb] at this; exact this
      have CL : Hid (st.tried a = (nx a).length → ∀ q, Calls Try.prog 64 #[.pointer (some ⟨sb, 0, none⟩), .int .i64 a] (wr.drewN q) fun r w' => r = .returned (.tuple #[]) ∧ Hid (Stepped F nx s0 st w')) := fun hlt q => by
        have := leaveT (hM.drew q) hA ht hlt hn
        rw [hsb] at this; exact this
      have hfew := hA.1.few a
      have hM2 := hM
      rw [unhide HF] at hM2 hN ha
      dsimp only at hN ha
      obtain ⟨c0, -, -, -, c4, -, c6, -, -⟩ := hM2.cells
      obtain ⟨_, _, x, c, e1, y1⟩ := hN.len hM2.below ha
      injection e1 with e1 e2 e3
      injection e1 with e1
      injection e1 with e1
      subst e1
      have y2 := (hM2.atR (by omega)).2.1 a ha
      have zr : rest.length + 1 ≤ 1000000 := by rw [ht] at s2; simpa using s2
      obtain ⟨R1, hR1⟩ : ∃ R1, R1 = rest.length + 1 := ⟨_, rfl⟩
      obtain ⟨R, hR⟩ : ∃ R, R = rest.length := ⟨_, rfl⟩
      have hw1 : IntKind.i64.wrap ((R1 : Int) - 1) = (R : Int) := by rw [IntKind.wrap_i64]; omega
      have z1 : (R : Int) < (R1 : Int) := by omega
      have z2 : (0 : Int) < (R1 : Int) := by omega
      have z3 : (a : Int) < (n : Int) := by omega
      rw [← hR1] at c6
      rw [← hR] at x1
      have HK := hide hk
      by_cases hlt : st.tried a < (nx a).length
      · have z4 : ((st.tried a : Nat) : Int) < ((nx a).length : Int) := by omega
        have CC := hide (unhide CT hlt)
        generalize st.tried a = ta at *
        generalize (nx a).length = la at *
        clear hM hM2 hA hk hN hnx hn hl hsb s1 s2 s3 ht hrel hh HA0 CT CL hfew e2 e3 hck zr hR1 hR hlt ha
        go_wp2_with fail
        go_quiet (fail)
        go_wp2_with fail
        go_quiet (fail)
        go_wp2_with fail
        refine (unhide CC _).mono ?_
        rintro r w2 ⟨rfl, hh⟩
        go_wp2_with fail
        obtain ⟨s', m1, m2, m3⟩ := unhide hh
        go_roundg (s'.todo nx F.n)
        case measure => have := unhide HK; omega
        case rel => exact ⟨s', m1, m2, Nat.le_refl _⟩
      · have z4 : ¬ ((st.tried a : Nat) : Int) < ((nx a).length : Int) := by omega
        have CC := hide (unhide CL (by omega))
        generalize st.tried a = ta at *
        generalize (nx a).length = la at *
        clear hM hM2 hA hk hN hnx hn hl hsb s1 s2 s3 ht hrel hh HA0 CT CL hfew e2 e3 hck zr hR1 hR hlt ha
        go_wp2_with fail
        go_quiet (fail)
        go_wp2_with fail
        go_quiet (fail)
        go_wp2_with fail
        refine (unhide CC _).mono ?_
        rintro r w2 ⟨rfl, hh⟩
        go_wp2_with fail
        obtain ⟨s', m1, m2, m3⟩ := unhide hh
        go_roundg (s'.todo nx F.n)
        case measure => have := unhide HK; omega
        case rel => exact ⟨s', m1, m2, Nat.le_refl _⟩
end
end Go.Proofs.Ytdpdghhieokcfaa
