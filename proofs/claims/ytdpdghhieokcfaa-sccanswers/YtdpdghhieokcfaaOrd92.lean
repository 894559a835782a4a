/- order: its states, one lemma a step. -/
import Derived.Test.YtdpdghhieokcfaaOrd9
namespace Go.Proofs.Ytdpdghhieokcfaa
open Go.RowKit Go.Maps T9
structure OF where
  w : World
  n : Nat
  nx : Nat → List Nat
  h : Nat → Nat
  hvv : Value
  gv : Nat
  go : Nat
  p : Nat
  ovs : List Value
def OF.ar (Z : OF) : List (Nat × Nat) := arcsOf Z.h Z.nx Z.n
def OF.hs (Z : OF) : List Nat := headsTo Z.h Z.n
/-- What is so of the graph. -/
structure OF.Good (Z : OF) : Prop where
  small : Z.n ≤ 100000
  le : ∀ p, Z.h p ≤ p
  on : Onward Z.hs Z.ar (T9.Reach Z.nx)
  ars : Z.ar.length ≤ 1000000
theorem hs_lt {Z : OF} {m : Nat} (h : m ∈ Z.hs) : m < Z.n := (mem_headsTo.1 h).1
theorem told_len {Z : OF} {T : List Nat} (h : T9.Told Z.hs Z.ar T) : T.length ≤ Z.n := nodup_lt h.nodup.1 (fun x hx => hs_lt (h.nodup.2 x hx))
theorem keyOk_nat {m : Nat} (h : m ≤ 100000) : KeyOkI (m : Int) := WalkArith.wf_i64 (by omega)
section
variable [Inhabited EntI] {Z : OF} {V : List Int} {T : List Nat} {u i : Nat} {tv : Value} {W : World}
def OMz (Z : OF) (wt : Nat → Nat) (tv : Value) (ms : List EntI) (hn : Nat) (tl : List Int) (W : World) : Prop := ∃ L F, OM Z.w Z.n (owOf Z.ar) wt Z.h Z.hvv (.slice (some ⟨Z.gv, 0, none⟩) Z.n Z.n) (.slice (some ⟨Z.go, 0, none⟩) Z.n Z.n) tv Z.ovs L Z.p F ms hn tl W
/-- The first k places gone through. -/
def O1 (Z : OF) (k : Nat) (W : World) : Prop := ∃ ms hn, OMz Z (wtOf Z.ar) (.slice none 0 0) ms hn [] W ∧ HK (fun m => m < k ∧ Z.h m = m ∧ wtOf Z.ar m = 0) ms ∧ hn = ms.length
/-- T is told. -/
def OP (Z : OF) (V : List Int) (T : List Nat) (tv : Value) (W : World) : Prop := T9.Told Z.hs Z.ar T ∧ ∃ ms hn, OMz Z (waits Z.ar T) tv ms hn (cv V T) W ∧ HK (Free Z.hs Z.ar T) ms ∧ hn = ms.length + T.length
/-- .. and u is next. -/
def O2 (Z : OF) (V : List Int) (T : List Nat) (u : Nat) (tv : Value) (W : World) : Prop := T9.Told Z.hs Z.ar T ∧ Free Z.hs Z.ar T u ∧ (∀ x, Free Z.hs Z.ar T x → u ≤ x) ∧ ∃ ms hn, OMz Z (waits Z.ar T) tv ms hn (cv V T) W ∧ HK (fun m => Free Z.hs Z.ar T m ∧ m ≠ u) ms ∧ hn = ms.length + T.length + 1
def OE (Z : OF) (V : List Int) (T : List Nat) (tv : Value) (W : World) : Prop := T9.Told Z.hs Z.ar T ∧ (∀ m, ¬ Free Z.hs Z.ar T m) ∧ ∃ ms hn, OMz Z (waits Z.ar T) tv ms hn (cv V T) W
/-- u told, and i of its arcs. -/
def O3 (Z : OF) (V : List Int) (T : List Nat) (u i : Nat) (tv : Value) (W : World) : Prop := T9.Told Z.hs Z.ar T ∧ Free Z.hs Z.ar T u ∧ (∀ x, Free Z.hs Z.ar T x → u ≤ x) ∧ ∃ ms hn, OMz Z (wtAt Z.ar T u i) tv ms hn (cv V (T ++ [u])) W ∧ HK (InHeap Z.hs Z.ar T u i) ms ∧ hn = ms.length + T.length + 1
theorem OMz.once {wt : Nat → Nat} {ms : List EntI} {hn : Nat} {tl : List Int} (h : OMz Z wt tv ms hn tl W) : KeysOnce ms := by
  obtain ⟨L, F, H⟩ := h
  exact H.hp.once
/-- A push. -/
theorem OMz.push {wt : Nat → Nat} {ms : List EntI} {hn : Nat} {tl : List Int} (G : Z.Good) (h : OMz Z wt tv ms hn tl W) {A : Nat → Prop} (hK : HK A ms) (hA : ∀ m, A m → m < Z.n) {x : Nat} (hx : x < Z.n) (hnx : ¬ A x) (hb : hn ≤ 1000000) :
    Calls Try.prog 36 #[.pointer (some ⟨Z.p, 0, none⟩), .int .i64 (x : Nat), .int .i64 (x : Nat)] W fun e w' => e = .returned (.bool true) ∧ Hid (∃ ms', OMz Z wt tv ms' (hn + 1) tl w' ∧ HK (fun m => A m ∨ m = x) ms' ∧ ms'.length = ms.length + 1) := by
  have hl := hK.len h.once hA
  obtain ⟨L, F, H⟩ := h
  have hs := G.small
  refine (H.hp.push (x : Int) (x : Int) (keyOk_nat (by omega)) (fun y hy e => ?_) (by omega) (by omega)).mono ?_
  · obtain ⟨m, e1, -, e3⟩ := hK.1 y hy
    rw [e1] at e
    exact hnx (by rw [← show m = x by omega]; exact e3)
  · rintro e w' ⟨rfl, F', g1, g2, g3⟩
    exact ⟨rfl, _, ⟨_, _, H.heap g1 g2 g3⟩, hK.push x hn, by simp⟩
theorem o1_push {k : Nat} (G : Z.Good) (h : O1 Z k W) (hk : k < Z.n) (hh : Z.h k = k) (hw : wtOf Z.ar k = 0) :
    Calls Try.prog 36 #[.pointer (some ⟨Z.p, 0, none⟩), .int .i64 (k : Nat), .int .i64 (k : Nat)] W fun e w' => e = .returned (.bool true) ∧ Hid (O1 Z (k + 1) w') := by
  obtain ⟨ms, hn, hM, hK, he⟩ := h
  have hA : ∀ m, (m < k ∧ Z.h m = m ∧ wtOf Z.ar m = 0) → m < Z.n := fun m hm => by have := hm.1; omega
  have hl := hK.len hM.once hA
  have hs := G.small
  refine (hM.push G hK hA hk (fun q => Nat.lt_irrefl _ q.1) (by omega)).mono ?_
  rintro e w' ⟨rfl, hh2⟩
  obtain ⟨ms', h1, h2, h3⟩ := unhide hh2
  refine ⟨rfl, ms', _, h1, h2.congr (fun m => ?_), by omega⟩
  constructor
  · rintro (⟨a, b, c⟩ | rfl)
    · exact ⟨by omega, b, c⟩
    · exact ⟨by omega, hh, hw⟩
  · rintro ⟨a, b, c⟩
    by_cases e : m = k
    · exact .inr e
    · exact .inl ⟨by omega, b, c⟩
theorem o1_skip {k : Nat} (h : O1 Z k W) (hk : ¬ (Z.h k = k ∧ wtOf Z.ar k = 0)) : O1 Z (k + 1) W := by
  obtain ⟨ms, hn, hM, hK, he⟩ := h
  refine ⟨ms, hn, hM, hK.congr (fun m => ?_), he⟩
  constructor
  · rintro ⟨a, b, c⟩; exact ⟨by omega, b, c⟩
  · rintro ⟨a, b, c⟩
    by_cases e : m = k
    · subst e; exact absurd ⟨b, c⟩ hk
    · exact ⟨by omega, b, c⟩
theorem o1_done (h : O1 Z Z.n W) : OP Z V [] (.slice none 0 0) W := by
  obtain ⟨ms, hn, ⟨L, F, hM⟩, hK, he⟩ := h
  have e : (fun m => wtOf Z.ar m) = waits Z.ar [] := funext fun m => (waits_nil Z.ar m).symm
  refine ⟨T9.Told.nil, ms, hn, ⟨L, F, ?_⟩, hK.congr (fun m => ?_), by simp [he]⟩
  · rw [← e]; exact hM
  · unfold Free
    rw [← waits_zero, waits_nil]
    constructor
    · rintro ⟨a, b, c⟩; exact ⟨mem_headsTo.2 ⟨a, b⟩, by simp, c⟩
    · rintro ⟨a, -, c⟩; exact ⟨(mem_headsTo.1 a).1, (mem_headsTo.1 a).2, c⟩
/-- A pop: what it answers. -/
def PS (Z : OF) (V : List Int) (T : List Nat) (tv a c : Value) (W : World) : Prop := (∃ u : Nat, a = .int .i64 (u : Nat) ∧ c = .bool true ∧ O2 Z V T u tv W) ∨ (a = .int .i64 0 ∧ c = .bool false ∧ OE Z V T tv W)
theorem popO (G : Z.Good) (h : OP Z V T tv W) :
    Calls Try.prog 37 #[.pointer (some ⟨Z.p, 0, none⟩)] W fun e w' => Hid (∃ a b c, e = .returned (.tuple #[a, b, c]) ∧ PS Z V T tv a c w') := by
  obtain ⟨hT, ms, hn, hMz, hK, he⟩ := h
  have hl := hK.len hMz.once (N := Z.n) (fun m hm => hs_lt hm.1)
  obtain ⟨L, F, hM⟩ := hMz
  have hs := G.small
  cases ms with
  | nil =>
    refine hM.hp.popNone.mono ?_
    rintro e w' ⟨rfl, rfl⟩
    exact ⟨_, _, _, rfl, .inr ⟨rfl, rfl, hT, (fun m hm => by obtain ⟨x, hx, -⟩ := hK.2 m hm; cases hx), [], hn, L, F, hM⟩⟩
  | cons x0 ms0 =>
    refine (hM.hp.pop (by simp) (by omega)).mono ?_
    rintro e w' ⟨x, hx, rfl, hle, F', g1, g2, g3⟩
    obtain ⟨u, e1, e2, e3⟩ := hK.1 x hx
    refine ⟨_, _, _, rfl, .inl ⟨u, by rw [e1], rfl, hT, e3, fun y hy => ?_, without x.key (x0 :: ms0), hn, ⟨_, _, hM.heap g1 g2 g3⟩, hK.pop e1, ?_⟩⟩
    · obtain ⟨z, hz, ez⟩ := hK.2 y hy
      obtain ⟨m, f1, f2, -⟩ := hK.1 z hz
      have h4 := hle z hz
      unfold le at h4
      rw [e2, f2] at h4
      rw [f1] at ez
      simp at h4 ez
      omega
    · have h5 : (without x.key (x0 :: ms0)).length + 1 = (x0 :: ms0).length := by
        have ho := hM.hp.once
        unfold without
        have h6 : ∀ (l : List EntI), KeysOnce l → x ∈ l → (l.filter (fun e => decide (e.key ≠ x.key))).length + 1 = l.length := by
          intro l
          induction l with
          | nil => intro _ h; cases h
          | cons y l ih =>
            intro hk hm
            obtain ⟨k1, k2⟩ := List.pairwise_cons.1 hk
            by_cases e : y.key = x.key
            · rw [List.filter_cons, if_neg (by simp [e])]
              rw [List.filter_eq_self.2 (fun z hz => by have := k1 z hz; rw [e] at this; simpa using fun q => this q.symm)]
              rfl
            · rw [List.filter_cons, if_pos (by simp [e])]
              have hm2 : x ∈ l := (List.mem_cons.1 hm).resolve_left (fun q => e (by rw [q]))
              have := ih k2 hm2
              simp only [List.length_cons]; omega
        exact h6 _ ho hx
      omega
/-- u is told. -/
theorem o2_tell (G : Z.Good) (h : O2 Z V T u tv W) : ∃ a' n' c' w', (∀ ty, (Builtin.append_ #[22, 22] ty #[tv, .slice (some ⟨W.heap.size, 0, none⟩) 1 1]).run Try.prog (W.alloc (.cells #[.int .i64 (V.getD u 0)] 3)) = .ok (.slice a' n' c') w') ∧ O3 Z V T u 0 (.slice a' n' c') w' := by
  obtain ⟨hT, hf, hle, ms, hn, ⟨L, F, hM⟩, hK, he⟩ := h
  have hs := G.small
  have ht := told_len hT
  obtain ⟨a', n', c', w', r, hM'⟩ := hM.tell (V.getD u 0) (by unfold cv; rw [List.length_map]; omega)
  refine ⟨a', n', c', w', r, hT, hf, hle, ms, hn, ⟨lab L W.heap.size 4, F, ?_⟩, hK.congr (fun m => inHeap_start.symm), he⟩
  have e1 : (fun m => wtAt Z.ar T u 0 m) = waits Z.ar T := funext fun m => wt_zero Z.ar T u m
  have e2 : cv V T ++ [V.getD u 0] = cv V (T ++ [u]) := by simp [cv]
  rw [e2] at hM'
  show OM _ _ _ (fun m => wtAt Z.ar T u 0 m) _ _ _ _ _ _ _ _ _ _ _ _ _
  rw [e1]; exact hM'
theorem o3_end (h : O3 Z V T u (owOf Z.ar u).length tv W) : OP Z V (T ++ [u]) tv W := by
  obtain ⟨hT, hf, hle, ms, hn, ⟨L, F, hM⟩, hK, he⟩ := h
  refine ⟨T9.Told.next hT hf hle, ms, hn, ⟨L, F, ?_⟩, hK.congr (fun m => inHeap_end hf.2.1), by simp; omega⟩
  have e1 : (fun m => wtAt Z.ar T u (owOf Z.ar u).length m) = waits Z.ar (T ++ [u]) := funext fun m => wt_end hf.2.1 m
  rw [← e1]; exact hM
/-- One arc of u's: its end waits for one less. -/
theorem o3_step {x : Nat} (G : Z.Good) (h : O3 Z V T u i tv W) (hx : (owOf Z.ar u)[i]? = some x) : x < Z.n ∧ x ≠ u ∧ wtAt Z.ar T u i x = wtAt Z.ar T u (i + 1) x + 1 ∧ wtAt Z.ar T u i x ≤ 1000000 ∧
    (wtAt Z.ar T u (i + 1) x ≠ 0 → O3 Z V T u (i + 1) tv (W.setCell ⟨Z.gv, x, none⟩ (.int .i64 (wtAt Z.ar T u (i + 1) x : Nat)))) ∧
    (wtAt Z.ar T u (i + 1) x = 0 → Calls Try.prog 36 #[.pointer (some ⟨Z.p, 0, none⟩), .int .i64 (x : Nat), .int .i64 (x : Nat)] (W.setCell ⟨Z.gv, x, none⟩ (.int .i64 (wtAt Z.ar T u (i + 1) x : Nat))) fun e w' => e = .returned (.bool true) ∧ Hid (O3 Z V T u (i + 1) tv w')) := by
  obtain ⟨hT, hf, hle, ms, hn, hMz, hK, he⟩ := h
  have hs := G.small
  have ht := told_len hT
  have hl := hK.len hMz.once (N := Z.n) (fun m hm => hs_lt hm.1)
  obtain ⟨L, F, hM⟩ := hMz
  have ha := mem_ow (List.mem_of_getElem? hx)
  obtain ⟨-, hxs, hux, hxu⟩ := G.on.2.2 u x ha
  have hxn := hs_lt hxs
  have hne : x ≠ u := fun e => by rw [e] at hxu; exact hxu (G.on.2.1 u)
  have hxT := hT.later hf.2.1 ha
  obtain ⟨s1, s2⟩ := wt_step hf.2.1 hx
  have hM2 := hM.setW (wt' := wtAt Z.ar T u (i + 1)) (x := wtAt Z.ar T u (i + 1) x) rfl hxn (fun y => by
    by_cases e : y = x
    · rw [if_pos e, e]
    · rw [if_neg e, s2 y e])
  refine ⟨hxn, hne, s1, ?_, fun h0 => ?_, fun h0 => ?_⟩
  · unfold wtAt waits
    have h1 := G.ars
    have := List.countP_le_length (p := fun a : Nat × Nat => decide (a.2 = x ∧ a.1 ∉ T)) (l := Z.ar)
    omega
  · refine ⟨hT, hf, hle, ms, hn, ⟨_, _, hM2⟩, hK.congr (fun m => ?_), he⟩
    unfold InHeap
    by_cases e : m = x
    · subst e
      constructor
      · rintro ⟨-, -, -, q⟩; omega
      · rintro ⟨-, -, -, q⟩; exact absurd q h0
    · rw [s2 m e]
  · have hM3 : OMz Z (wtAt Z.ar T u (i + 1)) tv ms hn (cv V (T ++ [u])) (W.setCell ⟨Z.gv, x, none⟩ (.int .i64 (wtAt Z.ar T u (i + 1) x : Nat))) := ⟨_, _, hM2⟩
    refine (hM3.push G hK (fun m hm => hs_lt hm.1) hxn (fun q => by have := q.2.2.2; omega) (by omega)).mono ?_
    rintro e w' ⟨rfl, hh⟩
    obtain ⟨ms', h1, h2, h3⟩ := unhide hh
    refine ⟨rfl, hT, hf, hle, ms', _, h1, h2.congr (fun m => ?_), by omega⟩
    unfold InHeap
    by_cases e : m = x
    · subst e
      constructor
      · intro _; exact ⟨hxs, hxT, hne, h0⟩
      · intro _; exact .inr rfl
    · rw [s2 m e]
      constructor
      · rintro (q | q)
        · exact q
        · exact absurd q e
      · intro q; exact .inl q
end
/-- What order leaves. -/
def OrAns (w : World) (V : List Int) (nx : Nat → List Nat) (v : Value) (w' : World) : Prop := ∃ h T, Heads nx V.length h ∧ (∀ p, h p ≤ p) ∧ T9.Told (headsTo h V.length) (arcsOf h nx V.length) T ∧ (∀ m, m ∈ headsTo h V.length → m ∈ T) ∧ BRow w.heap.size w' v (cv V T) ∧ Below w.heap.size w w'
end Go.Proofs.Ytdpdghhieokcfaa
