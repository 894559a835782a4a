/- WitnessDecodes: the law's walk. -/
import Derived.Test.YtffdpfkcfohbiaaAw16
import Derived.Test.YtffdpfkcfohbiaaDe16
import Derived.Test.YtffdpfkcfohbiaaRd16
import Derived.Test.YtffdpfkcfohbiaaSa16
namespace Go.Proofs.Ytffdpfkcfohbiaa
open Go.RowKit Go.Maps
/-- A witness in a box that a law made, from B on. -/
def InBox (B : Nat) (w : World) (b : Nat) (x : WtV) (ev : Value) : Prop := w.heap[b]? = some (oV x.1 x.2.1 x.2.2.1 ev) ∧ Lies i64v w ev x.2.2.2 ∧ B ≤ b
theorem InBox.below {B : Nat} {w w' : World} {b : Nat} {x : WtV} {ev : Value} (h : InBox B w b x ev) (hb : Below w.heap.size w w') : InBox B w' b x ev := ⟨(hb.block _ (heap_lt h.1)).trans h.1, lies_below h.2.1 hb, h.2.2⟩
theorem inBox_new {w0 w : World} {x : WtV} {ev : Value} (h0 : Below w0.heap.size w0 w) (h : Lies i64v w ev x.2.2.2) : InBox w0.heap.size (w.alloc (oV x.1 x.2.1 x.2.2.1 ev)) w.heap.size x ev ∧ Below w.heap.size w (w.alloc (oV x.1 x.2.1 x.2.2.1 ev)) :=
  ⟨⟨heap_alloc_new _ _, lies_below h (below_new _ _), h0.size⟩, below_new _ _⟩
def ShortE (es : List Int) : Prop := es.length ≤ 1024
theorem decV_len {bs : List Nat} (hb : ∀ x ∈ bs, x < 256) : (decV bs).1.2.2.2.length ≤ 1024 := by
  unfold decV
  cases hd : dec bs with
  | none => simp
  | some x => exact (dec_some hb hd).1.1
set_option maxHeartbeats 8000000 in
set_option maxRecDepth 100000 in
theorem decodesW (w : World) {v : Value} {bs : List Nat} (h : Lies u8v w v bs) (hx : ∀ x ∈ bs, x < 256) (hl : bs.length ≤ 140737488351232) :
    Calls Try.prog 4 #[v] w fun e w' => e = .returned (.bool true) ∧ Hid (Below w.heap.size w w') := by
  obtain ⟨a, c, hv⟩ := lies_shape h
  obtain ⟨n, hn⟩ : ∃ n, n = bs.length := ⟨_, rfl⟩
  rw [← hn] at hv
  subst hv
  have CA : Hid (∀ W : World, Calls Try.prog 7 #[] W fun e w' => e = .returned (.bool true) ∧ Hid (Below W.heap.size W w')) := fun W => awakeS W
  have HNew : Hid (∀ W : World, Below w.heap.size w W → ∃ a' n' c' w', (∀ ty, (Builtin.append_ #[27, 27] ty #[.slice (some ⟨W.heap.size, 0, none⟩) 0 0, .slice a n c]).run Try.prog (W.alloc (.cells #[] 5)) = .ok (.slice a' n' c') w') ∧ Below W.heap.size W w' ∧ Hid (Calls Try.prog 12 #[.slice a' n' c'] w' fun e w2 => Hid (DecAns w' (decV bs) e w2))) := fun W hW => by
    obtain ⟨a', n', c', w', r, g1, g2⟩ := newB (lies_below h hW) (by omega)
    exact ⟨a', n', c', w', r, g2, decodeS (byrow_lies g1) hx (by omega) (fun g e => (g1.lt g e).2)⟩
  have CR : Hid (∀ W : World, Below w.heap.size w W → Calls Try.prog 13 #[.slice a n c] W fun e w2 => Hid (DecAns W (decV bs) e w2)) := fun W hW => decodeR (lies_below h hW) hx (by omega)
  have HL : Hid (ShortE (decV bs).1.2.2.2) := decV_len hx
  generalize decV bs = r at *
  obtain ⟨⟨F, T, u, es⟩, code⟩ := r
  clear h hx hl hn
  go_enter Try.func4, Try.ntmps4
  go_wp2_with fail
  refine (unhide CA _).mono ?_
  rintro e w1 ⟨rfl, hb1⟩
  obtain ⟨a', n', c', w2, hr, hb2, CD⟩ := unhide HNew _ (unhide hb1)
  have HR := hide hr
  have hB2 : Hid (Below w.heap.size w w2) := (unhide hb1).trans (hb2.mono (unhide hb1).size)
  clear hb1 hr hb2 HNew CA
  go_wp2_with (at_builtin; refine Lib.wpList_append_run _ rfl _ _ 27 27 rfl _ _ rfl rfl _ _ (unhide HR _) ?_)
  refine (unhide CD).mono ?_
  intro e w3 HA
  obtain ⟨ev, rfl, g1, g2⟩ := unhide HA
  obtain ⟨ea, ec, hev⟩ := rrow_shape g1
  have hB3 : Hid (Below w.heap.size w w3) := (unhide hB2).trans (g2.mono (unhide hB2).size)
  obtain ⟨q1, q2⟩ := inBox_new (x := (F, T, u, es)) (unhide hB3) (nrow_lies g1)
  have HQ := hide (And.intro q1 ((unhide hB3).trans (q2.mono (unhide hB3).size)))
  clear HA g1 g2 hB2 hB3 CD HR q1 q2
  simp only at hev HQ ⊢
  generalize es.length = en at *
  subst hev
  unfold oV at *
  go_upto_region 4 with fail
  generalize w3.alloc (Obj.cells #[Value.int .i64 F, Value.int .i64 T, Value.int .u32 (u : Nat), Value.slice ea en ec] 25) = w4 at *
  generalize w3.heap.size = b4 at *
  have CR4 := hide (unhide CR _ (unhide HQ).2)
  clear CR
  go_wp2_with fail
  refine (unhide CR4).mono ?_
  intro e w5 HA
  obtain ⟨ev5, rfl, g1, g2⟩ := unhide HA
  obtain ⟨ea5, ec5, hev⟩ := rrow_shape g1
  have hB5 : Hid (Below w.heap.size w w5) := (unhide HQ).2.trans (g2.mono (unhide HQ).2.size)
  obtain ⟨q1, q2⟩ := inBox_new (x := (F, T, u, es)) (unhide hB5) (nrow_lies g1)
  have hq6 := (InBox.below (unhide HQ).1 g2).below q2
  have HQ6 := hide (And.intro q1 (And.intro hq6 ((unhide hB5).trans (q2.mono (unhide hB5).size))))
  clear HA g1 g2 hB5 CR4 HQ q1 q2 hq6
  simp only at hev HQ6 ⊢
  obtain ⟨en5, hen5⟩ : ∃ en5, en5 = es.length := ⟨_, rfl⟩
  rw [← hen5] at hev
  subst hev
  clear hen5
  unfold oV at *
  go_upto_region 5 with fail
  generalize w5.alloc (Obj.cells #[Value.int .i64 F, Value.int .i64 T, Value.int .u32 (u : Nat), Value.slice ea5 en5 ec5] 25) = w6 at *
  generalize w5.heap.size = b6 at *
  have CS := hide (sameR F T F T u u (unhide HQ6).2.1.2.1 (unhide HQ6).1.2.1 (by have h1 : es.length ≤ 1024 := unhide HL; show es.length ≤ _; omega))
  obtain ⟨c0, c1, c2, c3⟩ := oV_cells (unhide HQ6).2.1.1
  obtain ⟨d0, d1, d2, d3⟩ := oV_cells (unhide HQ6).1.1
  have HB6 := hide (unhide HQ6).2.2
  clear HQ6 HL
  simp only [decide_true] at c0 c1 c2 c3 d0 d1 d2 d3 CS
  go_wp2_with fail
  refine (unhide CS).mono ?_
  rintro e w7 ⟨rfl, hb7⟩
  have HB7 : Hid (Below w.heap.size w w7) := (unhide HB6).trans ((unhide hb7).mono (unhide HB6).size)
  clear CS HB6 hb7
  go_wp2_with fail
  go_ret
  exact ⟨by simp, HB7⟩
end Go.Proofs.Ytffdpfkcfohbiaa
