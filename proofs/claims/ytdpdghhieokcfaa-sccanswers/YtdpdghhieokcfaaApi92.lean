/- Of, Order, Acyclic of two lists. -/
import Derived.Test.YtdpdghhieokcfaaApi9
namespace Go.Proofs.Ytdpdghhieokcfaa
open Go.RowKit Go.Maps T9
/-- What the three calls answer: P of what is read, or an error with the zero value. -/
def ApAns (w : World) (vs : List Int) (arcs : List (Int × Int)) (zero : Value) (P : List Int → (Nat → List Nat) → Value → World → Prop) (e : Ending) (w' : World) : Prop :=
  Below w.heap.size w w' ∧ ((¬ vs.Nodup ∧ e = .returned (.tuple #[zero, .int .i64 2])) ∨ (vs.Nodup ∧ ¬ okArcs vs arcs ∧ e = .returned (.tuple #[zero, .int .i64 5])) ∨
    (vs.Nodup ∧ okArcs vs arcs ∧ ∃ v V, e = .returned (.tuple #[v, .int .i64 0]) ∧ V.Perm vs ∧ V.Pairwise (· < ·) ∧ P V (nextOf V arcs) v w'))
def OfP (w : World) (V : List Int) (nx : Nat → List Nat) (v : Value) (w' : World) : Prop := ∃ h, Heads nx V.length h ∧ (∀ p, h p ≤ p) ∧ LLs w v (compsV V h V.length) w'
def OrP (w : World) (V : List Int) (nx : Nat → List Nat) (v : Value) (w' : World) : Prop := ∃ h T, Heads nx V.length h ∧ (∀ p, h p ≤ p) ∧ T9.Told (headsTo h V.length) (arcsOf h nx V.length) T ∧ (∀ m, m ∈ headsTo h V.length → m ∈ T) ∧ BRow w.heap.size w' v (cv V T)
def AcP (V : List Int) (nx : Nat → List Nat) (v : Value) (_ : World) : Prop := ∃ b h, v = .bool b ∧ Heads nx V.length h ∧ (∀ p, h p ≤ p) ∧ (b = true ↔ ∀ p, p < V.length → h p = p ∧ p ∉ nx p)
/-- What the inner calls ask of what was read. -/
theorem read_good {vs V : List Int} {arcs : List (Int × Int)} (hp : V.Perm vs) (hok : okArcs vs arcs) (hn : vs.length ≤ 1000) (hm : arcs.length ≤ 1000) :
    (∀ p, p < V.length → ∀ q ∈ nextOf V arcs p, q < V.length) ∧ V.length ≤ 100000 ∧ (∀ p, p < V.length → (nextOf V arcs p).length ≤ 1000000) ∧ ∀ h, (arcsOf h (nextOf V arcs) V.length).length ≤ 1000000 := by
  have hl := hp.length_eq
  refine ⟨fun p _ q hq => nextOf_lt (fun a ha => hp.mem_iff.2 (hok a ha).2) q hq, by omega, fun p _ => by have := nextOf_len V arcs p; omega, fun h => ?_⟩
  have h1 := arcsOf_len (h := h) (nx := nextOf V arcs) (c := arcs.length) (n := V.length) (fun p _ => nextOf_len V arcs p)
  have h2 : V.length * arcs.length ≤ 1000 * 1000 := Nat.mul_le_mul (by omega) hm
  omega
theorem lls_low {w w1 w2 : World} {v : Value} {xss : List (List Int)} (h : LLs w1 v xss w2) (hb : w.heap.size ≤ w1.heap.size) : LLs w v xss w2 := by
  obtain ⟨L, lvs, h⟩ := h
  exact ⟨L, lvs, h.low hb⟩
set_option maxHeartbeats 4000000 in
set_option maxRecDepth 100000 in
theorem ofS {w : World} {v av : Value} {vs : List Int} {arcs : List (Int × Int)} (hv : NRow w v vs) (ha : ARow w av arcs) (hn : vs.length ≤ 1000) (hm : arcs.length ≤ 1000) :
    Calls Try.prog 10 #[v, av] w fun e w' => Hid (ApAns w vs arcs (.slice none 0 0) (OfP w) e w') := by
  have CR := hide (readS hv ha (by omega) (by omega))
  have HB2 := hide (And.intro hn hm)
  obtain ⟨xv, cv', hve, -⟩ := brow_shape hv
  obtain ⟨xa, ca, hae, -⟩ := arow_shape ha
  clear hv ha hn hm
  subst hve
  subst hae
  obtain ⟨n, hne⟩ : ∃ n, n = vs.length := ⟨_, rfl⟩
  obtain ⟨m, hme⟩ : ∃ m, m = arcs.length := ⟨_, rfl⟩
  rw [← hne, ← hme] at CR ⊢
  clear hne hme
  go_enter Try.func10, Try.ntmps10
  go_wp2_with fail
  refine (unhide CR).mono ?_
  intro r w1 hh
  obtain ⟨hb, hcase⟩ := unhide hh
  clear CR hh
  have HBL := hide hb
  clear hb
  rcases hcase with ⟨h1, rfl⟩ | ⟨h1, h2, rfl⟩ | ⟨h1, h2, gb, V, rfl, h3, h4, h5⟩
  · have H1 := hide h1
    clear h1
    go_wp2_with fail
    go_ret2
    exact ⟨unhide HBL, .inl ⟨unhide H1, rfl⟩⟩
  · have H1 := hide (And.intro h1 h2)
    clear h1 h2
    go_wp2_with fail
    go_ret2
    exact ⟨unhide HBL, .inr (.inl ⟨(unhide H1).1, (unhide H1).2, rfl⟩)⟩
  · obtain ⟨vv, nv, hG⟩ := h5.at_
    have H1 := hide (And.intro h1 (And.intro h2 (And.intro h3 h4)))
    obtain ⟨g1, g2, g3, g4⟩ := read_good h3 h2 (unhide HB2).1 (unhide HB2).2
    have CC := hide (componentsS hG g1 g2 g3)
    clear h1 h2 h3 h4 h5 hG g1 g2 g3 g4
    go_wp2_with fail
    refine (unhide CC).mono ?_
    intro r w2 hh
    obtain ⟨x, rfl, h, hH, hle, hL, hb2⟩ := unhide hh
    clear CC hh
    have HL := hide (And.intro hH (And.intro hle (And.intro hL hb2)))
    clear hH hle hL hb2
    go_wp2_with fail
    go_ret2
    obtain ⟨h1, h2, h3, h4⟩ := unhide H1
    obtain ⟨hH, hle, hL, hb2⟩ := unhide HL
    exact ⟨(unhide HBL).trans (hb2.mono (unhide HBL).size), .inr (.inr ⟨h1, h2, x, V, rfl, h3, h4, h, hH, hle, lls_low hL (unhide HBL).size⟩)⟩
set_option maxHeartbeats 4000000 in
set_option maxRecDepth 100000 in
theorem orderOfS [Inhabited EntI] {w : World} {v av : Value} {vs : List Int} {arcs : List (Int × Int)} (hv : NRow w v vs) (ha : ARow w av arcs) (hn : vs.length ≤ 1000) (hm : arcs.length ≤ 1000) :
    Calls Try.prog 11 #[v, av] w fun e w' => Hid (ApAns w vs arcs (.slice none 0 0) (OrP w) e w') := by
  have CR := hide (readS hv ha (by omega) (by omega))
  have HB2 := hide (And.intro hn hm)
  obtain ⟨xv, cv', hve, -⟩ := brow_shape hv
  obtain ⟨xa, ca, hae, -⟩ := arow_shape ha
  clear hv ha hn hm
  subst hve
  subst hae
  obtain ⟨n, hne⟩ : ∃ n, n = vs.length := ⟨_, rfl⟩
  obtain ⟨m, hme⟩ : ∃ m, m = arcs.length := ⟨_, rfl⟩
  rw [← hne, ← hme] at CR ⊢
  clear hne hme
  go_enter Try.func11, Try.ntmps11
  go_wp2_with fail
  refine (unhide CR).mono ?_
  intro r w1 hh
  obtain ⟨hb, hcase⟩ := unhide hh
  clear CR hh
  have HBL := hide hb
  clear hb
  rcases hcase with ⟨h1, rfl⟩ | ⟨h1, h2, rfl⟩ | ⟨h1, h2, gb, V, rfl, h3, h4, h5⟩
  · have H1 := hide h1
    clear h1
    go_wp2_with fail
    go_ret2
    exact ⟨unhide HBL, .inl ⟨unhide H1, rfl⟩⟩
  · have H1 := hide (And.intro h1 h2)
    clear h1 h2
    go_wp2_with fail
    go_ret2
    exact ⟨unhide HBL, .inr (.inl ⟨(unhide H1).1, (unhide H1).2, rfl⟩)⟩
  · obtain ⟨vv, nv, hG⟩ := h5.at_
    have H1 := hide (And.intro h1 (And.intro h2 (And.intro h3 h4)))
    obtain ⟨g1, g2, g3, g4⟩ := read_good h3 h2 (unhide HB2).1 (unhide HB2).2
    have CC := hide (orderS hG g1 g2 g3 g4)
    clear h1 h2 h3 h4 h5 hG g1 g2 g3 g4
    go_wp2_with fail
    refine (unhide CC).mono ?_
    intro r w2 hh
    obtain ⟨x, rfl, h, T, hH, hle, hT, hall, hL, hb2⟩ := unhide hh
    clear CC hh
    have HL := hide (And.intro hH (And.intro hle (And.intro hT (And.intro hall (And.intro hL hb2)))))
    clear hH hle hL hb2 hT hall
    go_wp2_with fail
    go_ret2
    obtain ⟨h1, h2, h3, h4⟩ := unhide H1
    obtain ⟨hH, hle, hT, hall, hL, hb2⟩ := unhide HL
    exact ⟨(unhide HBL).trans (hb2.mono (unhide HBL).size), .inr (.inr ⟨h1, h2, x, V, rfl, h3, h4, h, T, hH, hle, hT, hall, brow_low hL (unhide HBL).size⟩)⟩
set_option maxHeartbeats 4000000 in
set_option maxRecDepth 100000 in
theorem acyclicOfS {w : World} {v av : Value} {vs : List Int} {arcs : List (Int × Int)} (hv : NRow w v vs) (ha : ARow w av arcs) (hn : vs.length ≤ 1000) (hm : arcs.length ≤ 1000) :
    Calls Try.prog 12 #[v, av] w fun e w' => Hid (ApAns w vs arcs (.bool false) (AcP) e w') := by
  have CR := hide (readS hv ha (by omega) (by omega))
  have HB2 := hide (And.intro hn hm)
  obtain ⟨xv, cv', hve, -⟩ := brow_shape hv
  obtain ⟨xa, ca, hae, -⟩ := arow_shape ha
  clear hv ha hn hm
  subst hve
  subst hae
  obtain ⟨n, hne⟩ : ∃ n, n = vs.length := ⟨_, rfl⟩
  obtain ⟨m, hme⟩ : ∃ m, m = arcs.length := ⟨_, rfl⟩
  rw [← hne, ← hme] at CR ⊢
  clear hne hme
  go_enter Try.func12, Try.ntmps12
  go_wp2_with fail
  refine (unhide CR).mono ?_
  intro r w1 hh
  obtain ⟨hb, hcase⟩ := unhide hh
  clear CR hh
  have HBL := hide hb
  clear hb
  rcases hcase with ⟨h1, rfl⟩ | ⟨h1, h2, rfl⟩ | ⟨h1, h2, gb, V, rfl, h3, h4, h5⟩
  · have H1 := hide h1
    clear h1
    go_wp2_with fail
    go_ret2
    exact ⟨unhide HBL, .inl ⟨unhide H1, rfl⟩⟩
  · have H1 := hide (And.intro h1 h2)
    clear h1 h2
    go_wp2_with fail
    go_ret2
    exact ⟨unhide HBL, .inr (.inl ⟨(unhide H1).1, (unhide H1).2, rfl⟩)⟩
  · obtain ⟨vv, nv, hG⟩ := h5.at_
    have H1 := hide (And.intro h1 (And.intro h2 (And.intro h3 h4)))
    obtain ⟨g1, g2, g3, g4⟩ := read_good h3 h2 (unhide HB2).1 (unhide HB2).2
    have CC := hide (acyclicS hG g1 g2 g3)
    clear h1 h2 h3 h4 h5 hG g1 g2 g3 g4
    go_wp2_with fail
    refine (unhide CC).mono ?_
    intro r w2 hh
    obtain ⟨b, rfl, h, hH, hle, hiff, hb2⟩ := unhide hh
    clear CC hh
    have HL := hide (And.intro hH (And.intro hle (And.intro hiff hb2)))
    clear hH hle hiff hb2
    go_wp2_with fail
    go_ret2
    obtain ⟨h1, h2, h3, h4⟩ := unhide H1
    obtain ⟨hH, hle, hiff, hb2⟩ := unhide HL
    exact ⟨(unhide HBL).trans (hb2.mono (unhide HBL).size), .inr (.inr ⟨h1, h2, .bool b, V, rfl, h3, h4, b, h, rfl, hH, hle, hiff⟩)⟩
end Go.Proofs.Ytdpdghhieokcfaa
