/- Set.Add. -/
import Derived.Test.YtdalghfhpekcfaaReadK
import Derived.Test.YtdalghfhpekcfaaRepK
import Derived.Test.YtdalghfhpekcfaaMath
import Derived.Deep.QuietTactic
import Derived.BigQuiet
import Derived.Deep.DeepCutAuto
namespace Go.Proofs.Ytdalghfhpekcfaa
open Go.RowKit Go.Shelf

/-- Behind a call that changes a set: its blocks are the old ones or new; no other one has turned. -/
structure ChangedK (w : World) (p : Nat) (v : Value) (rs : List (Int × Int)) (w' : World) : Prop where
  set : ∃ v', SetK w' p v' rs ∧ (v'.ownBlock = v.ownBlock ∨ ∀ k, v'.ownBlock = some k → w.heap.size ≤ k)
  os : w'.os = w.os
  tape : w'.tape = w.tape
  output : w'.output = w.output
  size : w.heap.size ≤ w'.heap.size
  block : ∀ k, k < w.heap.size → k ≠ p → v.ownBlock ≠ some k → w'.heap[k]? = w.heap[k]?

theorem changed_belowK {w : World} {p : Nat} {v : Value} {rs : List (Int × Int)} {w' : World} (hS : SetK w p v rs) (h : Below w.heap.size w w') : ChangedK w p v rs w' :=
  ⟨⟨v, hS.below h, .inl rfl⟩, h.os, h.tape, h.output, h.size, fun k hk _ _ => h.block k hk⟩

/-- The new row is stored. -/
theorem changed_storeK {w w1 w2 : World} {p : Nat} {v v' : Value} {rs rs' : List (Int × Int)} (hS : SetK w p v rs) (hb : Below w.heap.size w w1) (hg : w1.grownBy w2 v.ownBlock) (hown : w2.ownsRow 0 107 2 v' rs'.length (enc .i8 rs')) (hv : v'.ownBlock = v.ownBlock ∨ ∀ k, v'.ownBlock = some k → w1.heap.size ≤ k) :
    ChangedK w p v rs' (w2.setCell ⟨p, 0, none⟩ v') := by
  have hp1 : w1.heap[p]? = w.heap[p]? := hb.block p hS.lt
  have hp2 : w2.heap[p]? = some (.cells #[v] 104 (0, 0)) := (hg.block p (Nat.lt_of_lt_of_le hS.lt hb.size) (fun e => hS.ne e.symm)).trans (hp1.trans hS.box)
  have hne : v'.ownBlock ≠ some p := by
    rcases hv with hv | hv
    · rw [hv]; exact hS.ne
    · intro e; have := hv p e; have := hS.lt; have := hb.size; omega
  have hother : ∀ k, k ≠ p → (w2.setCell ⟨p, 0, none⟩ v').heap[k]? = w2.heap[k]? := fun k hk => Below.heap_setCell _ _ _ _ hk
  refine ⟨⟨v', ⟨?_, ⟨hown.1, ?_⟩, hne⟩, ?_⟩, hg.os.trans hb.os, hg.tape.trans hb.tape, hg.output.trans hb.output, ?_, fun k hk h1 h2 => ?_⟩
  · rw [setCell_eq_setRow w2 p 0 #[v] 104 (0, 0) v' hp2]
    exact setRow_heap w2 p _ _ 104 _ hp2
  · rcases hown.2 with h | ⟨g, cap, cur, rfl, h0, h1, h2⟩
    · exact .inl h
    · exact .inr ⟨g, cap, cur, rfl, h0, (hother g (fun e => hne (by simp [Value.ownBlock, e]))).trans h1, h2⟩
  · rcases hv with hv | hv
    · exact .inl hv
    · exact .inr (fun k hk => Nat.le_trans hb.size (hv k hk))
  · simp [World.setCell]; exact Nat.le_trans hb.size hg.size
  · rw [hother k h1, hg.block k (Nat.lt_of_lt_of_le hk hb.size) (fun e => h2 e.symm)]; exact hb.block k hk

/-- Numbers that follow one another and are all in lie in one run. -/
theorem in_run {rs : List (Int × Int)} (hC : Canon rs) {a b : Int} (hab : a ≤ b) (h : ∀ x, a ≤ x → x ≤ b → In rs x) : ∃ i, i < rs.length ∧ lo rs i ≤ a ∧ b ≤ hi rs i := by
  obtain ⟨i, h1, h2, h3⟩ := h a (Int.le_refl _) hab
  refine ⟨i, h1, h2, ?_⟩
  rcases Int.lt_or_le (hi rs i) b with h4 | h4
  · obtain ⟨j, g1, g2, g3⟩ := h (hi rs i + 1) (by omega) (by omega)
    rcases Nat.lt_trichotomy i j with h5 | rfl | h5
    · have := hC.gap i j h5 g1; omega
    · omega
    · have := hC.gap j i h5 h1; omega
  · exact h4

theorem add_idx {rs : List (Int × Int)} (hC : Canon rs) {a b : Int} (hab : a ≤ b) {r1 r2 : Nat} (h1 : r1 ≤ rs.length) (h2 : r2 ≤ rs.length) (g1 : ∀ t, t < r1 → hi rs t < a) (g2 : ∀ t, r1 ≤ t → t < rs.length → a ≤ hi rs t) (g3 : ∀ t, t < r2 → lo rs t ≤ b) (g4 : ∀ t, r2 ≤ t → t < rs.length → b < lo rs t) :
    ∃ f e, (f = if 0 < r1 ∧ a ≤ hi rs (r1 - 1) + 1 then r1 - 1 else r1) ∧ (e = if r2 < rs.length ∧ lo rs r2 ≤ b + 1 then r2 + 1 else r2) ∧ f ≤ e ∧ e ≤ rs.length ∧
      (∀ t, t < f → hi rs t + 1 < a) ∧ (∀ t, e ≤ t → t < rs.length → b + 1 < lo rs t) ∧ (∀ t, f ≤ t → t < e → a ≤ hi rs t + 1 ∧ lo rs t ≤ b + 1) := by
  have h12 : r1 ≤ r2 := by
    rcases Nat.lt_or_ge r2 r1 with h | h
    · have := g1 r2 h; have := g4 r2 (Nat.le_refl _) (by omega); have := hC.run r2 (by omega); omega
    · exact h
  refine ⟨_, _, rfl, rfl, ?_, ?_, ?_, ?_, ?_⟩
  · split <;> split <;> omega
  · split <;> omega
  · intro t ht
    split at ht
    · rename_i h
      have := hC.gap t (r1 - 1) ht (by omega); have := g1 (r1 - 1) (by omega); have := hC.run (r1 - 1) (by omega); omega
    · rename_i h
      rcases Nat.lt_or_ge t (r1 - 1) with h' | h'
      · have := hC.gap t (r1 - 1) h' (by omega); have := g1 (r1 - 1) (by omega); have := hC.run (r1 - 1) (by omega); omega
      · have : t = r1 - 1 := by omega
        subst this; omega
  · intro t ht htl
    split at ht
    · rename_i h
      have := hC.gap r2 t (by omega) htl; have := g4 r2 (Nat.le_refl _) (by omega); have := hC.run r2 (by omega); omega
    · rename_i h
      rcases Nat.lt_or_ge r2 t with h' | h'
      · have := hC.gap r2 t h' htl; have := g4 r2 (Nat.le_refl _) (by omega); have := hC.run r2 (by omega); omega
      · have : t = r2 := by omega
        subst this; omega
  · intro t h5 h6
    constructor
    · by_cases h7 : r1 ≤ t
      · have := g2 t h7 (by split at h6 <;> omega); omega
      · split at h5
        · have : t = r1 - 1 := by omega
          subst this; omega
        · omega
    · by_cases h7 : t < r2
      · have := g3 t h7; omega
      · split at h6
        · have : t = r2 := by omega
          subst this; omega
        · omega

/-- Replace, and what the store behind it makes. -/
theorem storeRepK {w w4 : World} {p : Nat} {v : Value} {rs rs' : List (Int × Int)} {args : Array Value} (hS : SetK w p v rs) (hb : Below w.heap.size w w4) (hR : Calls Try.prog 78 args w4 (LeftK w4 v rs')) :
    Calls Try.prog 78 args w4 fun e w5 => ∃ v', e = .returned v' ∧ w5.cell? ⟨p, 0, none⟩ = some v ∧ w5.frozen? ⟨p, 0, none⟩ = false ∧ (v' = .slice none 0 0 ∨ ∃ g n cap, v' = .slice (some ⟨g, 0, none⟩) n cap) ∧ Hid (ChangedK w p v rs' (w5.setCell ⟨p, 0, none⟩ v')) := by
  refine hR.mono ?_
  rintro e w5 ⟨v', rfl, h1, h2, h3⟩
  have hp : w5.heap[p]? = some (.cells #[v] 104 (0, 0)) := (h2.block p (Nat.lt_of_lt_of_le hS.lt hb.size) (fun e => hS.ne e.symm)).trans ((hb.block p hS.lt).trans hS.box)
  have hv' : v' = .slice none 0 0 ∨ ∃ g n cap, v' = .slice (some ⟨g, 0, none⟩) n cap := by
    rcases h1.2 with ⟨rfl, -⟩ | ⟨g, cap, cur, rfl, -⟩
    · exact .inl rfl
    · exact .inr ⟨g, _, cap, rfl⟩
  refine ⟨v', rfl, ?_, by simp [World.frozen?, hp], hv', changed_storeK hS hb h2 h1 h3⟩
  have := cell_of_row w5 p 0 #[v] 104 (0, 0) hp
  simpa using this

theorem litRowK (w : World) (l h : Int) : (w.alloc (.cells #[.int .i8 l, .int .i8 h] 107)).ownsRow 0 107 2 (.slice (some ⟨w.heap.size, 0, none⟩) 1 1) 1 (enc .i8 [(l, h)]) :=
  ⟨by simp [enc], .inr ⟨w.heap.size, 1, #[.int .i8 l, .int .i8 h], rfl, Nat.zero_le _, heap_alloc_new w _, Nat.le_refl _, by unfold maxLen; omega, rfl, rfl⟩⟩

set_option maxHeartbeats 1000000 in
set_option maxRecDepth 100000 in
theorem addK {p : Nat} {v : Value} {rs : List (Int × Int)} (a b : Int) (w : World) (hS : SetK w p v rs) (hC : Canon rs) (hF : Fits (-128) 127 rs) (hn : rs.length ≤ 1099511627775) (HA : Hid (((-128) ≤ a ∧ a ≤ 127) ∧ (-128) ≤ b ∧ b ≤ 127)) :
    Calls Try.prog 48 #[.pointer (some ⟨p, 0, none⟩), .int .i8 a, .int .i8 b] w fun e w' => ∃ rs', Says e (rs' ≠ rs) ∧ Canon rs' ∧ Hid (∀ x, In rs' x ↔ In rs x ∨ a ≤ x ∧ x ≤ b) ∧ rs'.length ≤ rs.length + 1 ∧ ChangedK w p v rs' w' := by
  have HC := hide hC
  have HF := hide hF
  have HN := hide hn
  have HS := hide hS
  have HH := hide (holdsK a b w hS hC (by omega))
  clear hS hC hF hn
  go_enter Try.func48, Try.ntmps48
  go_wp2_with fail
  refine (unhide HH).mono ?_
  rintro e w1 ⟨⟨r, rfl, hr⟩, hb1⟩
  have HR := hide hr
  have HB1 := hide hb1
  clear hr HH
  cases r with
  | true =>
    have HT := hide ((unhide HR).1 rfl)
    clear hb1 HR
    go_wp2_with fail
    go_ret
    refine ⟨rs, ⟨false, rfl, by simp⟩, unhide HC, ?_, by omega, changed_belowK (unhide HS) (unhide HB1)⟩
    intro x
    constructor
    · exact .inl
    · rintro (h | h)
      · exact h
      · rcases unhide HT with h1 | ⟨i, h1, h2, h3⟩
        · omega
        · exact ⟨i, h1, by omega, by omega⟩
  | false =>
    have HT : Hid (¬ b < a ∧ ¬ ∃ i, i < rs.length ∧ lo rs i ≤ a ∧ b ≤ hi rs i) := by
      have hr := unhide HR
      refine ⟨fun h => ?_, fun h => ?_⟩
      · exact absurd (hr.2 (.inl h)) (by simp)
      · exact absurd (hr.2 (.inr h)) (by simp)
    clear HR
    have hS1 := (unhide HS).below hb1
    have HN1 := hide (notBelowK a w1 hS1 (unhide HC) (by have := unhide HN; omega))
    clear hb1 hS1
    go_wp2_with fail
    refine (unhide HN1).mono ?_
    rintro e w2 ⟨r1, rfl, k1, k2, k3, hb2⟩
    have hB2 : Below w.heap.size w w2 := (unhide HB1).trans (hb2.mono (unhide HB1).size)
    have hS2 := (unhide HS).below hB2
    have HB2 := hide hB2
    have HN2 := hide (aboveK b w2 hS2 (unhide HC) (by have := unhide HN; omega))
    have K1 := hide (And.intro k1 (And.intro k2 k3))
    clear hb2 hB2 hS2 k1 k2 k3 HN1
    go_wp2_with fail
    refine (unhide HN2).mono ?_
    rintro e w3 ⟨r2, rfl, k1, k2, k3, hb3⟩
    have hB3 : Below w.heap.size w w3 := (unhide HB2).trans (hb3.mono (unhide HB2).size)
    have hS3 := (unhide HS).below hB3
    have HB3 := hide hB3
    have K2 := hide (And.intro k1 (And.intro k2 k3))
    clear hb3 hB3 k1 k2 k3 HN2 HB2 HB1
    have hab : a ≤ b := by have := (unhide HT).1; omega
    have HS3 := hide hS3
    have hp := hS3.cell
    obtain ⟨f, e, hf, he, hfe, hel, q1, q2, q3⟩ := add_idx (unhide HC) hab (unhide K1).1 (unhide K2).1 (unhide K1).2.1 (unhide K1).2.2 (unhide K2).2.1 (unhide K2).2.2
    obtain ⟨l, hl⟩ : ∃ l, l = if f < e then min a (lo rs f) else a := ⟨_, rfl⟩
    obtain ⟨h, hh⟩ : ∃ h, h = if f < e then max b (hi rs (e - 1)) else b := ⟨_, rfl⟩
    obtain ⟨hC4, hI4⟩ := add_runs (unhide HC) hab hfe hel q1 q2 q3 hl hh
    have hlen4 : (rs.take f ++ [(l, h)] ++ rs.drop e).length ≤ rs.length + 1 := by simp; omega
    have hne4 : rs.take f ++ [(l, h)] ++ rs.drop e ≠ rs := fun hq => by
      rw [hq] at hI4
      have key : ∀ x, a ≤ x → x ≤ b → In rs x := fun x h1 h2 => (hI4 x).2 (.inr ⟨h1, h2⟩)
      exact (unhide HT).2 (in_run (unhide HC) hab key)
    have hB4 : Below w.heap.size w (w3.alloc (.cells #[.int .i8 l, .int .i8 h] 107)) := (unhide HB3).alloc (unhide HB3).size _
    have hne3 : ∀ g, v.ownBlock = some g → (Value.slice (some ⟨w3.heap.size, 0, none⟩) 1 1).ownBlock ≠ some g := fun g hg e => by
      have := (hS3.row.lt g hg).2
      simp [Value.ownBlock] at e; omega
    have HREP := hide (storeRepK (unhide HS) hB4 (replaceK f e _ (hS3.row.alloc _) (litRowK w3 l h) hne3 hfe hel (fun _ => by simp) (fun hq => by simp at hq) (by simp) (by have := unhide HN; omega)))
    have HZ := hide (And.intro hC4 (And.intro hI4 (And.intro hlen4 hne4)))
    have HFE := hide hf
    have HEE := hide he
    have HLL := hide hl
    have HHH := hide hh
    have HFEL := hide (And.intro hfe hel)
    clear q1 q2 q3 hf he hl hh hC4 hI4 hlen4 hne4 hB4 hne3
    rcases hS3.two with ⟨rfl, rfl⟩ | ⟨g, c, rfl, hlc, hgp, hgl, hcl⟩
    · obtain rfl : r1 = 0 := by have := (unhide K1).1; simpa using this
      obtain rfl : r2 = 0 := by have := (unhide K2).1; simpa using this
      obtain rfl : e = 0 := by simpa using hel
      obtain rfl : f = 0 := by omega
      obtain rfl : l = a := by simpa using unhide HLL
      obtain rfl : h = b := by simpa using unhide HHH
      clear hS3 hfe hel
      go_wp2_with fail
      refine (unhide HREP).mono ?_
      rintro e w5 ⟨v', rfl, hpc, hpf, hvc, hch⟩
      rcases hvc with rfl | ⟨g5, n5, c5, rfl⟩
      · go_wp2_with fail
        go_ret
        exact ⟨_, ⟨true, rfl, iff_of_true rfl (unhide HZ).2.2.2⟩, (unhide HZ).1, (unhide HZ).2.1, (unhide HZ).2.2.1, unhide hch⟩
      · go_wp2_with fail
        go_ret
        exact ⟨_, ⟨true, rfl, iff_of_true rfl (unhide HZ).2.2.2⟩, (unhide HZ).1, (unhide HZ).2.1, (unhide HZ).2.2.1, unhide hch⟩
    · have HCL := hide hcl
      have hS3' := hide hS3
      obtain ⟨c1, hc1⟩ : ∃ c1 : Bool, c1 = decide (0 < r1 ∧ a ≤ hi rs (r1 - 1) + 1) := ⟨_, rfl⟩
      obtain ⟨c2, hc2⟩ : ∃ c2 : Bool, c2 = decide (r2 < rs.length ∧ lo rs r2 ≤ b + 1) := ⟨_, rfl⟩
      have HC1 := hide hc1
      have HC2 := hide hc2
      have HF1 : Hid ((f : Int) = if c1 then (r1 : Int) - 1 else (r1 : Int)) := by
        show (f : Int) = _
        rw [hc1, unhide HFE]
        by_cases h1 : 0 < r1 ∧ a ≤ hi rs (r1 - 1) + 1
        · rw [if_pos h1]; simp [h1]; omega
        · rw [if_neg h1]; simp [h1]
      have HE1 : Hid ((e : Int) = if c2 then (r2 : Int) + 1 else (r2 : Int)) := by
        show (e : Int) = _
        rw [hc2, unhide HEE]
        by_cases h1 : r2 < rs.length ∧ lo rs r2 ≤ b + 1
        · rw [if_pos h1]; simp [h1]
        · rw [if_neg h1]; simp [h1]
      have HKL : Hid (r1 ≤ rs.length ∧ r2 ≤ rs.length) := ⟨(unhide K1).1, (unhide K2).1⟩
      generalize hN : rs.length = n at *
      clear hcl hS3 hc1 hc2
      go_upto_region 4 with fail
      go_cut [33] from 9 (fun s33 wq => s33 = .bool c1 ∧ w3 = wq)
      case first =>
        by_cases h0 : r1 = 0
        · have e1 : c1 = false := by rw [unhide HC1]; simp; omega
          subst h0
          go_wp2_with fail
          go_meet
          case rel => exact ⟨by rw [e1], rfl⟩
        · obtain ⟨k, hk⟩ : ∃ k, r1 = k + 1 := ⟨r1 - 1, by omega⟩
          have hk2 : r1 - 1 = k := by omega
          have hkn := (unhide HKL).1
          have hkz : (k : Int) < (n : Int) := by omega
          have hw : IntKind.i64.wrap ((r1 : Int) - 1) = (k : Int) := by rw [IntKind.wrap_i64]; have := unhide HN; omega
          have hpos : (0 : Int) < (r1 : Int) := by omega
          have c2' := (unhide HCL k (by omega)).2
          have e1 : Hid (decide (a ≤ hi rs k + 1) = c1) := by show _ = _; rw [unhide HC1, hk2]; simp; omega
          have HTC := hide (touchK (hi rs k) a w3 (hide ⟨by have := (unhide HF) k (by omega); have := (unhide HC).run k (by omega); omega, by have := (unhide HF) k (by omega); omega, (unhide HA).1.2⟩))
          generalize hi rs k = y at c2' HTC e1
          clear hk hk2 hkn
          go_wp2_with fail
          refine (unhide HTC).mono ?_
          rintro e w' ⟨rfl, rfl⟩
          go_wp2_with fail
          go_meet
          case rel => exact ⟨by rw [unhide e1], rfl⟩
      case rest =>
        obtain ⟨rfl, hwq⟩ := hcut
        subst hwq
        cases c1 with
        | true =>
          have hwf : IntKind.i64.wrap ((r1 : Int) - 1) = (f : Int) := by have := unhide HF1; simp only [if_true] at this; rw [IntKind.wrap_i64]; have := unhide HN; have := (unhide HKL).1; omega
          clear HC1
          go_upto_region 6 with fail
          go_cut [54] from 9 (fun s54 wq => s54 = .bool c2 ∧ w3 = wq)
          case first =>
            by_cases h0 : r2 < n
            · have h0z : (r2 : Int) < (n : Int) := by omega
              have d1 := (unhide HCL r2 h0).1
              have e1 : Hid (decide (lo rs r2 ≤ b + 1) = c2) := by show _ = _; rw [unhide HC2]; simp; omega
              have HTC := hide (touchK b (lo rs r2) w3 (hide ⟨(unhide HA).2.1, (unhide HA).2.2, by have := (unhide HF) r2 (by omega); have := (unhide HC).run r2 (by omega); omega⟩))
              generalize lo rs r2 = y at d1 HTC e1
              go_wp2_with fail
              refine (unhide HTC).mono ?_
              rintro e w' ⟨rfl, rfl⟩
              go_wp2_with fail
              go_meet
              case rel => exact ⟨by rw [unhide e1], rfl⟩
            · have h0z : ¬ (r2 : Int) < (n : Int) := by omega
              have e1 : c2 = false := by rw [unhide HC2]; simp; omega
              go_wp2_with fail
              go_meet
              case rel => exact ⟨by rw [e1], rfl⟩
          case rest =>
            obtain ⟨rfl, hwq⟩ := hcut
            subst hwq
            cases c2 with
            | true =>
              have hwe : IntKind.i64.wrap ((r2 : Int) + 1) = (e : Int) := by have := unhide HE1; simp only [if_true] at this; rw [IntKind.wrap_i64]; have := unhide HN; have := (unhide HKL).2; omega
              clear HC2
              by_cases hlt : f < e
              · have hltz : (f : Int) < (e : Int) := by omega
                have hel := (unhide HFEL).2
                have hfz : (f : Int) < (n : Int) := by omega
                obtain ⟨k, hk⟩ : ∃ k, e = k + 1 := ⟨e - 1, by omega⟩
                have hk2 : e - 1 = k := by omega
                have hkz : (k : Int) < (n : Int) := by omega
                have hwk : IntKind.i64.wrap ((e : Int) - 1) = (k : Int) := by rw [IntKind.wrap_i64]; have := unhide HN; omega
                have d1 := (unhide HCL f (by omega)).1
                have d2 := (unhide HCL k (by omega)).2
                have HL2 : Hid (l = min a (lo rs f)) := by have := unhide HLL; rwa [if_pos hlt] at this
                have HH2 : Hid (h = max b (hi rs k)) := by have := unhide HHH; rwa [if_pos hlt, hk2] at this
                generalize lo rs f = y at d1 HL2
                generalize hi rs k = z at d2 HH2
                clear hk hk2 hel hlt
                go_upto_region 9 with fail
                go_cut [1] from 9 (fun s1 wq => s1 = .int .i8 l ∧ w3 = wq)
                case first =>
                  go_wp2_with fail
                  all_goals go_meet
                  all_goals (first | (case rel => exact ⟨by have := unhide HL2; congr 1; omega, rfl⟩))
                case rest =>
                  obtain ⟨rfl, hwq⟩ := hcut
                  subst hwq
                  go_upto_region 10 with fail
                  go_cut [2] from 9 (fun s2 wq => s2 = .int .i8 h ∧ w3 = wq)
                  case first =>
                    go_wp2_with fail
                    all_goals go_meet
                    all_goals (first | (case rel => exact ⟨by have := unhide HH2; congr 1; omega, rfl⟩))
                  case rest =>
                    obtain ⟨rfl, hwq⟩ := hcut
                    subst hwq
                    go_wp2_with fail
                    refine (unhide HREP).mono ?_
                    rintro e w5 ⟨v', rfl, hpc, hpf, hvc, hch⟩
                    rcases hvc with rfl | ⟨g5, n5, c5, rfl⟩
                    · go_wp2_with fail
                      go_ret
                      subst hN
                      exact ⟨_, ⟨true, rfl, iff_of_true rfl (unhide HZ).2.2.2⟩, (unhide HZ).1, (unhide HZ).2.1, (unhide HZ).2.2.1, unhide hch⟩
                    · go_wp2_with fail
                      go_ret
                      subst hN
                      exact ⟨_, ⟨true, rfl, iff_of_true rfl (unhide HZ).2.2.2⟩, (unhide HZ).1, (unhide HZ).2.1, (unhide HZ).2.2.1, unhide hch⟩
              · have hltz : ¬ (f : Int) < (e : Int) := by omega
                obtain rfl : l = a := by have := unhide HLL; rwa [if_neg hlt] at this
                obtain rfl : h = b := by have := unhide HHH; rwa [if_neg hlt] at this
                go_wp2_with fail
                refine (unhide HREP).mono ?_
                rintro e w5 ⟨v', rfl, hpc, hpf, hvc, hch⟩
                rcases hvc with rfl | ⟨g5, n5, c5, rfl⟩
                · go_wp2_with fail
                  go_ret
                  subst hN
                  exact ⟨_, ⟨true, rfl, iff_of_true rfl (unhide HZ).2.2.2⟩, (unhide HZ).1, (unhide HZ).2.1, (unhide HZ).2.2.1, unhide hch⟩
                · go_wp2_with fail
                  go_ret
                  subst hN
                  exact ⟨_, ⟨true, rfl, iff_of_true rfl (unhide HZ).2.2.2⟩, (unhide HZ).1, (unhide HZ).2.1, (unhide HZ).2.2.1, unhide hch⟩
            | false =>
              obtain rfl : e = r2 := by have := unhide HE1; simp only [Bool.false_eq_true, if_false] at this; omega
              clear HC2
              by_cases hlt : f < e
              · have hltz : (f : Int) < (e : Int) := by omega
                have hel := (unhide HFEL).2
                have hfz : (f : Int) < (n : Int) := by omega
                obtain ⟨k, hk⟩ : ∃ k, e = k + 1 := ⟨e - 1, by omega⟩
                have hk2 : e - 1 = k := by omega
                have hkz : (k : Int) < (n : Int) := by omega
                have hwk : IntKind.i64.wrap ((e : Int) - 1) = (k : Int) := by rw [IntKind.wrap_i64]; have := unhide HN; omega
                have d1 := (unhide HCL f (by omega)).1
                have d2 := (unhide HCL k (by omega)).2
                have HL2 : Hid (l = min a (lo rs f)) := by have := unhide HLL; rwa [if_pos hlt] at this
                have HH2 : Hid (h = max b (hi rs k)) := by have := unhide HHH; rwa [if_pos hlt, hk2] at this
                generalize lo rs f = y at d1 HL2
                generalize hi rs k = z at d2 HH2
                clear hk hk2 hel hlt
                go_upto_region 9 with fail
                go_cut [1] from 9 (fun s1 wq => s1 = .int .i8 l ∧ w3 = wq)
                case first =>
                  go_wp2_with fail
                  all_goals go_meet
                  all_goals (first | (case rel => exact ⟨by have := unhide HL2; congr 1; omega, rfl⟩))
                case rest =>
                  obtain ⟨rfl, hwq⟩ := hcut
                  subst hwq
                  go_upto_region 10 with fail
                  go_cut [2] from 9 (fun s2 wq => s2 = .int .i8 h ∧ w3 = wq)
                  case first =>
                    go_wp2_with fail
                    all_goals go_meet
                    all_goals (first | (case rel => exact ⟨by have := unhide HH2; congr 1; omega, rfl⟩))
                  case rest =>
                    obtain ⟨rfl, hwq⟩ := hcut
                    subst hwq
                    go_wp2_with fail
                    refine (unhide HREP).mono ?_
                    rintro e w5 ⟨v', rfl, hpc, hpf, hvc, hch⟩
                    rcases hvc with rfl | ⟨g5, n5, c5, rfl⟩
                    · go_wp2_with fail
                      go_ret
                      subst hN
                      exact ⟨_, ⟨true, rfl, iff_of_true rfl (unhide HZ).2.2.2⟩, (unhide HZ).1, (unhide HZ).2.1, (unhide HZ).2.2.1, unhide hch⟩
                    · go_wp2_with fail
                      go_ret
                      subst hN
                      exact ⟨_, ⟨true, rfl, iff_of_true rfl (unhide HZ).2.2.2⟩, (unhide HZ).1, (unhide HZ).2.1, (unhide HZ).2.2.1, unhide hch⟩
              · have hltz : ¬ (f : Int) < (e : Int) := by omega
                obtain rfl : l = a := by have := unhide HLL; rwa [if_neg hlt] at this
                obtain rfl : h = b := by have := unhide HHH; rwa [if_neg hlt] at this
                go_wp2_with fail
                refine (unhide HREP).mono ?_
                rintro e w5 ⟨v', rfl, hpc, hpf, hvc, hch⟩
                rcases hvc with rfl | ⟨g5, n5, c5, rfl⟩
                · go_wp2_with fail
                  go_ret
                  subst hN
                  exact ⟨_, ⟨true, rfl, iff_of_true rfl (unhide HZ).2.2.2⟩, (unhide HZ).1, (unhide HZ).2.1, (unhide HZ).2.2.1, unhide hch⟩
                · go_wp2_with fail
                  go_ret
                  subst hN
                  exact ⟨_, ⟨true, rfl, iff_of_true rfl (unhide HZ).2.2.2⟩, (unhide HZ).1, (unhide HZ).2.1, (unhide HZ).2.2.1, unhide hch⟩
        | false =>
          obtain rfl : f = r1 := by have := unhide HF1; simp only [Bool.false_eq_true, if_false] at this; omega
          clear HC1
          go_upto_region 6 with fail
          go_cut [54] from 9 (fun s54 wq => s54 = .bool c2 ∧ w3 = wq)
          case first =>
            by_cases h0 : r2 < n
            · have h0z : (r2 : Int) < (n : Int) := by omega
              have d1 := (unhide HCL r2 h0).1
              have e1 : Hid (decide (lo rs r2 ≤ b + 1) = c2) := by show _ = _; rw [unhide HC2]; simp; omega
              have HTC := hide (touchK b (lo rs r2) w3 (hide ⟨(unhide HA).2.1, (unhide HA).2.2, by have := (unhide HF) r2 (by omega); have := (unhide HC).run r2 (by omega); omega⟩))
              generalize lo rs r2 = y at d1 HTC e1
              go_wp2_with fail
              refine (unhide HTC).mono ?_
              rintro e w' ⟨rfl, rfl⟩
              go_wp2_with fail
              go_meet
              case rel => exact ⟨by rw [unhide e1], rfl⟩
            · have h0z : ¬ (r2 : Int) < (n : Int) := by omega
              have e1 : c2 = false := by rw [unhide HC2]; simp; omega
              go_wp2_with fail
              go_meet
              case rel => exact ⟨by rw [e1], rfl⟩
          case rest =>
            obtain ⟨rfl, hwq⟩ := hcut
            subst hwq
            cases c2 with
            | true =>
              have hwe : IntKind.i64.wrap ((r2 : Int) + 1) = (e : Int) := by have := unhide HE1; simp only [if_true] at this; rw [IntKind.wrap_i64]; have := unhide HN; have := (unhide HKL).2; omega
              clear HC2
              by_cases hlt : f < e
              · have hltz : (f : Int) < (e : Int) := by omega
                have hel := (unhide HFEL).2
                have hfz : (f : Int) < (n : Int) := by omega
                obtain ⟨k, hk⟩ : ∃ k, e = k + 1 := ⟨e - 1, by omega⟩
                have hk2 : e - 1 = k := by omega
                have hkz : (k : Int) < (n : Int) := by omega
                have hwk : IntKind.i64.wrap ((e : Int) - 1) = (k : Int) := by rw [IntKind.wrap_i64]; have := unhide HN; omega
                have d1 := (unhide HCL f (by omega)).1
                have d2 := (unhide HCL k (by omega)).2
                have HL2 : Hid (l = min a (lo rs f)) := by have := unhide HLL; rwa [if_pos hlt] at this
                have HH2 : Hid (h = max b (hi rs k)) := by have := unhide HHH; rwa [if_pos hlt, hk2] at this
                generalize lo rs f = y at d1 HL2
                generalize hi rs k = z at d2 HH2
                clear hk hk2 hel hlt
                go_upto_region 9 with fail
                go_cut [1] from 9 (fun s1 wq => s1 = .int .i8 l ∧ w3 = wq)
                case first =>
                  go_wp2_with fail
                  all_goals go_meet
                  all_goals (first | (case rel => exact ⟨by have := unhide HL2; congr 1; omega, rfl⟩))
                case rest =>
                  obtain ⟨rfl, hwq⟩ := hcut
                  subst hwq
                  go_upto_region 10 with fail
                  go_cut [2] from 9 (fun s2 wq => s2 = .int .i8 h ∧ w3 = wq)
                  case first =>
                    go_wp2_with fail
                    all_goals go_meet
                    all_goals (first | (case rel => exact ⟨by have := unhide HH2; congr 1; omega, rfl⟩))
                  case rest =>
                    obtain ⟨rfl, hwq⟩ := hcut
                    subst hwq
                    go_wp2_with fail
                    refine (unhide HREP).mono ?_
                    rintro e w5 ⟨v', rfl, hpc, hpf, hvc, hch⟩
                    rcases hvc with rfl | ⟨g5, n5, c5, rfl⟩
                    · go_wp2_with fail
                      go_ret
                      subst hN
                      exact ⟨_, ⟨true, rfl, iff_of_true rfl (unhide HZ).2.2.2⟩, (unhide HZ).1, (unhide HZ).2.1, (unhide HZ).2.2.1, unhide hch⟩
                    · go_wp2_with fail
                      go_ret
                      subst hN
                      exact ⟨_, ⟨true, rfl, iff_of_true rfl (unhide HZ).2.2.2⟩, (unhide HZ).1, (unhide HZ).2.1, (unhide HZ).2.2.1, unhide hch⟩
              · have hltz : ¬ (f : Int) < (e : Int) := by omega
                obtain rfl : l = a := by have := unhide HLL; rwa [if_neg hlt] at this
                obtain rfl : h = b := by have := unhide HHH; rwa [if_neg hlt] at this
                go_wp2_with fail
                refine (unhide HREP).mono ?_
                rintro e w5 ⟨v', rfl, hpc, hpf, hvc, hch⟩
                rcases hvc with rfl | ⟨g5, n5, c5, rfl⟩
                · go_wp2_with fail
                  go_ret
                  subst hN
                  exact ⟨_, ⟨true, rfl, iff_of_true rfl (unhide HZ).2.2.2⟩, (unhide HZ).1, (unhide HZ).2.1, (unhide HZ).2.2.1, unhide hch⟩
                · go_wp2_with fail
                  go_ret
                  subst hN
                  exact ⟨_, ⟨true, rfl, iff_of_true rfl (unhide HZ).2.2.2⟩, (unhide HZ).1, (unhide HZ).2.1, (unhide HZ).2.2.1, unhide hch⟩
            | false =>
              obtain rfl : e = r2 := by have := unhide HE1; simp only [Bool.false_eq_true, if_false] at this; omega
              clear HC2
              by_cases hlt : f < e
              · have hltz : (f : Int) < (e : Int) := by omega
                have hel := (unhide HFEL).2
                have hfz : (f : Int) < (n : Int) := by omega
                obtain ⟨k, hk⟩ : ∃ k, e = k + 1 := ⟨e - 1, by omega⟩
                have hk2 : e - 1 = k := by omega
                have hkz : (k : Int) < (n : Int) := by omega
                have hwk : IntKind.i64.wrap ((e : Int) - 1) = (k : Int) := by rw [IntKind.wrap_i64]; have := unhide HN; omega
                have d1 := (unhide HCL f (by omega)).1
                have d2 := (unhide HCL k (by omega)).2
                have HL2 : Hid (l = min a (lo rs f)) := by have := unhide HLL; rwa [if_pos hlt] at this
                have HH2 : Hid (h = max b (hi rs k)) := by have := unhide HHH; rwa [if_pos hlt, hk2] at this
                generalize lo rs f = y at d1 HL2
                generalize hi rs k = z at d2 HH2
                clear hk hk2 hel hlt
                go_upto_region 9 with fail
                go_cut [1] from 9 (fun s1 wq => s1 = .int .i8 l ∧ w3 = wq)
                case first =>
                  go_wp2_with fail
                  all_goals go_meet
                  all_goals (first | (case rel => exact ⟨by have := unhide HL2; congr 1; omega, rfl⟩))
                case rest =>
                  obtain ⟨rfl, hwq⟩ := hcut
                  subst hwq
                  go_upto_region 10 with fail
                  go_cut [2] from 9 (fun s2 wq => s2 = .int .i8 h ∧ w3 = wq)
                  case first =>
                    go_wp2_with fail
                    all_goals go_meet
                    all_goals (first | (case rel => exact ⟨by have := unhide HH2; congr 1; omega, rfl⟩))
                  case rest =>
                    obtain ⟨rfl, hwq⟩ := hcut
                    subst hwq
                    go_wp2_with fail
                    refine (unhide HREP).mono ?_
                    rintro e w5 ⟨v', rfl, hpc, hpf, hvc, hch⟩
                    rcases hvc with rfl | ⟨g5, n5, c5, rfl⟩
                    · go_wp2_with fail
                      go_ret
                      subst hN
                      exact ⟨_, ⟨true, rfl, iff_of_true rfl (unhide HZ).2.2.2⟩, (unhide HZ).1, (unhide HZ).2.1, (unhide HZ).2.2.1, unhide hch⟩
                    · go_wp2_with fail
                      go_ret
                      subst hN
                      exact ⟨_, ⟨true, rfl, iff_of_true rfl (unhide HZ).2.2.2⟩, (unhide HZ).1, (unhide HZ).2.1, (unhide HZ).2.2.1, unhide hch⟩
              · have hltz : ¬ (f : Int) < (e : Int) := by omega
                obtain rfl : l = a := by have := unhide HLL; rwa [if_neg hlt] at this
                obtain rfl : h = b := by have := unhide HHH; rwa [if_neg hlt] at this
                go_wp2_with fail
                refine (unhide HREP).mono ?_
                rintro e w5 ⟨v', rfl, hpc, hpf, hvc, hch⟩
                rcases hvc with rfl | ⟨g5, n5, c5, rfl⟩
                · go_wp2_with fail
                  go_ret
                  subst hN
                  exact ⟨_, ⟨true, rfl, iff_of_true rfl (unhide HZ).2.2.2⟩, (unhide HZ).1, (unhide HZ).2.1, (unhide HZ).2.2.1, unhide hch⟩
                · go_wp2_with fail
                  go_ret
                  subst hN
                  exact ⟨_, ⟨true, rfl, iff_of_true rfl (unhide HZ).2.2.2⟩, (unhide HZ).1, (unhide HZ).2.1, (unhide HZ).2.2.1, unhide hch⟩
end Go.Proofs.Ytdalghfhpekcfaa
