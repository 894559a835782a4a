/- acyclic; Of, Order, Acyclic. -/
import Derived.Test.YtdpdghhieokcfaaOrd93
namespace Go.Proofs.Ytdpdghhieokcfaa
open Go.RowKit Go.Maps T9
theorem containsI {v : Value} {ks : List Int} (k : Int) (w : World) (h : NRow w v ks) (hl : ks.length ≤ 1000000) :
    Calls Try.prog 38 #[v, .int .i64 k] w fun e w' => e = .returned (.bool (decide (k ∈ ks))) ∧ w' = w := by
  rcases nrow_shape h with ⟨rfl, rfl⟩ | ⟨g, c, rfl⟩
  · exact Try.slices_Contains_int_empty none 0 k w
  · refine (Try.slices_Contains_int g 0 ks.length c ks k w (Nat.le_refl _) (by omega) (fun j hj => by rw [Nat.zero_add]; exact (nrow_some h).2.2.2.2 j hj)).mono ?_
    rintro e w' ⟨he, hw⟩
    rw [List.take_length, List.contains_eq_mem] at he
    exact ⟨he, hw⟩
theorem mem_pl {l : List Nat} {k : Nat} : (k : Int) ∈ pl l ↔ k ∈ l := by
  unfold pl
  rw [List.mem_map]
  constructor
  · rintro ⟨x, hx, e⟩; rw [show k = x by omega]; exact hx
  · intro h; exact ⟨k, h, rfl⟩
/-- What acyclic leaves. -/
def AcAns (w : World) (V : List Int) (nx : Nat → List Nat) (b : Bool) (w' : World) : Prop := ∃ h, Heads nx V.length h ∧ (∀ p, h p ≤ p) ∧ (b = true ↔ ∀ p, p < V.length → h p = p ∧ p ∉ nx p) ∧ Below w.heap.size w w'
def AcEnd (w : World) (V : List Int) (nx : Nat → List Nat) (e : Ending) (w' : World) : Prop := ∃ b, e = .returned (.bool b) ∧ AcAns w V nx b w'
set_option maxHeartbeats 8000000 in
set_option maxRecDepth 100000 in
theorem acyclicS {w : World} {gb : Nat} {vv nv : Value} {V : List Int} {nx : Nat → List Nat} (hG : GAt w gb vv nv V nx) (hnx : ∀ p, p < V.length → ∀ q ∈ nx p, q < V.length) (hn : V.length ≤ 100000) (hl : ∀ p, p < V.length → (nx p).length ≤ 1000000) :
    Calls Try.prog 24 #[.pointer (some ⟨gb, 0, none⟩)] w fun e w' => Hid (AcEnd w V nx e w') := by
  obtain ⟨n, hne⟩ : ∃ n, n = V.length := ⟨_, rfl⟩
  have HNE := hide hne
  obtain ⟨c0, c1, -⟩ := cellsG9 hG.box
  have CH : Hid (Calls Try.prog 32 #[nv] w fun e w' => Hid (∃ hv, e = .returned hv ∧ HeadsAns w nx n hv w')) := by
    have h2 := hG.nx
    rw [← hne] at h2 hnx hl
    exact headsOfS h2 hnx (by omega) hl
  obtain ⟨gn, cn, rfl, -⟩ := id hG.nx
  have HG := hide hG
  have HX := hide (And.intro hn hl)
  clear hG hnx hn hl hne
  go_enter Try.func24, Try.ntmps24
  go_wp2_with fail
  refine (unhide CH).mono ?_
  intro r w1 hh
  obtain ⟨hvv, rfl, h, hH, hle, hb1, hr1⟩ := unhide hh
  clear CH hh c0 c1
  obtain ⟨hx, hc, rfl, -⟩ := brow_shape hr1
  rw [rowI_len] at hr1 ⊢
  rw [← unhide HNE]
  have hG1 := (unhide HG).below hb1
  obtain ⟨-, c1, -⟩ := cellsG9 hG1.box
  rw [← unhide HNE] at c1
  have HH := hide (And.intro hH (And.intro hle (And.intro hb1 (And.intro hr1 hG1))))
  clear hH hle hb1 hr1 hG1
  go_upto_region 2 with fail
  go_loopw [11, 3, 4] (fun s11 s3 s4 wr => wr = w1 ∧ ∃ k : Nat, s11 = .int .i64 (k : Nat) ∧ k ≤ n ∧ Hid (∀ p, p < k → h p = p ∧ p ∉ nx p)) (fun s11 _ _ _ => n - (intOf s11).toNat)
  case atStart => exact ⟨rfl, 0, rfl, Nat.zero_le _, fun p hp => absurd hp (Nat.not_lt_zero _)⟩
  case round =>
    obtain ⟨rfl, k, rfl, hkn, hI⟩ := hrel
    have hne := unhide HNE
    obtain ⟨hH, hle, hb1, hr1, hG1⟩ := unhide HH
    by_cases hlt : k < n
    · obtain ⟨gh, hgh⟩ := brow_some hr1 (by rw [rowI_len]; omega)
      subst hgh
      have d1 := brow_at hr1 (rowI_at (fun p => ((h p : Nat) : Int)) hlt)
      obtain ⟨_, _, e1, hg, -, hrow⟩ := id hG1.nx
      injection e1 with e1 e2 e3
      injection e1 with e1
      injection e1 with e1
      subst e1
      obtain ⟨v0, y1, hrow⟩ := hrow k (by omega)
      obtain ⟨x0, cc0, rfl, -⟩ := brow_shape hrow
      have hlk := (unhide HX).2 k (by omega)
      have CC := hide (containsI (k : Int) wr hrow (by rw [pl_len]; exact hlk))
      generalize (pl (nx k)).length = l0 at y1 CC
      have z0 : (k : Int) < (n : Int) := by omega
      obtain ⟨k1, hk1⟩ : ∃ k1, k1 = k + 1 := ⟨_, rfl⟩
      have zw : Hid (wrap64 ((k : Int) + 1) = (k1 : Int)) := by have := (unhide HX).1; show wrap64 ((k : Int) + 1) = (k1 : Int); unfold wrap64; omega
      have HJ : Hid (k1 ≤ n ∧ n - k1 < n - k) := ⟨by omega, by omega⟩
      by_cases hkk : h k = k
      · have hz : (((h k : Nat) : Int) != (k : Int)) = false := by simp [hkk]
        by_cases hm : k ∈ nx k
        · have HGO : Hid (AcAns w V nx false wr) := by
            rw [hne] at hH
            exact ⟨h, hH, hle, ⟨fun e => (by cases e), fun q => absurd hm (q k (by omega)).2⟩, hb1⟩
          rw [decide_eq_true (mem_pl.2 hm)] at CC
          generalize h k = hk at *
          clear hH hle hb1 hr1 hG1 hg hrow hlk hk1 hkk hm hlt hkn hI e2 e3 hne
          go_wp2_with fail
          refine (unhide CC).mono ?_
          rintro e w' ⟨rfl, rfl⟩
          go_wp2_with fail
          go_ret
          exact ⟨_, rfl, unhide HGO⟩
        · have HI2 : Hid (∀ p, p < k1 → h p = p ∧ p ∉ nx p) := fun p hp => by
            by_cases e : p = k
            · rw [e]; exact ⟨hkk, hm⟩
            · exact unhide hI p (by omega)
          rw [decide_eq_false (mt mem_pl.1 hm)] at CC
          generalize h k = hk at *
          clear hH hle hb1 hr1 hG1 hg hrow hlk hk1 hkk hm hlt hkn hI e2 e3 hne
          go_wp2_with fail
          refine (unhide CC).mono ?_
          rintro e w' ⟨rfl, rfl⟩
          go_wp2_with fail
          rw [unhide zw]
          exact ⟨⟨trivial, k1, rfl, (unhide HJ).1, HI2⟩, by have := (unhide HJ).2; simp [intOf]; omega⟩
      · have hz : (((h k : Nat) : Int) != (k : Int)) = true := by simp; omega
        have HGO : Hid (AcAns w V nx false wr) := by
          rw [hne] at hH
          exact ⟨h, hH, hle, ⟨fun e => (by cases e), fun q => absurd (q k (by omega)).1 hkk⟩, hb1⟩
        generalize h k = hk at *
        clear hH hle hb1 hr1 hG1 hg hrow hlk hk1 hkk hlt hkn hI e2 e3 hne CC y1
        go_wp2_with fail
        go_ret
        exact ⟨_, rfl, unhide HGO⟩
    · have z0 : ¬ (k : Int) < (n : Int) := by omega
      have HGO : Hid (AcAns w V nx true wr) := by
        rw [hne] at hH
        exact ⟨h, hH, hle, ⟨fun _ p hp => unhide hI p (by omega), fun _ => rfl⟩, hb1⟩
      clear hH hle hb1 hr1 hG1 hlt hkn hI hne
      go_wp2_with fail
      go_ret
      exact ⟨_, rfl, unhide HGO⟩
end Go.Proofs.Ytdpdghhieokcfaa
