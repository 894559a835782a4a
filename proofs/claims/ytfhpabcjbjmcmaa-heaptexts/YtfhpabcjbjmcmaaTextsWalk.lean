/- The walk of bramblelaw03.HeapTexts. -/
import Derived.Test.YtfhpabcjbjmcmaaCame
import Derived.Test.YtfhpabcjbjmcmaaAwake
import Derived.Deep.RegionHeld3
import Derived.Deep.Cut
import Derived.Deep.CutRange
import Derived.Lib.AppendZeros
import Derived.Lib.SlicesS
import Derived.ChangeKeysEq
namespace Go.Proofs.Ytfhpabcjbjmcmaa
open Go.RowKit Go.Maps

/-- What holds ahead of each key: the keys that came, in their order; each rank's second number is its key's size. -/
structure Kept [Inhabited EntT] (w0 : World) (p L : Nat) (v : Value) (ms : List EntT) (w : World) : Prop where
  len : ms.length = L
  sizes : ∀ x ∈ ms, x.rank.2 = (x.key.size : Int)
  came : Came w0.heap.size w0 p ms L v (ms.map (·.key)) w

theorem Came.form [Inhabited EntT] {B : Nat} {w0 w : World} {p n : Nat} {ms : List EntT} {v : Value} {cs : List ByteArray} (h : Came B w0 p ms n v cs w) : (∃ a c, v = .slice a cs.length c) ∧ ∀ j, j < cs.length → ∃ g c, v = .slice (some ⟨g, 0, none⟩) cs.length c ∧ w.cell? ⟨g, j, none⟩ = some (.string (cs.getD j ByteArray.empty)) := by
  rcases h.row.2 with ⟨rfl, h3⟩ | ⟨g, cap, cur, rfl, -⟩
  · exact ⟨⟨none, 0, by rw [h3]⟩, fun j hj => by omega⟩
  · refine ⟨⟨_, _, rfl⟩, fun j hj => ⟨g, cap, rfl, ?_⟩⟩
    have := h.row.cells (g := g) rfl j (.string (cs.getD j ByteArray.empty)) (by simp [List.getD, hj])
    rwa [show (⟨g, 0, none⟩ : Addr).add j = ⟨g, j, none⟩ by unfold Addr.add; split <;> simp_all] at this

theorem part3 (w : World) (cs : Array Value) (off : Nat) (v : Value) (h : cs[off]? = some v) : (part 3 cs off).run Try.prog w = .ok v w := by
  have ha : (isAgg 3).run Try.prog w = .ok false w := by
    unfold isAgg
    simp [run_underlying Try.underlying3]
  unfold part
  simp only [Sem.run_bind, ha, Result.andThen_ok, Bool.false_eq_true, if_false, h, Sem.run_pure]
theorem eq42 (w : World) (x y : Int) : (Op.equalIn 10000 42 (.agg #[.int .i64 x, .int .i64 y]) (.agg #[.int .i64 x, .int .i64 y])).run Try.prog w = .ok true w := by
  obtain ⟨i, hi⟩ : ∃ i, Try.prog.info? 3 = some i := Option.isSome_iff_exists.1 (by kernel_rfl)
  have hc : Try.prog.cellsOf 3 = 1 := by kernel_rfl
  rw [run_equalIn_array w 9999 _ _ Try.underlying42 hi, hc]
  have p0 := part3 w #[.int .i64 x, .int .i64 y] (0 * 1) (.int .i64 x) rfl
  have p1 := part3 w #[.int .i64 x, .int .i64 y] (1 * 1) (.int .i64 y) rfl
  simp only [List.range_succ, List.range_zero, List.nil_append, List.cons_append, Op.eqItems, Sem.run_bind, p0, p1, Result.andThen_ok, run_equalIn_int w 9998 3 .i64 .i64 _ _ Try.underlying3, beq_self_eq_true, Bool.not_true, Bool.false_eq_true, if_false, Sem.run_pure]

theorem take_key {ms : List EntT} {j : Nat} {K : ByteArray} (hj : j < ms.length) : (∃ x ∈ ms.take (j + 1), x.key = K) ↔ (∃ x ∈ ms.take j, x.key = K) ∨ (ms.map (·.key)).getD j ByteArray.empty = K := by
  have e : (ms.map (·.key)).getD j ByteArray.empty = ms[j].key := by simp [List.getD, hj]
  rw [List.take_succ_eq_append_getElem hj, e]
  constructor
  · rintro ⟨x, hx, hk⟩
    rcases List.mem_append.1 hx with h | h
    · exact .inl ⟨x, h, hk⟩
    · rw [List.mem_singleton.1 h] at hk
      exact .inr hk
  · rintro (⟨x, hx, hk⟩ | hk)
    · exact ⟨x, List.mem_append.2 (.inl hx), hk⟩
    · exact ⟨_, List.mem_append.2 (.inr (List.mem_singleton.2 rfl)), hk⟩

theorem info9T : (Try.prog.info? 9).map (fun i => (i.zero, i.size, i.bytes)) = some (some (.string { data := #[] }), 1, 16) := by kernel_rfl

theorem Came.append [Inhabited EntT] {B : Nat} {w0 w : World} {p n : Nat} {ms : List EntT} {v : Value} {cs : List ByteArray} (h : Came B w0 p ms n v cs w) (K : ByteArray) (hn : cs.length < 1000) :
    ∃ a' c' w', (Builtin.append_ #[39, 39] 39 #[v, .slice (some ⟨w.heap.size, 0, none⟩) 1 1]).run Try.prog (w.alloc (.cells #[.string K] 9)) = .ok (.slice a' (cs.length + 1) c') w' ∧ Came B w0 p ms n (.slice a' (cs.length + 1) c') (cs ++ [K]) w' := by
  have h2 := h.step ((Below.refl _ _).alloc (Nat.le_refl _) (.cells #[.string K] 9))
  obtain ⟨i0, hi0, hz0, hzs, hzb⟩ := info_parts info9T
  obtain ⟨v', w', hr, hown', hgr, -, hloc⟩ := run_append_own_at (P := Try.prog) (w.alloc (.cells #[.string K] 9)) B 39 39 9 i0 _ 1 16 Try.underlying39 hi0 hz0 hzs hzb rfl (by omega) v cs.length _ h2.row ⟨w.heap.size, 0, none⟩ 1 1 [.string K] rfl
    (fun j u hj => by
      have h1 : j < 1 := by
        have := (List.getElem?_eq_some_iff.1 hj).1
        simpa using this
      obtain rfl : j = 0 := by omega
      rw [show (⟨w.heap.size, 0, none⟩ : Addr).add 0 = ⟨w.heap.size, 0, none⟩ by unfold Addr.add; split <;> simp_all, World.cell?_alloc_at _ _ _ _ (by simp)]
      simpa using hj) (by intro u hu; simp at hu; subst hu; rfl) (by unfold maxLen; omega) (by omega) h2.room
  have hrow : w'.ownsRow B 9 1 v' (cs ++ [K]).length ((cs ++ [K]).map .string) := by
    rw [List.length_append, List.map_append]; exact hown'
  have hC := h2.grown hrow hgr (fun b hb => by
    rcases hloc with e | e
    · exact .inl (e ▸ hb)
    · rw [e] at hb
      injection hb with hb
      exact .inr (by omega))
  obtain ⟨⟨a', c', rfl⟩, -⟩ := hC.form
  rw [List.length_append] at hr hC
  exact ⟨a', c', w', hr, hC⟩

set_option maxHeartbeats 4000000 in
set_option maxRecDepth 100000 in
theorem texts_any [Inhabited EntT] [Inhabited EntS] (a : Option Addr) (b off len cap N : Nat) (z : Nat → ByteArray) (w : World) (hN : Hid (N = min len 400)) (HZ : Hid (∀ i, i < len → (z i).size ≤ maxLen))
    (HC : Hid (∀ i, i < len → a = some ⟨b, off, none⟩ ∧ w.cell? ⟨b, off + i, none⟩ = some (.string (z i)))) :
    Calls Try.prog 6 #[.slice a len cap] w fun e w' => e = .returned (.bool true) ∧ Below w.heap.size w w' := by
  go_enter Try.func6, Try.ntmps6
  go_wp2_with fail
  refine (newLT w).mono ?_
  rintro e w1 ⟨p, rfl, L1⟩
  have HL1 := hide L1
  clear L1
  go_wp2_with fail
  refine (awake_any w1).mono ?_
  rintro e w2 ⟨rfl, hb2⟩
  have HK2 : Hid (Kept w p 0 (.slice none 0 0) [] w2) := ⟨rfl, by simp, ((unhide HL1).step hb2).came⟩
  clear HL1 hb2
  go_wp2_with fail
  have hN4 : N ≤ 400 := by have := unhide hN; omega
  go_loopw [4, 5] (fun s4 s5 wr => ∃ (k L : Nat) (a4 : Option Addr) (c4 : Nat), k ≤ N ∧ L ≤ k ∧ s5 = .int .i64 k ∧ s4 = .slice a4 L c4 ∧ Hid (∃ ms, Kept w p L (.slice a4 L c4) ms wr)) (fun _ s5 _ => N - (intOf s5).toNat)
  case atStart => exact ⟨0, 0, none, 0, Nat.zero_le _, Nat.le_refl _, rfl, rfl, ⟨[], unhide HK2⟩⟩
  case round =>
    obtain ⟨k, L, a4, c4, hk, hL, rfl, rfl, HK⟩ := hrel
    obtain ⟨ms, HK⟩ := unhide HK
    have HK := hide HK
    rename World => wo
    by_cases hlt : k < N
    · have hlk : k < len := by have := unhide hN; omega
      have hll : (k : Int) < (len : Int) := by omega
      have h400 : (k : Int) < 400 := by omega
      obtain ⟨ea, ca⟩ := unhide HC k hlk
      subst ea
      have hbw : b < w.heap.size := World.block_lt_of_cell? _ _ ca
      have c1 : wo.cell? ⟨b, off + k, none⟩ = some (.string (z k)) := ((unhide HK).came.below.cell (by exact hbw)).trans ca
      have HRD : Hid (∀ wx, Below w.heap.size w wx → wx.cell? ⟨b, off + k, none⟩ = some (.string (z k))) := fun wx hb => (hb.cell (by exact hbw)).trans ca
      have HKO : Hid (KeyOkT (z k)) := unhide HZ k hlk
      generalize z k = K at c1 HRD HKO
      clear hbw ca
      go_wp2_with fail
      go_loopw [6, 34] (fun s6 s34 w3 => ∃ (j : Nat) (bb : Bool), j ≤ L ∧ s34 = .int .i64 j ∧ s6 = .bool bb ∧ w3 = wo ∧ Hid (bb = true ↔ ∃ x ∈ ms.take j, x.key = K)) (fun _ s34 _ => L - (intOf s34).toNat)
      case atStart => exact ⟨0, false, Nat.zero_le _, rfl, rfl, rfl, by show _ ↔ _; simp⟩
      case round =>
        obtain ⟨j, bb, hj, rfl, rfl, rfl, HB⟩ := hrel
        by_cases hjl : j < L
        · have hjz : (j : Int) < (L : Int) := by omega
          obtain ⟨g, c, he, hc⟩ := (unhide HK).came.form.2 j (by rw [List.length_map, (unhide HK).len]; exact hjl)
          have hjm : j < ms.length := by rw [(unhide HK).len]; exact hjl
          injection he with he1 he2 he3
          subst he1
          have HT : Hid ((∃ x ∈ ms.take (j + 1), x.key = K) ↔ (∃ x ∈ ms.take j, x.key = K) ∨ (ms.map (·.key)).getD j ByteArray.empty = K) := take_key hjm
          generalize (ms.map (·.key)).getD j ByteArray.empty = kj at hc HT
          clear he2 he3 hjm
          cases bb with
          | true =>
            go_wp2_with fail
            go_roundw
            case rel => exact ⟨j + 1, true, by omega, by go_num, rfl, trivial, by show _ ↔ _; rw [unhide HT]; exact ⟨fun _ => .inl ((unhide HB).1 rfl), fun _ => rfl⟩⟩
            case measure => simp [intOf]; omega
          | false =>
            by_cases hkk : kj = K
            · subst hkk
              go_wp2_with fail
              go_roundw
              case rel => exact ⟨j + 1, true, by omega, by go_num, rfl, trivial, by show _ ↔ _; rw [unhide HT]; simp⟩
              case measure => simp [intOf]; omega
            · have hbq : (kj.toList == K.toList) = false := (Lib.bytes_beq_false_iff _ _).2 hkk
              go_wp2_with fail
              go_roundw
              case rel => exact ⟨j + 1, false, by omega, by go_num, rfl, trivial, by show _ ↔ _; rw [unhide HT, ← unhide HB]; simp [hkk]⟩
              case measure => simp [intOf]; omega
        · have hjz : ¬ (j : Int) < (L : Int) := by omega
          obtain rfl : j = L := by omega
          have HB2 : Hid (bb = true ↔ ∃ x ∈ ms, x.key = K) := by
            have := unhide HB
            rwa [← (unhide HK).len, List.take_length] at this
          clear HB
          have CL : Hid (∀ (ms2 : List EntT) (n2 : Nat) (wx : World), Hid (Came w.heap.size w p ms2 n2 (.slice a4 j c4) (ms.map (·.key)) wx) → Calls Try.prog 20 #[.pointer (some ⟨p, 0, none⟩), .string K, .agg #[.int .i64 0, .int .i64 0]] wx fun e w' => e = .returned (.bool false) ∧ w'.cell? ⟨b, off + k, none⟩ = some (.string K) ∧ Hid (Came w.heap.size w p ms2 n2 (.slice a4 j c4) (ms.map (·.key)) w')) := fun ms2 n2 wx h =>
            (lowerC K (0, 0) (unhide h) (unhide HKO)).mono fun e w' hh => ⟨hh.1, unhide HRD w' hh.2.below, hh.2⟩
          cases bb with
          | true =>
            have CP : Hid (∀ q, Calls Try.prog 19 #[.pointer (some ⟨p, 0, none⟩), .string K, .agg #[.int .i64 k, .int .i64 K.size]] (wr.drewN q) fun e w' => e = .returned (.bool false) ∧ w'.cell? ⟨b, off + k, none⟩ = some (.string K) ∧ Hid (Came w.heap.size w p ms j (.slice a4 j c4) (ms.map (·.key)) w')) := fun q =>
              (pushInC K ((k : Int), (K.size : Int)) ((unhide HK).came.step (below_drewN (Below.refl _ wr) q)) (unhide HKO) ((unhide HB2).1 rfl)).mono fun e w' hh => ⟨hh.1, unhide HRD w' hh.2.below, hh.2⟩
            go_upto_region 14 with fail
            go_cut [71] from 48 to 71 (fun s71 wq => s71 = .bool false ∧ Hid (Came w.heap.size w p ms j (.slice a4 j c4) (ms.map (·.key)) wq))
            case first =>
              go_region_held3 (fun w' => w'.cell? ⟨b, off + k, none⟩ = some (.string K)) (first | exact dd1 | (go_keep; done)) (first | (go_at_call 19; refine (unhide CP _).mono ?_; rintro e w' ⟨rfl, dd1, hT⟩) | (go_at_call 20; refine (unhide CL _ _ _ (by assumption)).mono ?_; rintro e w' ⟨rfl, dd1, hT⟩))
              all_goals
                go_wp2_with fail
                go_meet
                case rel => exact ⟨rfl, unhide hT⟩
            case rest =>
              obtain ⟨rfl, HTC⟩ := hcut
              clear CP CL
              go_wp2_with fail
              go_roundw
              case rel => exact ⟨k + 1, j, a4, c4, by omega, by omega, by go_num, rfl, ⟨ms, (unhide HK).len, (unhide HK).sizes, unhide HTC⟩⟩
              case measure => simp [intOf]; omega
          | false =>
            have HNI : Hid (∀ x ∈ ms, x.key ≠ K) := fun x hx e => by
              have := (unhide HB2).2 ⟨x, hx, e⟩
              cases this
            have HML : Hid ((ms.map (·.key)).length = j) := by
              show _ = _
              rw [List.length_map, (unhide HK).len]
            have CP : Hid (∀ q, Calls Try.prog 19 #[.pointer (some ⟨p, 0, none⟩), .string K, .agg #[.int .i64 k, .int .i64 K.size]] (wr.drewN q) fun e w' => e = .returned (.bool true) ∧ w'.cell? ⟨b, off + k, none⟩ = some (.string K) ∧ Hid (Came w.heap.size w p (ms ++ [⟨K, ((k : Int), (K.size : Int)), j⟩]) (j + 1) (.slice a4 j c4) (ms.map (·.key)) w')) := fun q =>
              (pushC K ((k : Int), (K.size : Int)) ((unhide HK).came.step (below_drewN (Below.refl _ wr) q)) (unhide HKO) (unhide HNI) (by rw [(unhide HK).len]; omega) (by omega)).mono fun e w' hh => ⟨hh.1, unhide HRD w' hh.2.below, hh.2⟩
            go_upto_region 14 with fail
            go_cut [71] from 48 to 71 (fun s71 wq => s71 = .bool false ∧ Hid (Came w.heap.size w p (ms ++ [⟨K, ((k : Int), (K.size : Int)), j⟩]) (j + 1) (.slice a4 j c4) (ms.map (·.key)) wq))
            case first =>
              go_region_held3 (fun w' => w'.cell? ⟨b, off + k, none⟩ = some (.string K)) (first | exact dd1 | (go_keep; done)) (first | (go_at_call 19; refine (unhide CP _).mono ?_; rintro e w' ⟨rfl, dd1, hT⟩) | (go_at_call 20; refine (unhide CL _ _ _ (by assumption)).mono ?_; rintro e w' ⟨rfl, dd1, hT⟩))
              all_goals
                go_wp2_with fail
                go_meet
                case rel => exact ⟨rfl, unhide hT⟩
            case rest =>
              obtain ⟨rfl, HTC⟩ := hcut
              rename World => w5
              have d1 := unhide HRD w5 (unhide HTC).below
              obtain ⟨a6, c6, w6, hr6, hC6⟩ := (unhide HTC).append K (by rw [unhide HML]; omega)
              rw [unhide HML] at hr6 hC6
              have HR6 := hide hr6
              have HK6 : Hid (Kept w p (j + 1) (.slice a6 (j + 1) c6) (ms ++ [⟨K, ((k : Int), (K.size : Int)), j⟩]) w6) := by
                refine ⟨by rw [List.length_append, (unhide HK).len]; rfl, fun x hx => ?_, ?_⟩
                · rcases List.mem_append.1 hx with h | h
                  · exact (unhide HK).sizes x h
                  · rw [List.mem_singleton.1 h]
                · rw [List.map_append]; exact hC6
              clear CP CL hr6 hC6 HTC
              go_wp2_with (at_builtin; refine Lib.wpList_append_run _ rfl _ _ 39 39 rfl (.slice a4 j c4) (.slice (some ⟨w5.heap.size, 0, none⟩) 1 1) rfl rfl _ _ HR6.out ?_)
              go_roundw
              case rel => exact ⟨k + 1, j + 1, a6, c6, by omega, by omega, by go_num, rfl, ⟨_, unhide HK6⟩⟩
              case measure => simp [intOf]; omega
    · have hend : ¬ (k : Int) < (len : Int) ∨ ¬ (k : Int) < 400 := by have := unhide hN; omega
      have HEX : Hid True := trivial
      go_upto_region 6 with fail
      go_cut [29] from 22 to 29 (fun s29 wq => s29 = .bool false ∧ wq = wo)
      case first =>
        rcases Nat.lt_or_ge k len with h | h
        · have h1 : (k : Int) < (len : Int) := by omega
          have h2 : ¬ (k : Int) < 400 := by omega
          clear hend
          go_wp2_with fail
          go_meet
          case rel => exact ⟨rfl, rfl⟩
        · have h1 : ¬ (k : Int) < (len : Int) := by omega
          clear hend
          go_wp2_with fail
          go_meet
          case rel => exact ⟨rfl, rfl⟩
      case rest =>
        obtain ⟨rfl, rfl⟩ := hcut
        clear hend
        have HML : Hid ((ms.map (·.key)).length = L) := by
          show _ = _
          rw [List.length_map, (unhide HK).len]
        have HD0 := hide (show Came w.heap.size w p (ms.drop 0) L (.slice a4 L c4) (ms.map (·.key)) _ from (unhide HK).came)
        have HSZ := hide (unhide HK).sizes
        have HLN := hide (unhide HK).len
        clear HK
        go_wp2_with fail
        go_loopw [83] (fun s83 w3 => ∃ i : Nat, i ≤ L ∧ s83 = .int .i64 i ∧ Hid (Came w.heap.size w p (ms.drop i) L (.slice a4 L c4) (ms.map (·.key)) w3)) (fun s83 _ => L - (intOf s83).toNat)
        case atStart => exact ⟨0, Nat.zero_le _, rfl, unhide HD0⟩
        case round =>
          obtain ⟨i, hi, rfl, HKI⟩ := hrel
          rename World => w3
          by_cases hil : i < L
          · have hiz : (i : Int) < (L : Int) := by omega
            have him : i < ms.length := by rw [unhide HLN]; exact hil
            obtain ⟨g, c, he, hc⟩ := (unhide HKI).form.2 i (by rw [unhide HML]; exact hil)
            injection he with he1 he2 he3
            subst he1
            have hd : ms.drop i = ms[i] :: ms.drop (i + 1) := List.drop_eq_getElem_cons him
            have hkey : (ms.map (·.key)).getD i ByteArray.empty = ms[i].key := by simp [List.getD, him]
            have hsz := unhide HSZ ms[i] (List.getElem_mem him)
            have HB3 : Hid (∀ wx, Came w.heap.size w p (ms.drop (i + 1)) L (.slice (some ⟨g, 0, none⟩) L c4) (ms.map (·.key)) wx → wx.cell? ⟨g, i, none⟩ = some (.string ms[i].key)) := fun wx hx => by
              obtain ⟨g', c', he, hc'⟩ := hx.form.2 i (by rw [unhide HML]; exact hil)
              injection he with e1 _ _
              injection e1 with e1
              injection e1 with e1 _ _
              subst e1
              rw [hkey] at hc'
              exact hc'
            have CG := hide (getC (unhide HKI) (x := ms[i]) (by rw [hd]; exact List.mem_cons_self ..))
            have CPP : Hid (∀ w4 W4, Came w.heap.size w p (ms.drop i) L (.slice (some ⟨g, 0, none⟩) L c4) (ms.map (·.key)) w4 → Below w4.heap.size w4 W4 → Calls Try.prog 22 #[.pointer (some ⟨p, 0, none⟩)] W4 fun e w' => e = .returned (.tuple #[.string ms[i].key, .agg #[.int .i64 ms[i].rank.1, .int .i64 ms[i].rank.2], .bool true]) ∧ Came w.heap.size w p (ms.drop (i + 1)) L (.slice (some ⟨g, 0, none⟩) L c4) (ms.map (·.key)) w' ∧ W4.heap.size ≤ w'.heap.size ∧ ∀ k, w4.heap.size ≤ k → k < W4.heap.size → w'.heap[k]? = W4.heap[k]?) := fun w4 W4 h1 h2 => by
              rw [hd] at h1
              exact popC h1 h2 (by rw [List.length_drop]; have := unhide HLN; omega)
            rw [hkey] at hc
            have HKI2 := HKI
            clear hd hkey he2 he3 HKI
            generalize ms[i].rank = rk at *
            generalize ms[i].key = kk at *
            clear him
            obtain ⟨r1, r2⟩ := rk
            simp only at hsz
            subst hsz
            go_wp2_with fail
            refine (unhide CG).mono ?_
            rintro e w4 ⟨rfl, L4⟩
            have HPC := hide (unhide CPP w4 (w4.alloc (.cells #[.int .i64 r1, .int .i64 kk.size] 42)) L4 ((Below.refl _ _).alloc (Nat.le_refl _) _))
            clear CG CPP L4
            go_wp2_with fail
            refine (unhide HPC).mono ?_
            rintro e w5 ⟨rfl, L5, hs5, hk5⟩
            have h45 : w4.heap.size < w5.heap.size := by simp at hs5; omega
            have hb5 : w5.heap[w4.heap.size]? = some (.cells #[.int .i64 r1, .int .i64 kk.size] 42 (0, 0)) := (hk5 _ (Nat.le_refl _) (by simp)).trans (heap_alloc_new w4 _)
            have k0 : w5.cell? ⟨w4.heap.size, 0, none⟩ = some (.int .i64 r1) := by rw [cell_of_row _ _ _ _ _ _ hb5]; rfl
            have k1 : w5.cell? ⟨w4.heap.size, 1, none⟩ = some (.int .i64 kk.size) := by rw [cell_of_row _ _ _ _ _ _ hb5]; rfl
            have k2 := unhide HB3 w5 L5
            have hg5 : g < w5.heap.size := World.block_lt_of_cell? _ _ k2
            have HL5 := hide L5
            have HST : Hid (Came w.heap.size w p (ms.drop (i + 1)) L (.slice (some ⟨g, 0, none⟩) L c4) (ms.map (·.key)) (w5.alloc (.cells #[.int .i64 r1, .int .i64 kk.size] 42))) := L5.step ((Below.refl _ _).alloc (Nat.le_refl _) _)
            have heq := eq42
            clear HPC L5 hk5 hb5 hs5 HB3 HL5
            go_wp2_with fail
            go_roundw
            case rel => exact ⟨i + 1, by omega, by go_num, unhide HST⟩
            case measure => simp [intOf]; omega
          · have hiz : ¬ (i : Int) < (L : Int) := by omega
            obtain rfl : i = L := by omega
            have hdn : ms.drop i = [] := by rw [← unhide HLN]; exact List.drop_length
            have CLN : Hid (Calls Try.prog 23 #[.pointer (some ⟨p, 0, none⟩)] w3 fun e w' => e = .returned (.int .i64 0) ∧ w' = w3) := by
              have := lenC (unhide HKI)
              rw [hdn] at this
              exact this
            have HBB := hide (unhide HKI).below
            clear HKI hdn
            go_wp2_with fail
            refine (unhide CLN).mono ?_
            rintro e w' ⟨rfl, rfl⟩
            clear CLN
            go_wp2_with fail
            go_ret
            exact ⟨rfl, unhide HBB⟩
end Go.Proofs.Ytfhpabcjbjmcmaa
