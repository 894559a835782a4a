/- merge over runs of bytes. -/
import Derived.Test.YtdalghfhpekcfaaLayI
import Derived.Deep.RegionHeld3
namespace Go.Proofs.Ytdalghfhpekcfaa
open Go.RowKit Go.Shelf

def lenV : Value → Nat
  | .slice _ n _ => n
  | _ => 0

/-- What is left of a's row behind i runs. -/
structure TailI (w : World) (a : List (Int × Int)) (i : Nat) (p : Option Addr) (k ca : Nat) : Prop where
  len : i + k = a.length
  cap : k ≤ ca
  cells : 0 < k → ∃ g o, p = some ⟨g, o, none⟩ ∧ Hid (∀ w', Below w.heap.size w w' → ∀ t, t < k → w'.cell? ⟨g, o + t * 2, none⟩ = some (.int .i64 (lo a (i + t))) ∧ w'.cell? ⟨g, o + t * 2 + 1, none⟩ = some (.int .i64 (hi a (i + t))))

theorem tail_start {w : World} {v : Value} {a : List (Int × Int)} (h : w.ownsRow 0 93 2 v a.length (enc .i64 a)) : ∃ p ca, v = .slice p a.length ca ∧ TailI w a 0 p a.length ca := by
  have hlt := h.lt
  have hr := h
  rcases h.2 with ⟨rfl, h3⟩ | ⟨g, cap, cur, rfl, -, hg, h1, -⟩
  · exact ⟨none, 0, by rw [h3], by omega, by omega, fun h => by omega⟩
  · refine ⟨_, _, rfl, by omega, h1, fun _ => ⟨g, 0, rfl, fun w' hb t ht => ?_⟩⟩
    have := owns_cells hr t ht
    have hgl := (hlt g rfl).2
    simp only [Nat.zero_add]
    exact ⟨(hb.cell (p := ⟨g, t * 2, none⟩) hgl).trans this.1, (hb.cell (p := ⟨g, t * 2 + 1, none⟩) hgl).trans this.2⟩

theorem TailI.next {w : World} {a : List (Int × Int)} {i g o k ca : Nat} (h : TailI w a i (some ⟨g, o, none⟩) k ca) (hk : 0 < k) : TailI w a (i + 1) (some ⟨g, o + 2, none⟩) (k - 1) (ca - 1) := by
  refine ⟨by have := h.len; omega, by have := h.cap; omega, fun h0 => ⟨g, o + 2, rfl, fun w' hb t ht => ?_⟩⟩
  obtain ⟨g2, o2, e, hc⟩ := h.cells hk
  cases e
  have := unhide hc w' hb (t + 1) (by omega)
  rw [show o + (t + 1) * 2 = o + 2 + t * 2 by omega, show i + (t + 1) = i + 1 + t by omega] at this
  exact this

theorem TailI.empty {w : World} {a : List (Int × Int)} {i k ca c2 : Nat} {p p2 : Option Addr} (h : TailI w a i p k ca) (hk : k = 1) : TailI w a (i + 1) p2 0 c2 :=
  ⟨by have := h.len; omega, by omega, fun h0 => by omega⟩

/-- The first run of what is left. -/
theorem TailI.head {w w' : World} {a : List (Int × Int)} {i g o k ca : Nat} (h : TailI w a i (some ⟨g, o, none⟩) k ca) (hk : 0 < k) (hb : Below w.heap.size w w') : w'.cell? ⟨g, o, none⟩ = some (.int .i64 (lo a i)) ∧ w'.cell? ⟨g, o + 1, none⟩ = some (.int .i64 (hi a i)) := by
  obtain ⟨g2, o2, e, hc⟩ := h.cells hk
  cases e
  exact unhide hc w' hb 0 hk

/-- lay within merge: what it asks and what it hands on. -/
theorem layMid {B : Nat} {w0 w : World} {v : Value} {a b acc : List (Int × Int)} {i j : Nat} (hN : NewI B w0 w v acc) (hM : Mid a b i j acc) (ha : Canon a) (fa : Fits (-9223372036854775808) 9223372036854775807 a) (hi1 : i < a.length) (hn : acc.length ≤ 1099511627776) :
    Calls Try.prog 97 #[v, .agg #[.int .i64 (lo a i), .int .i64 (hi a i)]] w fun e w' => ∃ g n c, e = .returned (.slice (some ⟨g, 0, none⟩) n c) ∧ Hid (NewI B w0 w' (.slice (some ⟨g, 0, none⟩) n c) (layM acc (lo a i, hi a i))) := by
  have h1 := fa i hi1
  have h2 := ha.run i hi1
  refine (layI (lo a i) (hi a i) _ hN hn hM.canon hM.fits (hide ⟨by omega, by omega⟩)).mono ?_
  rintro e w' ⟨g, c, rfl, h⟩
  exact ⟨g, _, c, rfl, h⟩

set_option maxHeartbeats 4000000 in
set_option maxRecDepth 100000 in
theorem mergeI {va vb : Value} {a b : List (Int × Int)} (w : World) (hA : w.ownsRow 0 93 2 va a.length (enc .i64 a)) (hB : w.ownsRow 0 93 2 vb b.length (enc .i64 b)) (ca : Canon a) (cb : Canon b) (fa : Fits (-9223372036854775808) 9223372036854775807 a) (fb : Fits (-9223372036854775808) 9223372036854775807 b) (na : a.length ≤ 100000000) (nb : b.length ≤ 100000000) :
    Calls Try.prog 72 #[va, vb] w fun e w' => ∃ g n c acc, e = .returned (.slice (some ⟨g, 0, none⟩) n c) ∧ Hid (NewI w.heap.size w w' (.slice (some ⟨g, 0, none⟩) n c) acc ∧ Canon acc ∧ (∀ x, In acc x ↔ In a x ∨ In b x) ∧ Fits (-9223372036854775808) 9223372036854775807 acc ∧ acc.length ≤ a.length + b.length) := by
  obtain ⟨pA, cA, rfl, tA⟩ := tail_start hA
  obtain ⟨pB, cB, rfl, tB⟩ := tail_start hB
  have HTA := hide tA
  have HTB := hide tB
  have HC := hide (And.intro (And.intro ca fa) (And.intro cb fb))
  have HN := hide (And.intro na nb)
  have hw1 : IntKind.i64.wrap ((a.length : Int) + (b.length : Int)) = (a.length : Int) + (b.length : Int) := by rw [IntKind.wrap_i64]; omega
  obtain ⟨i0, hi0, hz0, hzs, hzb⟩ := info_parts infoI
  have hmk : Hid (∃ w1, (Instr.makeSlice 89 (.int .i64 0) (.int .i64 ((a.length : Int) + (b.length : Int)))).run Try.prog w = .ok (.slice (some ⟨w.heap.size, 0, none⟩) 0 (a.length + b.length)) w1 ∧ NewI w.heap.size w w1 (.slice (some ⟨w.heap.size, 0, none⟩) 0 (a.length + b.length)) []) := by
    obtain ⟨w1, r1, r2, r3⟩ := run_make_own (P := Try.prog) w 0 89 93 i0 _ 2 Try.underlying89 hi0 hz0 hzs .i64 .i64 (a.length + b.length) (by rw [hzb]; omega) (by unfold maxLen; omega) (Nat.zero_le _)
    refine ⟨w1, by rw [← r1]; simp, r2, fun k hk => ?_, ⟨r3.os, r3.tape, r3.output, r3.size, fun k hk => r3.block k hk (by simp)⟩, r3.size⟩
    simp [Value.ownBlock] at hk
    omega
  obtain ⟨w1, hmk1, hN1⟩ := unhide hmk
  have HN1 := hide hN1
  generalize hla : a.length = la at *
  generalize hlb : b.length = lb at *
  have HLA := hide (And.intro hla hlb)
  clear hA hB tA tB ca cb fa fb na nb hmk hN1 hi0 hz0 hla hlb
  go_enter Try.func72, Try.ntmps72
  go_wp2_with (simp only [hmk1])
  go_loopw [0, 1, 5] (fun s0 s1 s5 wr => ∃ (pa pb : Option Addr) (ka kb ca cb g n c i j : Nat) (acc : List (Int × Int)), s0 = .slice pa ka ca ∧ s1 = .slice pb kb cb ∧ s5 = .slice (some ⟨g, 0, none⟩) n c ∧ Hid (TailI w a i pa ka ca ∧ TailI w b j pb kb cb ∧ Mid a b i j acc ∧ NewI w.heap.size w wr (.slice (some ⟨g, 0, none⟩) n c) acc)) (fun s0 s1 _ _ => lenV s0 + lenV s1)
  case atStart => exact ⟨pA, pB, la, lb, cA, cB, _, _, _, 0, 0, [], rfl, rfl, rfl, unhide HTA, unhide HTB, mid_start a b, unhide HN1⟩
  case round =>
    clear HTA HTB HN1 hmk1
    obtain ⟨pa, pb, ka, kb, ca, cb, g, n, c, i, j, acc, rfl, rfl, rfl, HI⟩ := hrel
    rename World => wr
    rcases Nat.eq_zero_or_pos ka with hka | hka
    · subst hka
      rcases Nat.eq_zero_or_pos kb with hkb | hkb
      · subst hkb
        have HEA : Hid (i + 0 = a.length) := (unhide HI).1.len
        have HEB : Hid (j + 0 = b.length) := (unhide HI).2.1.len
        go_wp2_with fail
        go_loopw [5, 49] (fun s5 s49 wq => ∃ (t g2 n2 c2 : Nat) (acc2 : List (Int × Int)), t ≤ 0 ∧ s49 = .int .i64 t ∧ s5 = .slice (some ⟨g2, 0, none⟩) n2 c2 ∧ Hid (Mid a b (i + t) j acc2 ∧ NewI w.heap.size w wq (.slice (some ⟨g2, 0, none⟩) n2 c2) acc2)) (fun _ s49 _ => 0 - (intOf s49).toNat)
        case atStart => exact ⟨0, g, n, c, acc, Nat.zero_le _, rfl, rfl, (unhide HI).2.2.1, (unhide HI).2.2.2⟩
        case round =>
          obtain ⟨t, g2, n2, c2, acc2, ht, rfl, rfl, HI2⟩ := hrel
          rename World => wq
          · obtain rfl : t = 0 := by omega
            rw [show ((0 : Nat) : Int) = 0 from rfl]
            clear HI
            go_wp2_with fail
            go_loopw [5, 59] (fun s5 s59 wq => ∃ (u g3 n3 c3 : Nat) (acc3 : List (Int × Int)), u ≤ 0 ∧ s59 = .int .i64 u ∧ s5 = .slice (some ⟨g3, 0, none⟩) n3 c3 ∧ Hid (Mid a b (i + 0) (j + u) acc3 ∧ NewI w.heap.size w wq (.slice (some ⟨g3, 0, none⟩) n3 c3) acc3)) (fun _ s59 _ => 0 - (intOf s59).toNat)
            case atStart => exact ⟨0, g2, n2, c2, acc2, Nat.zero_le _, rfl, rfl, (unhide HI2).1, (unhide HI2).2⟩
            case round =>
              obtain ⟨u, g3, n3, c3, acc3, hu, rfl, rfl, HI3⟩ := hrel
              rename World => wz
              · obtain rfl : u = 0 := by omega
                go_wp2_with fail
                go_ret
                obtain ⟨hM, hN⟩ := unhide HI3
                have e1 := unhide HEA
                have e2 := unhide HEB
                obtain ⟨l1, l2⟩ := unhide HLA
                have HL : acc3.length ≤ la + lb := by have := hM.len; omega
                have HT : ∀ x, In acc3 x ↔ In a x ∨ In b x := fun x => by rw [hM.tell, e1, e2, List.take_length, List.take_length]
                first | exact ⟨_, _, _, rfl, acc3, hN, hM.canon, HT, hM.fits, HL⟩ | exact ⟨_, _, _, acc3, rfl, hN, hM.canon, HT, hM.fits, HL⟩
      · have hkzb : (0 : Int) < (kb : Int) := by omega
        have hkn : (kb : Nat) ≤ 1099511627776 ∧ True := ⟨by have := (unhide HI).2.1.len; have := unhide HN; have := unhide HLA; omega, trivial⟩
        replace hkn := hkn.1
        have HEA : Hid (i + 0 = a.length) := (unhide HI).1.len
        have HEB : Hid (j + kb = b.length) := (unhide HI).2.1.len
        obtain ⟨gb, ob, rfl, hcb⟩ := (unhide HI).2.1.cells hkb
        go_wp2_with fail
        go_loopw [5, 49] (fun s5 s49 wq => ∃ (t g2 n2 c2 : Nat) (acc2 : List (Int × Int)), t ≤ 0 ∧ s49 = .int .i64 t ∧ s5 = .slice (some ⟨g2, 0, none⟩) n2 c2 ∧ Hid (Mid a b (i + t) j acc2 ∧ NewI w.heap.size w wq (.slice (some ⟨g2, 0, none⟩) n2 c2) acc2)) (fun _ s49 _ => 0 - (intOf s49).toNat)
        case atStart => exact ⟨0, g, n, c, acc, Nat.zero_le _, rfl, rfl, (unhide HI).2.2.1, (unhide HI).2.2.2⟩
        case round =>
          obtain ⟨t, g2, n2, c2, acc2, ht, rfl, rfl, HI2⟩ := hrel
          rename World => wq
          · obtain rfl : t = 0 := by omega
            rw [show ((0 : Nat) : Int) = 0 from rfl]
            clear HI
            go_wp2_with fail
            go_loopw [5, 59] (fun s5 s59 wq => ∃ (u g3 n3 c3 : Nat) (acc3 : List (Int × Int)), u ≤ kb ∧ s59 = .int .i64 u ∧ s5 = .slice (some ⟨g3, 0, none⟩) n3 c3 ∧ Hid (Mid a b (i + 0) (j + u) acc3 ∧ NewI w.heap.size w wq (.slice (some ⟨g3, 0, none⟩) n3 c3) acc3)) (fun _ s59 _ => kb - (intOf s59).toNat)
            case atStart => exact ⟨0, g2, n2, c2, acc2, Nat.zero_le _, rfl, rfl, (unhide HI2).1, (unhide HI2).2⟩
            case round =>
              obtain ⟨u, g3, n3, c3, acc3, hu, rfl, rfl, HI3⟩ := hrel
              rename World => wz
              by_cases hlt : u < kb
              · have hltz : (u : Int) < (kb : Int) := by omega
                obtain ⟨x1, x2⟩ := unhide hcb wz (unhide HI3).2.below u hlt
                have hju : j + u < b.length := by have := unhide HEB; omega
                have CA := hide (layMid ((unhide HI3).2.alloc (.cells #[.int .i64 (lo b (j + u)), .int .i64 (hi b (j + u))] 93)) (unhide HI3).1.swap (unhide HC).2.1 (unhide HC).2.2 hju (by have := (unhide HI3).1.len; have := unhide HN; have := unhide HLA; have := unhide HEA; have := unhide HEB; omega))
                have HM3 := hide ((unhide HI3).1.swap.layA (unhide HC).2.1 (unhide HC).2.2 hju (unhide HC).1.1 (fun h => by have := unhide HEA; omega)).swap
                clear HI3 HI2 hju
                generalize layM acc3 (lo b (j + u), hi b (j + u)) = acc4 at *
                generalize lo b (j + u) = y at *
                generalize hi b (j + u) = z at *
                go_wp2_with fail
                refine (unhide CA).mono ?_
                rintro e w' ⟨g', n', c', rfl, hT⟩
                clear CA
                go_wp2_with fail
                go_roundw
                case rel => exact ⟨u + 1, g', n', c', acc4, by omega, by go_num, rfl, unhide HM3, unhide hT⟩
                case measure => simp [intOf]; omega
              · have hltz : ¬ (u : Int) < (kb : Int) := by omega
                obtain rfl : u = kb := by omega
                go_wp2_with fail
                go_ret
                obtain ⟨hM, hN⟩ := unhide HI3
                have e1 := unhide HEA
                have e2 := unhide HEB
                obtain ⟨l1, l2⟩ := unhide HLA
                have HL : acc3.length ≤ la + lb := by have := hM.len; omega
                have HT : ∀ x, In acc3 x ↔ In a x ∨ In b x := fun x => by rw [hM.tell, e1, e2, List.take_length, List.take_length]
                first | exact ⟨_, _, _, rfl, acc3, hN, hM.canon, HT, hM.fits, HL⟩ | exact ⟨_, _, _, acc3, rfl, hN, hM.canon, HT, hM.fits, HL⟩
    · rcases Nat.eq_zero_or_pos kb with hkb | hkb
      · subst hkb
        have hkz : (0 : Int) < (ka : Int) := by omega
        have hkn : (ka : Nat) ≤ 1099511627776 ∧ True := ⟨by have := (unhide HI).1.len; have := unhide HN; have := unhide HLA; omega, trivial⟩
        replace hkn := hkn.1
        have HEA : Hid (i + ka = a.length) := (unhide HI).1.len
        have HEB : Hid (j + 0 = b.length) := (unhide HI).2.1.len
        obtain ⟨ga, oa, rfl, hca⟩ := (unhide HI).1.cells hka
        go_wp2_with fail
        go_loopw [5, 49] (fun s5 s49 wq => ∃ (t g2 n2 c2 : Nat) (acc2 : List (Int × Int)), t ≤ ka ∧ s49 = .int .i64 t ∧ s5 = .slice (some ⟨g2, 0, none⟩) n2 c2 ∧ Hid (Mid a b (i + t) j acc2 ∧ NewI w.heap.size w wq (.slice (some ⟨g2, 0, none⟩) n2 c2) acc2)) (fun _ s49 _ => ka - (intOf s49).toNat)
        case atStart => exact ⟨0, g, n, c, acc, Nat.zero_le _, rfl, rfl, (unhide HI).2.2.1, (unhide HI).2.2.2⟩
        case round =>
          obtain ⟨t, g2, n2, c2, acc2, ht, rfl, rfl, HI2⟩ := hrel
          rename World => wq
          by_cases hlt : t < ka
          · have hltz : (t : Int) < (ka : Int) := by omega
            obtain ⟨x1, x2⟩ := unhide hca wq (unhide HI2).2.below t hlt
            have hit : i + t < a.length := by have := unhide HEA; omega
            have CA := hide (layMid ((unhide HI2).2.alloc (.cells #[.int .i64 (lo a (i + t)), .int .i64 (hi a (i + t))] 93)) (unhide HI2).1 (unhide HC).1.1 (unhide HC).1.2 hit (by have := (unhide HI2).1.len; have := unhide HN; have := unhide HLA; have := unhide HEA; have := unhide HEB; omega))
            have HM3 := hide ((unhide HI2).1.layA (unhide HC).1.1 (unhide HC).1.2 hit (unhide HC).2.1 (fun h => by have := unhide HEB; omega))
            clear HI2 HI hit
            generalize layM acc2 (lo a (i + t), hi a (i + t)) = acc3 at *
            generalize lo a (i + t) = y at *
            generalize hi a (i + t) = z at *
            go_wp2_with fail
            refine (unhide CA).mono ?_
            rintro e w' ⟨g', n', c', rfl, hT⟩
            clear CA
            go_wp2_with fail
            go_roundw
            case rel => exact ⟨t + 1, g', n', c', acc3, by omega, by go_num, rfl, unhide HM3, unhide hT⟩
            case measure => simp [intOf]; omega
          · have hltz : ¬ (t : Int) < (ka : Int) := by omega
            obtain rfl : t = ka := by omega
            clear HI
            go_wp2_with fail
            go_loopw [5, 59] (fun s5 s59 wq => ∃ (u g3 n3 c3 : Nat) (acc3 : List (Int × Int)), u ≤ 0 ∧ s59 = .int .i64 u ∧ s5 = .slice (some ⟨g3, 0, none⟩) n3 c3 ∧ Hid (Mid a b (i + t) (j + u) acc3 ∧ NewI w.heap.size w wq (.slice (some ⟨g3, 0, none⟩) n3 c3) acc3)) (fun _ s59 _ => 0 - (intOf s59).toNat)
            case atStart => exact ⟨0, g2, n2, c2, acc2, Nat.zero_le _, rfl, rfl, (unhide HI2).1, (unhide HI2).2⟩
            case round =>
              obtain ⟨u, g3, n3, c3, acc3, hu, rfl, rfl, HI3⟩ := hrel
              rename World => wz
              · obtain rfl : u = 0 := by omega
                go_wp2_with fail
                go_ret
                obtain ⟨hM, hN⟩ := unhide HI3
                have e1 := unhide HEA
                have e2 := unhide HEB
                obtain ⟨l1, l2⟩ := unhide HLA
                have HL : acc3.length ≤ la + lb := by have := hM.len; omega
                have HT : ∀ x, In acc3 x ↔ In a x ∨ In b x := fun x => by rw [hM.tell, e1, e2, List.take_length, List.take_length]
                first | exact ⟨_, _, _, rfl, acc3, hN, hM.canon, HT, hM.fits, HL⟩ | exact ⟨_, _, _, acc3, rfl, hN, hM.canon, HT, hM.fits, HL⟩
      · obtain ⟨tA, tB, hM, hN⟩ := unhide HI
        obtain ⟨ga, oa, rfl, -⟩ := tA.cells hka
        obtain ⟨gb, ob, rfl, -⟩ := tB.cells hkb
        have hia : i < a.length := by have := tA.len; omega
        have hjb : j < b.length := by have := tB.len; omega
        obtain ⟨a1, a2⟩ := tA.head hka hN.below
        obtain ⟨b1, b2⟩ := tB.head hkb hN.below
        have hkz : (0 : Int) < (ka : Int) := by omega
        have hkz2 : (0 : Int) < (kb : Int) := by omega
        have hk1 : (1 : Int) ≤ (ka : Int) := by omega
        have hk2 : (1 : Int) ≤ (kb : Int) := by omega
        have hacc : acc.length ≤ 1099511627776 := by have := hM.len; have := unhide HN; have := unhide HLA; omega
        have HXA : Hid (∀ w', Below w.heap.size w w' → w'.cell? ⟨ga, oa, none⟩ = some (.int .i64 (lo a i)) ∧ w'.cell? ⟨ga, oa + 1, none⟩ = some (.int .i64 (hi a i))) := fun w' hb => tA.head hka hb
        have HXB : Hid (∀ w', Below w.heap.size w w' → w'.cell? ⟨gb, ob, none⟩ = some (.int .i64 (lo b j)) ∧ w'.cell? ⟨gb, ob + 1, none⟩ = some (.int .i64 (hi b j))) := fun w' hb => tB.head hkb hb
        have HLa := hide (fun q => layMid (hN.drew q) hM (unhide HC).1.1 (unhide HC).1.2 hia hacc)
        have HLb := hide (fun q => layMid (hN.drew q) hM.swap (unhide HC).2.1 (unhide HC).2.2 hjb hacc)
        have HMA : Hid (lo a i ≤ lo b j → Mid a b (i + 1) j (layM acc (lo a i, hi a i))) := fun hle => hM.layA (unhide HC).1.1 (unhide HC).1.2 hia (unhide HC).2.1 (fun _ => hle)
        have HMB : Hid (lo b j ≤ lo a i → Mid a b i (j + 1) (layM acc (lo b j, hi b j))) := fun hle => (hM.swap.layA (unhide HC).2.1 (unhide HC).2.2 hjb (unhide HC).1.1 (fun _ => hle)).swap
        have HTA := hide (fun p2 c2 (h : ka = 1) => tA.empty (p2 := p2) (c2 := c2) h)
        have HTB := hide (fun p2 c2 (h : kb = 1) => tB.empty (p2 := p2) (c2 := c2) h)
        have HTA2 := hide (tA.next hka)
        have HTB2 := hide (tB.next hkb)
        have HT0 := hide (And.intro tA tB)
        have hcapA := tA.cap
        have hcapB := tB.cap
        clear HI hM hacc hia hjb tA tB hN
        generalize layM acc (lo a i, hi a i) = accA at *
        generalize layM acc (lo b j, hi b j) = accB at *
        generalize lo a i = ya at *
        generalize hi a i = za at *
        generalize lo b j = yb at *
        generalize hi b j = zb at *
        by_cases hle : ya ≤ yb
        · have hM2 := hide (unhide HMA hle)
          have CA : Hid (∀ q, Calls Try.prog 97 #[.slice (some ⟨g, 0, none⟩) n c, .agg #[.int .i64 ya, .int .i64 za]] (wr.drewN q) fun e w' => ∃ g' n' c', e = .returned (.slice (some ⟨g', 0, none⟩) n' c') ∧ (w'.cell? ⟨ga, oa, none⟩ = some (.int .i64 ya) ∧ w'.cell? ⟨ga, oa + 1, none⟩ = some (.int .i64 za)) ∧ Hid (NewI w.heap.size w w' (.slice (some ⟨g', 0, none⟩) n' c') accA)) := fun q => (unhide HLa q).mono fun e w' h => by
            obtain ⟨g', n', c', e1, hh⟩ := h
            exact ⟨g', n', c', e1, unhide HXA w' (unhide hh).below, hh⟩
          clear HLa HLb HXA HXB HMA HMB HTB2 HTB
          by_cases h1 : ca = 1
          · subst h1
            have hka1 : ka = 1 := by omega
            subst hka1
            go_wp2_with fail
            go_quiet (fail)
            go_wp2_with fail
            go_region_held3 (fun w' => w'.cell? ⟨ga, oa, none⟩ = some (.int .i64 ya) ∧ w'.cell? ⟨ga, oa + 1, none⟩ = some (.int .i64 za)) (first | exact ⟨dd1, dd2⟩ | exact ⟨a1, a2⟩ | (go_keep; done)) ((go_at_call 97; refine (unhide CA _).mono ?_; rintro e w' ⟨g', n', c', rfl, ⟨dd1, dd2⟩, hT⟩))
            go_wp2_with fail
            go_roundw
            case rel => exact ⟨_, _, _, _, _, _, _, _, _, i + 1, j, accA, rfl, rfl, rfl, unhide HTA _ _ (by first | exact trivial | rfl), (unhide HT0).2, unhide hM2, unhide hT⟩
            case measure => simp [lenV]
          · have h1z : ¬ ((ca : Int) = 1) := by omega
            go_wp2_with fail
            go_quiet (fail)
            go_wp2_with fail
            go_region_held3 (fun w' => w'.cell? ⟨ga, oa, none⟩ = some (.int .i64 ya) ∧ w'.cell? ⟨ga, oa + 1, none⟩ = some (.int .i64 za)) (first | exact ⟨dd1, dd2⟩ | exact ⟨a1, a2⟩ | (go_keep; done)) ((go_at_call 97; refine (unhide CA _).mono ?_; rintro e w' ⟨g', n', c', rfl, ⟨dd1, dd2⟩, hT⟩))
            go_wp2_with fail
            go_roundw
            case rel => exact ⟨_, _, _, _, _, _, _, _, _, i + 1, j, accA, rfl, rfl, rfl, unhide HTA2, (unhide HT0).2, unhide hM2, unhide hT⟩
            case measure => simp [lenV]; omega
        · have hM2 := hide (unhide HMB (by omega))
          have hle2 : decide (ya ≤ yb) = false := by simpa using hle
          have CA : Hid (∀ q, Calls Try.prog 97 #[.slice (some ⟨g, 0, none⟩) n c, .agg #[.int .i64 yb, .int .i64 zb]] (wr.drewN q) fun e w' => ∃ g' n' c', e = .returned (.slice (some ⟨g', 0, none⟩) n' c') ∧ (w'.cell? ⟨gb, ob, none⟩ = some (.int .i64 yb) ∧ w'.cell? ⟨gb, ob + 1, none⟩ = some (.int .i64 zb)) ∧ Hid (NewI w.heap.size w w' (.slice (some ⟨g', 0, none⟩) n' c') accB)) := fun q => (unhide HLb q).mono fun e w' h => by
            obtain ⟨g', n', c', e1, hh⟩ := h
            exact ⟨g', n', c', e1, unhide HXB w' (unhide hh).below, hh⟩
          clear HLa HLb HXA HXB HMA HMB HTA2 HTA
          by_cases h1 : cb = 1
          · subst h1
            have hkb1 : kb = 1 := by omega
            subst hkb1
            go_wp2_with fail
            go_quiet (fail)
            go_wp2_with fail
            go_region_held3 (fun w' => w'.cell? ⟨gb, ob, none⟩ = some (.int .i64 yb) ∧ w'.cell? ⟨gb, ob + 1, none⟩ = some (.int .i64 zb)) (first | exact ⟨dd1, dd2⟩ | exact ⟨b1, b2⟩ | (go_keep; done)) ((go_at_call 97; refine (unhide CA _).mono ?_; rintro e w' ⟨g', n', c', rfl, ⟨dd1, dd2⟩, hT⟩))
            go_wp2_with fail
            go_roundw
            case rel => exact ⟨_, _, _, _, _, _, _, _, _, i, j + 1, accB, rfl, rfl, rfl, (unhide HT0).1, unhide HTB _ _ (by first | exact trivial | rfl), unhide hM2, unhide hT⟩
            case measure => simp [lenV]
          · have h1z : ¬ ((cb : Int) = 1) := by omega
            go_wp2_with fail
            go_quiet (fail)
            go_wp2_with fail
            go_region_held3 (fun w' => w'.cell? ⟨gb, ob, none⟩ = some (.int .i64 yb) ∧ w'.cell? ⟨gb, ob + 1, none⟩ = some (.int .i64 zb)) (first | exact ⟨dd1, dd2⟩ | exact ⟨b1, b2⟩ | (go_keep; done)) ((go_at_call 97; refine (unhide CA _).mono ?_; rintro e w' ⟨g', n', c', rfl, ⟨dd1, dd2⟩, hT⟩))
            go_wp2_with fail
            go_roundw
            case rel => exact ⟨_, _, _, _, _, _, _, _, _, i, j + 1, accB, rfl, rfl, rfl, (unhide HT0).1, unhide HTB2, unhide hM2, unhide hT⟩
            case measure => simp [lenV]; omega
end Go.Proofs.Ytdalghfhpekcfaa
