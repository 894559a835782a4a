/- A table's calls that change it: Set, Drop, Put, New. -/
import Derived.Test.YtkdlhnfagghppaaActZ
namespace Go.Proofs.Ytkdlhnfagghppaa
open Go.RowKit Go.Maps


set_option maxHeartbeats 1000000 in
set_option maxRecDepth 100000 in
theorem dropNoZ [Inhabited EntI] {t hp : Nat} {v : Value} {most : Int} {ps : List (ByteArray × Bool)} {ms : List EntI} {n : Nat} {G : Nat → Prop} (k : Int) (w : World) (h : TAtZ w t hp v most ps ms n G) (hk : ∀ (i : Nat) a, k = (i : Int) + 1 → ps[i]? ≠ some (a, true)) :
    Calls Try.prog 27 #[.pointer (some ⟨t, 0, none⟩), .int .i64 k] w fun e w' => e = .returned (.tuple #[.string ByteArray.empty, .bool false]) ∧ w' = w := by
  have CT := hide (atNoZ k w h hk)
  clear h hk
  go_enter Try.func27, Try.ntmps27
  go_wp2_with fail
  refine (unhide CT).mono ?_
  rintro e w2 ⟨rfl, rfl⟩
  clear CT
  go_wp2_with fail
  go_ret2
  exact ⟨rfl, rfl⟩

set_option maxHeartbeats 1000000 in
set_option maxRecDepth 100000 in
theorem dropYesZ [Inhabited EntI] {t hp : Nat} {v : Value} {most : Int} {ps : List (ByteArray × Bool)} {ms : List EntI} {n : Nat} {G : Nat → Prop} {a : ByteArray} (i : Nat) (w : World) (h : TAtZ w t hp v most ps ms n G) (hi : ps[i]? = some (a, true)) (hn : n ≤ 1000000000) :
    Calls Try.prog 27 #[.pointer (some ⟨t, 0, none⟩), .int .i64 ((i : Int) + 1)] w fun e w' => e = .returned (.tuple #[.string (a), .bool true]) ∧ Hid (ThenZ w w' t hp v most (ps.set i (ByteArray.empty, false)) n G) := by
  have CT := hide (atYesZ i w h hi)
  obtain ⟨-, c1, c2, -⟩ := h.cells
  have hil := lt_of_at hi
  obtain ⟨g, c, rfl, hgt, df, hc⟩ := h.some_ (by omega)
  have d1 := (hc i a true hi).1
  have d2 := (hc i a true hi).2
  have hl := h.len
  have ht := h.top
  obtain ⟨r1, T1⟩ := h.raw.store i ByteArray.empty false
  have CP := hide (r1.on.push ((i : Int) + 1) ((i : Int) + 1) (key_fit i (by omega)) (frees_not h.fr (fun b e => by rw [hi] at e; cases e)) (by have := h.fr.cnt; omega) (by omega))
  have e2 := r1.cells.2.2
  have HF : Hid (∀ w2 G2, OnI w2 hp G2 (ms ++ [⟨(i : Int) + 1, (i : Int) + 1, n⟩]) (n + 1) → Turned G ((w.setCell ⟨g, i * 2, none⟩ (.string ByteArray.empty)).setCell ⟨g, i * 2 + 1, none⟩ (.bool false)) w2 → (∀ j, G2 j → G j ∨ ((w.setCell ⟨g, i * 2, none⟩ (.string ByteArray.empty)).setCell ⟨g, i * 2 + 1, none⟩ (.bool false)).heap.size ≤ j) → ThenZ w w2 t hp (.slice (some ⟨g, 0, none⟩) ps.length c) most (ps.set i (ByteArray.empty, false)) n G) := fun w2 G2 o1 o2 o3 => by
    obtain ⟨r2, T2, S2⟩ := r1.heap o1 o2 o3
    exact ⟨_, _, _, _, by omega, r2.full (frees_free h.fr hi _ n), T1.trans T2, fun j hj => (S2 j hj).imp id (fun e => by simpa using e)⟩
  have gtg : ¬ t = g := fun e => hgt e.symm
  generalize ps.length = L at *
  have h3 : (i : Int) < (L : Int) := by omega
  have h4 : (L : Int) ≤ 65536 := by omega
  clear h hc hi hl ht hil r1 T1
  go_enter Try.func27, Try.ntmps27
  go_wp2_with fail
  refine (unhide CT).mono ?_
  rintro e w1 ⟨rfl, rfl⟩
  clear CT
  go_wp2_with fail
  refine (unhide CP).mono ?_
  rintro e w2 ⟨rfl, G2, o1, o2, o3⟩
  have HT := hide (unhide HF w2 G2 o1 o2 o3)
  clear CP HF o1 o2 o3
  go_wp2_with fail
  go_ret2
  exact ⟨rfl, unhide HT⟩

set_option maxHeartbeats 1000000 in
set_option maxRecDepth 100000 in
theorem putNoZ [Inhabited EntI] {t hp : Nat} {v : Value} {most : Int} {ps : List (ByteArray × Bool)} {ms : List EntI} {n : Nat} {G : Nat → Prop} (x : ByteArray) (w : World) (h : TAtZ w t hp v most ps ms n G) (hf : ∀ r, FreeIs ps most r → r = 0) :
    Calls Try.prog 22 #[.pointer (some ⟨t, 0, none⟩), .string (x)] w fun e w' => e = .returned (.tuple #[.int .i64 0, .bool false]) ∧ ∃ q, w' = w.drewN q := by
  have CF := hide (freeZ w h)
  have CP : Hid (∀ q, Calls Try.prog 29 #[.pointer (some ⟨t, 0, none⟩), .int .i64 0, .string (x)] (w.drewN q) fun e w' => e = .returned (.bool false) ∧ w' = w.drewN q) := fun q => putAtNoZ 0 x _ (h.kept (fun _ _ => rfl)) (.inl (by omega))
  have HZ := hide hf
  clear h hf
  go_enter Try.func22, Try.ntmps22
  go_wp2_with fail
  refine (unhide CF).mono ?_
  rintro e w2 ⟨r, rfl, h2⟩
  obtain ⟨hr, q, rfl⟩ := unhide h2
  obtain rfl := unhide HZ r hr
  clear CF h2 hr
  go_wp2_with fail
  refine (unhide CP q).mono ?_
  rintro e w3 ⟨rfl, rfl⟩
  clear CP
  go_wp2_with fail
  go_ret2
  exact ⟨rfl, q, rfl⟩

set_option maxHeartbeats 1000000 in
set_option maxRecDepth 100000 in
theorem putYesZ [Inhabited EntI] {t hp : Nat} {v : Value} {most : Int} {ps : List (ByteArray × Bool)} {ms : List EntI} {n : Nat} {G : Nat → Prop} (i : Nat) (x : ByteArray) (w : World) (h : TAtZ w t hp v most ps ms n G) (hf : ∀ r, FreeIs ps most r → r = (i : Int) + 1) (hi : (i : Int) < most) (hk : ∀ a, ps[i]? ≠ some (a, true)) (hn : n ≤ 1000000000) :
    Calls Try.prog 22 #[.pointer (some ⟨t, 0, none⟩), .string (x)] w fun e w' => e = .returned (.tuple #[.int .i64 ((i : Int) + 1), .bool true]) ∧ Hid (ThenZ w w' t hp v most ((groZ ps (i + 1)).set i (x, true)) n G) := by
  have CF := hide (freeZ w h)
  have CP : Hid (∀ q, Calls Try.prog 29 #[.pointer (some ⟨t, 0, none⟩), .int .i64 ((i : Int) + 1), .string (x)] (w.drewN q) fun e w' => e = .returned (.bool true) ∧ Hid (ThenZ (w.drewN q) w' t hp v most ((groZ ps (i + 1)).set i (x, true)) n G)) := fun q => putAtYesZ i x _ (h.kept (fun _ _ => rfl)) hi hk hn
  have HZ := hide hf
  clear h hf hi hk hn
  go_enter Try.func22, Try.ntmps22
  go_wp2_with fail
  refine (unhide CF).mono ?_
  rintro e w2 ⟨r, rfl, h2⟩
  obtain ⟨hr, q, rfl⟩ := unhide h2
  obtain rfl := unhide HZ r hr
  clear CF h2 hr
  go_wp2_with fail
  refine (unhide CP q).mono ?_
  rintro e w3 ⟨rfl, h3⟩
  have HT : Hid (ThenZ w w3 t hp v most ((groZ ps (i + 1)).set i (x, true)) n G) := by
    obtain ⟨v', ms', n', G', q1, q2, q3, q4⟩ := unhide h3
    exact ⟨v', ms', n', G', q1, q2, ⟨q3.os, q3.tape, q3.output, q3.size, q3.block⟩, q4⟩
  clear CP h3
  go_wp2_with fail
  go_ret2
  exact ⟨rfl, unhide HT⟩




set_option maxHeartbeats 1000000 in
set_option maxRecDepth 100000 in
theorem newZ [Inhabited EntI] (m : Int) (w : World) :
    Calls Try.prog 21 #[.int .i64 m] w fun e w' => ∃ t hp G, e = .returned (.pointer (some ⟨t, 0, none⟩)) ∧ Hid (Below w.heap.size w w' ∧ TAtZ w' t hp (.slice none 0 0) (clamp m) [] [] 0 G ∧ ∀ j, Feet t (.slice none 0 0) G j → w.heap.size ≤ j) := by
  have CN := hide (newOnI 26 w less26)
  have HF : Hid (∀ w2 p, Below w.heap.size w w2 ∧ (∃ F, OnI w2 p F [] 0 ∧ ∀ j, F j → w.heap.size ≤ j) → ∃ hp G, Below w.heap.size w (w2.alloc (.cells #[.int .i64 (clamp m), .slice none 0 0, .pointer (some ⟨p, 0, none⟩)] 75)) ∧ TAtZ (w2.alloc (.cells #[.int .i64 (clamp m), .slice none 0 0, .pointer (some ⟨p, 0, none⟩)] 75)) w2.heap.size hp (.slice none 0 0) (clamp m) [] [] 0 G ∧ ∀ j, Feet w2.heap.size (.slice none 0 0) G j → w.heap.size ≤ j) := by
    rintro w2 p ⟨hb, F, h1, h2⟩
    have hb2 : Below w2.heap.size w2 (w2.alloc (.cells #[.int .i64 (clamp m), .slice none 0 0, .pointer (some ⟨p, 0, none⟩)] 75)) := (Below.refl _ _).alloc (Nat.le_refl _) _
    refine ⟨p, F, hb.trans (hb2.mono hb.size), ⟨heap_alloc_new _ _, ⟨rfl, .inl ⟨rfl, rfl⟩⟩, h1.kept (fun k hk => hb2.block k (h1.lt hk)), frees_nil, fun e => ?_, by simp [Value.ownBlock], by simp [Value.ownBlock], ?_, ?_⟩, fun j hj => ?_⟩
    · have := h1.lt e; omega
    · unfold clamp; simp; omega
    · unfold clamp; omega
    · rcases hj with rfl | hj | hj
      · exact hb.size
      · simp [Value.ownBlock] at hj
      · exact h2 j hj
  go_enter Try.func21, Try.ntmps21
  by_cases h1 : m < 0
  · have hc : clamp m = 0 := by unfold clamp; omega
    rw [hc] at HF
    have HC := hide hc
    clear hc
    go_wp2_with fail
    refine (unhide CN).mono ?_
    rintro e w2 ⟨rfl, hb, ho⟩
    have HG := hide (unhide HF w2 _ ⟨hb, ho⟩)
    clear CN HF hb ho
    go_wp2_with fail
    go_ret
    obtain ⟨hp, G, q⟩ := unhide HG
    exact ⟨_, hp, G, rfl, by rw [unhide HC]; exact q⟩
  · by_cases h2 : m < 65536
    · have hc : clamp m = m := by unfold clamp; omega
      rw [hc] at HF
      have HC := hide hc
      clear hc
      rcases Int.lt_trichotomy 0 m with h3 | h3 | h3
      · go_wp2_with fail
        refine (unhide CN).mono ?_
        rintro e w2 ⟨rfl, hb, ho⟩
        have HG := hide (unhide HF w2 _ ⟨hb, ho⟩)
        clear CN HF hb ho
        go_wp2_with fail
        go_ret
        obtain ⟨hp, G, q⟩ := unhide HG
        exact ⟨_, hp, G, rfl, by rw [unhide HC]; exact q⟩
      · subst h3
        go_wp2_with fail
        refine (unhide CN).mono ?_
        rintro e w2 ⟨rfl, hb, ho⟩
        have HG := hide (unhide HF w2 _ ⟨hb, ho⟩)
        clear CN HF hb ho
        go_wp2_with fail
        go_ret
        obtain ⟨hp, G, q⟩ := unhide HG
        exact ⟨_, hp, G, rfl, by rw [unhide HC]; exact q⟩
      · omega
    · have hc : clamp m = 65536 := by unfold clamp; omega
      rw [hc] at HF
      have HC := hide hc
      clear hc
      have h0 : (0 : Int) < m := by omega
      rcases Int.lt_trichotomy 65536 m with h3 | h3 | h3
      · go_wp2_with fail
        refine (unhide CN).mono ?_
        rintro e w2 ⟨rfl, hb, ho⟩
        have HG := hide (unhide HF w2 _ ⟨hb, ho⟩)
        clear CN HF hb ho
        go_wp2_with fail
        go_ret
        obtain ⟨hp, G, q⟩ := unhide HG
        exact ⟨_, hp, G, rfl, by rw [unhide HC]; exact q⟩
      · subst h3
        go_wp2_with fail
        refine (unhide CN).mono ?_
        rintro e w2 ⟨rfl, hb, ho⟩
        have HG := hide (unhide HF w2 _ ⟨hb, ho⟩)
        clear CN HF hb ho
        go_wp2_with fail
        go_ret
        obtain ⟨hp, G, q⟩ := unhide HG
        exact ⟨_, hp, G, rfl, by rw [unhide HC]; exact q⟩
      · omega
end Go.Proofs.Ytkdlhnfagghppaa
