/- HeapWrong, whole. -/
import Derived.Test.YtfhpabcjbjmcmaaWrongE
import Derived.Test.YtfhpabcjbjmcmaaAwake
namespace Go.Proofs.Ytfhpabcjbjmcmaa
open Go.RowKit Go.Maps

def RunH [Inhabited EntI] (B : Nat) (w0 : World) (lv : Value) (Inv : Nat → World → Prop) (D : Nat → Prop) (p bi bg ob i : Nat) (wq : World) : Prop :=
  ∃ es n c f gv gl, LMem B w0 lv Inv D p bi bg ob es n c f gv gl wq ∧ LFit es f gl ∧ n ≤ i ∧ c ≤ 60 * i ∧ ∀ j, j < 16 → (gl j).length ≤ i

theorem and15 (K : Int) : ∃ k : Nat, k < 16 ∧ bits BinOp.and IntKind.i64 K 15 = (k : Int) := by
  unfold bits
  simp only
  have h : (BitVec.ofInt IntKind.i64.bits K &&& BitVec.ofInt IntKind.i64.bits 15).toNat < 16 := by
    rw [BitVec.toNat_and]
    have h1 : (BitVec.ofInt IntKind.i64.bits 15).toNat = 15 := by decide
    rw [h1]
    have := Nat.and_le_right (n := (BitVec.ofInt IntKind.i64.bits K).toNat) (m := 15)
    omega
  refine ⟨_, h, ?_⟩
  rw [IntKind.wrap_i64]
  omega

theorem arr_new {W : World} {b : Nat} {t : TypeId} {fa : Array Value} {g : Nat → Value} (h : W.heap[b]? = some (.cells fa t (0, 0))) (hs : fa.size = 16) (hg : ∀ k, k < 16 → fa[k]? = some (g k)) : Arr W b t g := ⟨fa, h, hs, hg⟩

/-- Where the loop begins. -/
theorem startH [Inhabited EntI] {w w1 w2 : World} {a : Option Addr} {L cap : Nat} {z : Nat → Bool} (hz : ∀ j, j < L → ∃ blk off, a = some ⟨blk, off, none⟩ ∧ blk < w.heap.size ∧ w.cell? ⟨blk, off + j, none⟩ = some (.bool (z j)))
    (h1 : HAtI w1 (w.heap.size + 2 + 1) (w.heap.size + 2) (.func (.func 24) #[] #[.pointer (some ⟨w.heap.size + 1, 0, none⟩), .pointer (some ⟨w.heap.size, 0, none⟩)]) (.slice none 0 0) [] 0) (b1 : Below (w.heap.size + 2) ((w.alloc (.cells #[.slice a L cap] 49)).alloc (.cells #[.int .i64 0] 3)) w1) (b2 : Below w1.heap.size w1 w2) :
    RunH w.heap.size w (.func (.func 24) #[] #[.pointer (some ⟨w.heap.size + 1, 0, none⟩), .pointer (some ⟨w.heap.size, 0, none⟩)]) (InvW (w.heap.size + 1) w.heap.size a L cap z) (DW (w.heap.size + 1) w.heap.size a L) (w.heap.size + 2 + 1) w2.heap.size (w2.heap.size + 1) w2.heap.size 0 ((w2.alloc (.cells #[.bool false, .bool false, .bool false, .bool false, .bool false, .bool false, .bool false, .bool false, .bool false, .bool false, .bool false, .bool false, .bool false, .bool false, .bool false, .bool false] 50)).alloc (.cells #[.slice none 0 0, .slice none 0 0, .slice none 0 0, .slice none 0 0, .slice none 0 0, .slice none 0 0, .slice none 0 0, .slice none 0 0, .slice none 0 0, .slice none 0 0, .slice none 0 0, .slice none 0 0, .slice none 0 0, .slice none 0 0, .slice none 0 0, .slice none 0 0] 51)) := by
  have e0 : ((w.alloc (.cells #[.slice a L cap] 49)).alloc (.cells #[.int .i64 0] 3)).heap[w.heap.size]? = some (.cells #[.slice a L cap] 49 (0, 0)) := by
    rw [((Below.refl _ (w.alloc (.cells #[.slice a L cap] 49))).alloc (Nat.le_refl _) _).block w.heap.size (by simp)]
    exact heap_alloc_new w _
  have e1 : ((w.alloc (.cells #[.slice a L cap] 49)).alloc (.cells #[.int .i64 0] 3)).heap[w.heap.size + 1]? = some (.cells #[.int .i64 0] 3 (0, 0)) := by
    have := heap_alloc_new (w.alloc (.cells #[.slice a L cap] 49)) (.cells #[.int .i64 0] 3)
    rwa [show (w.alloc (.cells #[.slice a L cap] 49)).heap.size = w.heap.size + 1 by simp] at this
  have hs1 : ((w.alloc (.cells #[.slice a L cap] 49)).alloc (.cells #[.int .i64 0] 3)).heap.size = w.heap.size + 2 := by simp
  have bw : Below w.heap.size w ((w.alloc (.cells #[.slice a L cap] 49)).alloc (.cells #[.int .i64 0] 3)) := ((Below.refl _ _).alloc (Nat.le_refl _) _).alloc (by simp) _
  have hl1 := h1.lt (k := w.heap.size + 2 + 1) (.inl rfl)
  have hl2 := b2.size
  have b3 : Below w2.heap.size w2 ((w2.alloc (.cells #[.bool false, .bool false, .bool false, .bool false, .bool false, .bool false, .bool false, .bool false, .bool false, .bool false, .bool false, .bool false, .bool false, .bool false, .bool false, .bool false] 50)).alloc (.cells #[.slice none 0 0, .slice none 0 0, .slice none 0 0, .slice none 0 0, .slice none 0 0, .slice none 0 0, .slice none 0 0, .slice none 0 0, .slice none 0 0, .slice none 0 0, .slice none 0 0, .slice none 0 0, .slice none 0 0, .slice none 0 0, .slice none 0 0, .slice none 0 0] 51)) := ((Below.refl _ _).alloc (Nat.le_refl _) _).alloc (by simp) _
  have hs4 : ((w2.alloc (.cells #[.bool false, .bool false, .bool false, .bool false, .bool false, .bool false, .bool false, .bool false, .bool false, .bool false, .bool false, .bool false, .bool false, .bool false, .bool false, .bool false] 50)).alloc (.cells #[.slice none 0 0, .slice none 0 0, .slice none 0 0, .slice none 0 0, .slice none 0 0, .slice none 0 0, .slice none 0 0, .slice none 0 0, .slice none 0 0, .slice none 0 0, .slice none 0 0, .slice none 0 0, .slice none 0 0, .slice none 0 0, .slice none 0 0, .slice none 0 0] 51)).heap.size = w2.heap.size + 2 := by simp
  have k3 : ∀ k, k < w1.heap.size → ((w2.alloc (.cells #[.bool false, .bool false, .bool false, .bool false, .bool false, .bool false, .bool false, .bool false, .bool false, .bool false, .bool false, .bool false, .bool false, .bool false, .bool false, .bool false] 50)).alloc (.cells #[.slice none 0 0, .slice none 0 0, .slice none 0 0, .slice none 0 0, .slice none 0 0, .slice none 0 0, .slice none 0 0, .slice none 0 0, .slice none 0 0, .slice none 0 0, .slice none 0 0, .slice none 0 0, .slice none 0 0, .slice none 0 0, .slice none 0 0, .slice none 0 0] 51)).heap[k]? = w1.heap[k]? := fun k hk => (b3.block k (by omega)).trans (b2.block k hk)
  have n5 : ((w2.alloc (.cells #[.bool false, .bool false, .bool false, .bool false, .bool false, .bool false, .bool false, .bool false, .bool false, .bool false, .bool false, .bool false, .bool false, .bool false, .bool false, .bool false] 50)).alloc (.cells #[.slice none 0 0, .slice none 0 0, .slice none 0 0, .slice none 0 0, .slice none 0 0, .slice none 0 0, .slice none 0 0, .slice none 0 0, .slice none 0 0, .slice none 0 0, .slice none 0 0, .slice none 0 0, .slice none 0 0, .slice none 0 0, .slice none 0 0, .slice none 0 0] 51)).heap[w2.heap.size]? = some (.cells #[.bool false, .bool false, .bool false, .bool false, .bool false, .bool false, .bool false, .bool false, .bool false, .bool false, .bool false, .bool false, .bool false, .bool false, .bool false, .bool false] 50 (0, 0)) := by
    rw [((Below.refl _ (w2.alloc (.cells #[.bool false, .bool false, .bool false, .bool false, .bool false, .bool false, .bool false, .bool false, .bool false, .bool false, .bool false, .bool false, .bool false, .bool false, .bool false, .bool false] 50))).alloc (Nat.le_refl _) _).block w2.heap.size (by simp)]
    exact heap_alloc_new w2 _
  have n6 : ((w2.alloc (.cells #[.bool false, .bool false, .bool false, .bool false, .bool false, .bool false, .bool false, .bool false, .bool false, .bool false, .bool false, .bool false, .bool false, .bool false, .bool false, .bool false] 50)).alloc (.cells #[.slice none 0 0, .slice none 0 0, .slice none 0 0, .slice none 0 0, .slice none 0 0, .slice none 0 0, .slice none 0 0, .slice none 0 0, .slice none 0 0, .slice none 0 0, .slice none 0 0, .slice none 0 0, .slice none 0 0, .slice none 0 0, .slice none 0 0, .slice none 0 0] 51)).heap[w2.heap.size + 1]? = some (.cells #[.slice none 0 0, .slice none 0 0, .slice none 0 0, .slice none 0 0, .slice none 0 0, .slice none 0 0, .slice none 0 0, .slice none 0 0, .slice none 0 0, .slice none 0 0, .slice none 0 0, .slice none 0 0, .slice none 0 0, .slice none 0 0, .slice none 0 0, .slice none 0 0] 51 (0, 0)) := by
    have := heap_alloc_new (w2.alloc (.cells #[.bool false, .bool false, .bool false, .bool false, .bool false, .bool false, .bool false, .bool false, .bool false, .bool false, .bool false, .bool false, .bool false, .bool false, .bool false, .bool false] 50)) (.cells #[.slice none 0 0, .slice none 0 0, .slice none 0 0, .slice none 0 0, .slice none 0 0, .slice none 0 0, .slice none 0 0, .slice none 0 0, .slice none 0 0, .slice none 0 0, .slice none 0 0, .slice none 0 0, .slice none 0 0, .slice none 0 0, .slice none 0 0, .slice none 0 0] 51)
    rwa [show (w2.alloc (.cells #[.bool false, .bool false, .bool false, .bool false, .bool false, .bool false, .bool false, .bool false, .bool false, .bool false, .bool false, .bool false, .bool false, .bool false, .bool false, .bool false] 50)).heap.size = w2.heap.size + 1 by simp] at this
  have hD : ∀ k, (DW (w.heap.size + 1) w.heap.size a L) k → k < w.heap.size + 2 := fun k hk => by
    rcases hk with rfl | rfl | ⟨h0, off, e⟩
    · omega
    · omega
    · obtain ⟨blk, off2, e2, e3, -⟩ := hz 0 h0
      rw [e] at e2
      cases e2
      omega
  refine ⟨[], 0, 0, fun _ => false, fun _ => .slice none 0 0, fun _ => [], ⟨?_, by omega, ⟨_, _, ⟨h1.kept (fun k hk => k3 k (h1.lt hk)), ⟨?_, ?_, fun j hj => ?_⟩, fun k hk hd => ?_⟩, fun k hk => ?_⟩, arr_new n5 rfl (fun k hk => ?_), arr_new n6 rfl (fun k hk => ?_), fun k _ => ⟨by simp [nums], .inl ⟨rfl, rfl⟩⟩, fun k _ b hb => ?_, by omega, ⟨by omega, fun hd => ?_⟩, ⟨by omega, fun hd => ?_⟩, fun hd => ?_, by omega⟩, ⟨fun k _ => ?_, fun x hx => ?_⟩, by omega, by omega, fun j _ => by simp⟩
  · exact bw.trans ((b1.mono (by omega)).trans ((b2.mono (by omega)).trans (b3.mono (by omega))))
  · rw [k3 _ (by omega), b1.block _ (by omega)]
    exact e1
  · rw [k3 _ (by omega), b1.block _ (by omega)]
    exact e0
  · obtain ⟨blk, off, g1, g2, g3⟩ := hz j hj
    refine ⟨blk, off, g1, (cell_of_heap (x := ⟨blk, off + j, none⟩) ?_).trans g3⟩
    show _ = w.heap[blk]?
    rw [k3 blk (by omega), b1.block blk (by omega), bw.block blk g2]
  · have := hD k hd
    rcases hk with hk | hk | hk
    · omega
    · omega
    · simp [Value.ownBlock] at hk
  · rcases hk with hk | hk | hk
    · exact ⟨by omega, by omega, by omega, by omega, fun j _ e => by simp [Value.ownBlock] at e⟩
    · exact ⟨by omega, by omega, by omega, by omega, fun j _ e => by simp [Value.ownBlock] at e⟩
    · simp [Value.ownBlock] at hk
  · match k, hk with
    | 0, _ => rfl
    | 1, _ => rfl
    | 2, _ => rfl
    | 3, _ => rfl
    | 4, _ => rfl
    | 5, _ => rfl
    | 6, _ => rfl
    | 7, _ => rfl
    | 8, _ => rfl
    | 9, _ => rfl
    | 10, _ => rfl
    | 11, _ => rfl
    | 12, _ => rfl
    | 13, _ => rfl
    | 14, _ => rfl
    | 15, _ => rfl
    | n + 16, h => exact absurd h (by omega)
  · match k, hk with
    | 0, _ => rfl
    | 1, _ => rfl
    | 2, _ => rfl
    | 3, _ => rfl
    | 4, _ => rfl
    | 5, _ => rfl
    | 6, _ => rfl
    | 7, _ => rfl
    | 8, _ => rfl
    | 9, _ => rfl
    | 10, _ => rfl
    | 11, _ => rfl
    | 12, _ => rfl
    | 13, _ => rfl
    | 14, _ => rfl
    | 15, _ => rfl
    | n + 16, h => exact absurd h (by omega)
  · simp [Value.ownBlock] at hb
  · have := hD _ hd; omega
  · have := hD _ hd; omega
  · have := hD _ hd; omega
  · exact ⟨fun h => (by cases h), fun ⟨x, hx, _⟩ => (by simp at hx)⟩
  · simp at hx

set_option maxHeartbeats 8000000 in
set_option maxRecDepth 100000 in
theorem wrong_any [Inhabited EntI] [Inhabited EntS] (ab0 : Option Addr) (len cp : Nat) (o : Nat → Int × Int × Int) (a : Option Addr) (L cap : Nat) (z : Nat → Bool) (w : World)
    (HO : Hid (∀ i, i < len → ∃ blk off, ab0 = some ⟨blk, off, none⟩ ∧ blk < w.heap.size ∧ w.cell? ⟨blk, off + i * 3, none⟩ = some (.int .i64 (o i).1) ∧ w.cell? ⟨blk, off + i * 3 + 1, none⟩ = some (.int .i64 (o i).2.1) ∧ w.cell? ⟨blk, off + i * 3 + 2, none⟩ = some (.int .i64 (o i).2.2)))
    (HZ : Hid (∀ j, j < L → ∃ blk off, a = some ⟨blk, off, none⟩ ∧ blk < w.heap.size ∧ w.cell? ⟨blk, off + j, none⟩ = some (.bool (z j)))) :
    Calls Try.prog 7 #[.slice ab0 len cp, .slice a L cap] w fun e w' => e = .returned (.bool true) ∧ Below w.heap.size w w' := by
  have hblk : ∀ blk off, a = some ⟨blk, off, none⟩ → 0 < L → blk < w.heap.size := fun blk off e h0 => by
    obtain ⟨b2, o2, e2, e3, -⟩ := unhide HZ 0 h0
    rw [e] at e2
    cases e2
    exact e3
  have HE := hide (env_wrong (w.heap.size + 1) w.heap.size a L cap z (by omega) (fun blk off e h0 => by have := hblk blk off e h0; omega))
  have HB0 := hide hblk
  clear hblk
  go_enter Try.func7, Try.ntmps7
  go_upto_region 2 with fail
  have hs2 : ((w.alloc (.cells #[.slice a L cap] 49)).alloc (.cells #[.int .i64 0] 3)).heap.size = w.heap.size + 2 := by simp
  have CN := newI 24 #[.pointer (some ⟨w.heap.size + 1, 0, none⟩), .pointer (some ⟨w.heap.size, 0, none⟩)] ((w.alloc (.cells #[.slice a L cap] 49)).alloc (.cells #[.int .i64 0] 3))
  rw [hs2] at CN
  have HCN := hide CN
  have HS0 : Hid (∀ w1 w2, HAtI w1 (w.heap.size + 2 + 1) (w.heap.size + 2) (.func (.func 24) #[] #[.pointer (some ⟨w.heap.size + 1, 0, none⟩), .pointer (some ⟨w.heap.size, 0, none⟩)]) (.slice none 0 0) [] 0 → Below (w.heap.size + 2) ((w.alloc (.cells #[.slice a L cap] 49)).alloc (.cells #[.int .i64 0] 3)) w1 → Below w1.heap.size w1 w2 → _) := fun w1 w2 h1 h2 h3 => startH (unhide HZ) h1 h2 h3
  clear CN hs2
  go_wp2_with fail
  refine (unhide HCN).mono ?_
  rintro e w1 ⟨rfl, h1⟩
  go_wp2_with fail
  refine (awake_any w1).mono ?_
  rintro e w2 ⟨rfl, h2⟩
  have HR0 := hide (unhide HS0 w1 w2 (unhide h1).1 (unhide h1).2 h2)
  clear HS0 HCN h1 h2
  go_upto_region 7 with fail
  have HA : Hid (∀ k, (fun k => k = w.heap.size + 1) k → w.heap.size ≤ k) := fun k hk => by (have hk2 : k = w.heap.size + 1 := hk); omega
  generalize ((w2.alloc (.cells #[.bool false, .bool false, .bool false, .bool false, .bool false, .bool false, .bool false, .bool false, .bool false, .bool false, .bool false, .bool false, .bool false, .bool false, .bool false, .bool false] 50)).alloc (.cells #[.slice none 0 0, .slice none 0 0, .slice none 0 0, .slice none 0 0, .slice none 0 0, .slice none 0 0, .slice none 0 0, .slice none 0 0, .slice none 0 0, .slice none 0 0, .slice none 0 0, .slice none 0 0, .slice none 0 0, .slice none 0 0, .slice none 0 0, .slice none 0 0] 51)) = W0 at *
  generalize (Value.func (.func 24) #[] #[.pointer (some ⟨w.heap.size + 1, 0, none⟩), .pointer (some ⟨w.heap.size, 0, none⟩)]) = lv at *
  generalize (InvW (w.heap.size + 1) w.heap.size a L cap z) = Inv at *
  generalize (DW (w.heap.size + 1) w.heap.size a L) = D at *
  generalize (fun k => k = w.heap.size + 1) = A at *
  obtain ⟨bg, hbg⟩ : ∃ bg, bg = w2.heap.size + 1 := ⟨_, rfl⟩
  rw [← hbg] at HR0 ⊢
  clear hbg
  obtain ⟨bi, hbi⟩ : ∃ bi, bi = w2.heap.size := ⟨_, rfl⟩
  rw [← hbi] at HR0 ⊢
  clear hbi
  obtain ⟨p, hp⟩ : ∃ p, p = w.heap.size + 2 + 1 := ⟨_, rfl⟩
  rw [← hp] at HR0 ⊢
  clear hp HB0
  go_wp2_with fail
  go_loopw [9] (fun s9 wr => ∃ i ob : Nat, i ≤ len ∧ i ≤ 400 ∧ s9 = .int .i64 i ∧ Hid (RunH w.heap.size w lv Inv D p bi bg ob i wr)) (fun s9 _ => 400 - (intOf s9).toNat)
  case atStart => exact ⟨0, bi, Nat.zero_le _, by omega, rfl, unhide HR0⟩
  case round =>
    obtain ⟨i, ob0, hil, hi4, rfl, HR⟩ := hrel
    by_cases hlt : i < len ∧ i < 400
    · obtain ⟨h1, h2⟩ := hlt
      have h1z : (i : Int) < (len : Int) := by omega
      have h2z : (i : Int) < 400 := by omega
      obtain ⟨es, n, c, f, gv, gl, hM, hF, hn, hc, hl⟩ := unhide HR
      obtain ⟨blk, off, rfl, hblk, c0, c1, c2⟩ := unhide HO i h1
      have e0 : wr.cell? ⟨blk, off + i * 3, none⟩ = _ := (hM.below.cell (by exact hblk)).trans c0
      have e1 : wr.cell? ⟨blk, off + i * 3 + 1, none⟩ = _ := (hM.below.cell (by exact hblk)).trans c1
      have e2 : wr.cell? ⟨blk, off + i * 3 + 2, none⟩ = _ := (hM.below.cell (by exact hblk)).trans c2
      clear c0 c1 c2 hblk
      generalize o i = oi at *
      obtain ⟨kd, K, r⟩ := oi
      dsimp only at e0 e1 e2
      have HM1 : Hid (LMem w.heap.size w lv Inv D p bi bg wr.heap.size es n c f gv gl (wr.alloc (.cells #[.int .i64 kd, .int .i64 K, .int .i64 r] 31)) ∧ (wr.alloc (.cells #[.int .i64 kd, .int .i64 K, .int .i64 r] 31)).heap[wr.heap.size]? = some (.cells #[.int .i64 kd, .int .i64 K, .int .i64 r] 31 (0, 0)) ∧ wr.heap.size ≠ bi ∧ wr.heap.size ≠ bg) := ⟨hM.box (unhide HE) _, heap_alloc_new _ _, by have := hM.ins.lt; omega, by have := hM.gave.lt; omega⟩
      have HF := hide (And.intro hF (And.intro hn (And.intro hc hl)))
      clear hM hF hn hc hl HR
      go_upto_region 11 with fail
      clear e0 e1 e2
      obtain ⟨ob, hob⟩ : ∃ ob, ob = wr.heap.size := ⟨_, rfl⟩
      rw [← hob] at HM1 ⊢
      clear hob
      generalize (wr.alloc (.cells #[.int .i64 kd, .int .i64 K, .int .i64 r] 31)) = W1 at *
      have q1 : W1.cell? ⟨ob, 1, none⟩ = some (.int .i64 K) := (cell_of_row _ _ 1 _ 31 (0, 0) (unhide HM1).2.1).trans rfl
      obtain ⟨k, hk16, hand⟩ := and15 K
      go_cut [11] from 40 to 42 (fun s11 wq => s11 = .int .i64 (k : Int) ∧ wq = W1)
      case first =>
        go_wp2_with fail
        go_meet
        case rel => exact ⟨rfl, rfl⟩
      case rest =>
        obtain ⟨rfl, hwq⟩ := hcut
        subst hwq
        clear hand q1
        go_step
        go_step
        go_cut [12, 13, 14] from 43 to 131 (fun s12 s13 s14 wq => Hid (AfterH w.heap.size w lv Inv D p bi bg ob i wq))
        case first =>
          have HSW : Hid (SwH w.heap.size w lv Inv A D p bi bg ob es n c f gv gl wc kd K r k i) := ⟨(unhide HM1).1, (unhide HF).1, unhide HE, unhide HA, (unhide HM1).2.1, hk16, (unhide HF).2.1, (unhide HF).2.2.1, (unhide HF).2.2.2, h2, (unhide HM1).2.2⟩
          refine hSwitch _ _ _ _ _ _ _ _ _ _ _ _ _ _ _ _ _ _ _ _ _ _ _ _ _ _ _ _ _ _ _ _ _ _ _ _ _ _ _ _ _ _ _ _ _ _ _ _ _ _ _ _ _ _ _ _ _ _ _ _ _ _ _ _ _ _ _ _ _ _ _ _ _ _ _ _ _ _ _ _ _ _ _ _ _ _ _ _ _ _ _ _ _ _ _ _ _ _ _ _ _ _ _ _ _ _ _ _ _ _ _ _ _ _ _ _ _ _ _ _ _ _ _ _ _ _ _ _ _ _ _ _ _ _ _ _ _ _ _ _ HSW ?_
          intro b12 b13 b14 b43 b44 b45 b46 b47 b48 b49 b50 b51 b52 b53 b54 b55 b56 b57 b58 b59 b60 b61 b62 b63 b64 b65 b66 b67 b68 b69 b70 b71 b72 b73 b74 b75 b76 b77 b78 b79 b80 b81 b82 b83 b84 b85 b86 b87 b88 b89 b90 b91 b92 b93 b94 b95 b96 b97 b98 b99 b100 b101 b102 b103 b104 b105 b106 b107 b108 b109 b110 b111 b112 b113 b114 b115 b116 b117 b118 b119 b120 b121 b122 b123 b124 b125 b126 b127 b128 b129 b130 b131 wq hA
          go_wp2_with fail
          go_meet
          case rel => exact hA
        case rest =>
          have HAF := hcut
          go_step
          refine hTail _ _ _ _ _ _ _ _ _ _ _ _ _ _ _ _ _ _ _ _ _ _ _ _ _ _ _ _ _ _ _ _ _ _ _ _ _ _ _ _ _ _ _ _ _ _ _ _ _ _ _ _ _ _ _ _ _ _ _ _ _ _ _ _ _ _ _ _ _ _ _ _ _ _ _ _ _ _ _ _ _ _ _ _ _ _ _ _ _ _ _ _ _ _ _ _ _ _ _ _ _ _ _ _ _ _ _ _ _ _ _ _ _ _ _ _ _ _ _ _ _ _ _ _ _ _ _ _ _ _ _ _ _ _ _ _ _ _ _ _ _ _ _ HAF ?_
          intro b15 b17 b132 b133 b134 b135 b136 b137 b138 b139 b140 b141 b142 b143 wq hA
          have HA2 := hide hA
          clear hA
          go_wp2_with fail
          go_roundw
          case rel => exact ⟨i + 1, ob, by omega, by omega, by go_num, unhide HA2⟩
          case measure => first | (simp [intOf]; done) | (simp [intOf]; omega)
    · have HEND : Hid (Below w.heap.size w wr) := by
        obtain ⟨es, n, c, f, gv, gl, hM, -⟩ := unhide HR
        exact hM.below
      clear HR
      by_cases h1 : i < len
      · have h1z : (i : Int) < (len : Int) := by omega
        have h2z : ¬ (i : Int) < 400 := by omega
        go_wp2_with fail
        go_ret
        exact ⟨rfl, unhide HEND⟩
      · have h1z : ¬ (i : Int) < (len : Int) := by omega
        go_wp2_with fail
        go_ret
        exact ⟨rfl, unhide HEND⟩
end Go.Proofs.Ytfhpabcjbjmcmaa
