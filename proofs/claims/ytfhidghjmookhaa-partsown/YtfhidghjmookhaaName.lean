/- name: a text of one byte. -/
import Derived.Test.YtfhidghjmookhaaLiveZ
namespace Go.Proofs.Ytfhidghjmookhaa
open Go.RowKit Go.Maps

def nb (k : Int) : UInt8 := UInt8.ofNat ((wrap64 (97 + bits BinOp.and IntKind.i64 k 7) % 256).toNat)
def nm (k : Int) : List UInt8 := [nb k]
theorem ok_nm (k : Int) : okZ (nm k) := by show (1 : Nat) ≤ maxLen; unfold maxLen; omega
theorem nb_int (k : Int) : wrap64 (97 + bits BinOp.and IntKind.i64 k 7) % 256 = ((nb k).toNat : Int) := by
  unfold nb
  generalize wrap64 (97 + bits BinOp.and IntKind.i64 k 7) = x
  simp
  omega

theorem conv1 (w : World) (c : UInt8) : (convert 79 9 (.slice (some ⟨w.heap.size, 0, none⟩) 1 1)).run Try.prog (w.alloc (.cells #[.int .u8 (c.toNat : Int)] 5)) = .ok (encStr [c]) (w.alloc (.cells #[.int .u8 (c.toNat : Int)] 5)) :=
  run_convert_bytes_back (P := Try.prog) _ 79 9 5 ⟨w.heap.size, 0, none⟩ 1 [c] (by kernel_rfl) (by kernel_rfl) (by kernel_rfl) (fun j hj => by
    obtain rfl : j = 0 := by simpa using hj
    rw [show (⟨w.heap.size, 0, none⟩ : Addr).add 0 = ⟨w.heap.size, 0, none⟩ by unfold Addr.add; split <;> simp_all, World.cell?_alloc_at _ _ _ _ (by simp)]
    rfl)

set_option maxHeartbeats 2000000 in
set_option maxRecDepth 100000 in
theorem name_any (k : Int) (w : World) : Calls Try.prog 22 #[.int .i64 k] w fun e w' => e = .returned (encStr (nm k)) ∧ Below w.heap.size w w' := by
  have hc := conv1 w (nb k)
  rw [← nb_int k] at hc
  go_enter Try.func22, Try.ntmps22
  go_wp2_with fail
  go_ret
  exact ⟨rfl, (Below.refl _ _).alloc (Nat.le_refl _) _⟩
end Go.Proofs.Ytfhidghjmookhaa
