/- A section's head, the program's. -/
import Derived.Test.YtgnghalcihoaaaaSec
import Derived.Test.YtgnghalcihoaaaaCat
namespace Go.Proofs.Ytgnghalcihoaaaa
open Go.RowKit Cr Me Fr

theorem lit_head (k : UInt8) (n : Nat) (hn : n ≤ 1048576) : (#[.int .u8 (k.toNat : Int), .int .u8 ((n : Int) % 256), .int .u8 ((n : Int) / 256 % 256), .int .u8 ((n : Int) / 65536), .int .u8 ((n : Int) / 16777216)] : Array Value).toList = cellsOf (head k n) := by
  have e : (BitVec.ofNat 32 n).toNat = n := by rw [BitVec.toNat_ofNat]; omega
  have h := lit_four (BitVec.ofNat 32 n)
  rw [e, show (n : Int) / 65536 % 256 = (n : Int) / 65536 by omega] at h
  show _ = Value.int .u8 (k.toNat : Int) :: cellsOf (four (BitVec.ofNat 32 n))
  rw [← h]
set_option maxRecDepth 100000 in
set_option maxHeartbeats 400000 in
theorem headOf_any (k : UInt8) (A : Option Addr) (n c : Nat) (w : World) (hn : n ≤ 1048576) :
    Calls Try.prog 83 #[.agg #[.int .u8 (k.toNat : Int), .slice A n c]] w (News w (head k n)) := by
  have hk := k.toNat_lt
  go_enter Try.func83, Try.ntmps83
  go_wp2
  go_ret
  have hw : (w.alloc (.cells #[.int .u8 (k.toNat : Int), .slice A n c] 68)).heap.size = w.heap.size + 1 := by simp
  have ho := World.ownsRow_lit (base := w.heap.size) (e := 5) (size := 1) (w.alloc (.cells #[.int .u8 (k.toNat : Int), .slice A n c] 68)) #[.int .u8 (k.toNat : Int), .int .u8 ((n : Int) % 256), .int .u8 ((n : Int) / 256 % 256), .int .u8 ((n : Int) / 65536), .int .u8 ((n : Int) / 16777216)] 5 (by simp) (by unfold maxLen; omega) rfl
  rw [lit_head k n hn, hw] at ho
  exact ⟨_, 5, rfl, ho, ((Below.refl _ _).alloc (Nat.le_refl _) _).alloc (by simp) _⟩
end Go.Proofs.Ytgnghalcihoaaaa
