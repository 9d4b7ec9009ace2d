/- The document's example; how a law's arguments are opened. -/
import Derived.Test.YteonfodeddaoiaaRefFits
import Derived.Test.YteonfodeddaoiaaLaw
import Derived.Lib.SlBytesConst
namespace Go.Proofs.Yteonfodeddaoiaa
open Go.RowKit Cr Me

def nine : List UInt8 := [49, 50, 51, 52, 53, 54, 55, 56, 57]
theorem nine_sum : crc nine = 3421780262#32 := by decide +kernel
set_option maxHeartbeats 400000 in
theorem awake_any (w : World) :
    Calls Try.prog 7 #[] w fun e w' => e = .returned (.bool true) ∧ Below w.heap.size w w' := by
  have hcv := Lib.run_convert_bytes_const (P := Try.prog) w 22 5 #[.int .u8 49, .int .u8 50, .int .u8 51, .int .u8 52, .int .u8 53, .int .u8 54, .int .u8 55, .int .u8 56, .int .u8 57] 9 9 Try.underlying22 Try.underlying5
  have hrd : Rd (w.alloc (.cells #[.int .u8 49, .int .u8 50, .int .u8 51, .int .u8 52, .int .u8 53, .int .u8 54, .int .u8 55, .int .u8 56, .int .u8 57] 5 (9, 10))) (w.heap.size + 1) (some ⟨w.heap.size, 0, none⟩) nine := by
    have := Rd.of_block (l := nine) (heap_alloc_new w (.cells #[.int .u8 49, .int .u8 50, .int .u8 51, .int .u8 52, .int .u8 53, .int .u8 54, .int .u8 55, .int .u8 56, .int .u8 57] 5 (9, 10))) (fun i u hu => by
      have := cellsOf_get hu
      rw [show (#[.int .u8 49, .int .u8 50, .int .u8 51, .int .u8 52, .int .u8 53, .int .u8 54, .int .u8 55, .int .u8 56, .int .u8 57] : Array Value) = (cellsOf nine).toArray from rfl]
      simpa using this)
    rwa [World.size_alloc] at this
  have hp := Lib.hid (parts_one (m := 9) (c := 9) 22 rfl (by omega) (by simp) hrd (World.size_alloc _ _))
  clear hrd
  go_enter Try.func7, Try.ntmps7
  go_wp2_with fail
  refine (sum_any _ 1 1 [nine] _ rfl (by omega) hp.out).mono ?_
  rintro e w1 ⟨rfl, hb⟩
  rw [show crc [nine].flatten = 3421780262#32 from nine_sum]
  have HB := Lib.hid (((Below.refl _ _).alloc (Nat.le_refl _) _).alloc (by simp) _ |>.trans (hb.mono (by simp; omega)) : Below w.heap.size w w1)
  clear hb hp hcv
  go_wp2
  go_ret
  exact ⟨rfl, HB.out⟩
end Go.Proofs.Yteonfodeddaoiaa
