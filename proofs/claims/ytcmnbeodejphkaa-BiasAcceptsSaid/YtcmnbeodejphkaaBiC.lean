/- BiasAccepts's law. -/
import Derived.Test.YtcmnbeodejphkaaBiA
namespace Go.Proofs.Ytcmnbeodejphkaa
open Go.RowKit

set_option maxRecDepth 100000 in
set_option maxHeartbeats 4000000 in
theorem biasAccepts_law (p q : Nat) (b n : Bool) (u : Nat) (w : World) (hp : p < 4294967296) (hq : q < 4294967296) :
    Calls Try.prog 4 #[.int .u32 (p : Int), .int .u32 (q : Int), .bool b, .bool n, .int .u64 (u : Int)] w fun e w' => e = .returned (.bool true) ∧ w' = w := by
  obtain ⟨x, hx⟩ : ∃ x, wt p q b n = x := ⟨_, rfl⟩
  obtain ⟨y, hy⟩ : ∃ y, decide (u < x) = y := ⟨_, rfl⟩
  have H1 := Lib.hid (accepts_any p q u b n y w hp hq (by rw [hx]; exact hy))
  have H2 := Lib.hid (refweight_any p q x b n w hp hq hx)
  have H3 := Lib.hid (awake18_any w)
  clear hx
  go_enter Try.func4, Try.ntmps4
  go_wp2_with fail
  refine H1.out.mono ?_
  rintro e w ⟨rfl, rfl⟩
  go_wp2_with fail
  refine H2.out.mono ?_
  rintro e w ⟨rfl, rfl⟩
  go_wp2_with fail
  refine H3.out.mono ?_
  rintro e w ⟨rfl, rfl⟩
  go_wp2
  go_ret
  exact ⟨rfl, rfl⟩
end Go.Proofs.Ytcmnbeodejphkaa
