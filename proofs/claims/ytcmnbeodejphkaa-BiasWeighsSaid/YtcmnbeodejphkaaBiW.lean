/- BiasWeighs's law. -/
import Derived.Test.YtcmnbeodejphkaaBiA
namespace Go.Proofs.Ytcmnbeodejphkaa
open Go.RowKit

set_option maxRecDepth 100000 in
set_option maxHeartbeats 4000000 in
theorem biasWeighs_law (p q : Nat) (b n : Bool) (w : World) (hp : p < 4294967296) (hq : q < 4294967296) :
    Calls Try.prog 3 #[.int .u32 (p : Int), .int .u32 (q : Int), .bool b, .bool n] w fun e w' => e = .returned (.bool true) ∧ w' = w := by
  have v1 : IntKind.u64.wrap (p : Int) = (p : Int) := IntWalk.u64_in _ (by omega)
  have v2 : IntKind.u64.wrap (q : Int) = (q : Int) := IntWalk.u64_in _ (by omega)
  obtain ⟨s, hs⟩ : ∃ s, p * q = s := ⟨_, rfl⟩
  have hs2 := mul_lt hp hq
  rw [hs] at hs2
  have e1 : (p : Int) * (q : Int) = (s : Int) := by rw [← hs]; exact (Int.natCast_mul _ _).symm
  have v3 : IntKind.u64.wrap (s : Int) = (s : Int) := IntWalk.u64_in _ (by omega)
  obtain ⟨x, hx⟩ : ∃ x, wt p q b n = x := ⟨_, rfl⟩
  have H1 := Lib.hid (scale_any p q s w hp hq hs)
  have H2 := Lib.hid (weight_any p q x b n w hp hq hx)
  have H3 := Lib.hid (refweight_any p q x b n w hp hq hx)
  have H4 := Lib.hid (weight_any p q q true n w hp hq rfl)
  have H5 := Lib.hid (awake18_any w)
  clear hs hx
  go_enter Try.func3, Try.ntmps3
  go_wp2_with fail
  refine H1.out.mono ?_
  rintro e w ⟨rfl, rfl⟩
  go_wp2_with fail
  refine H2.out.mono ?_
  rintro e w ⟨rfl, rfl⟩
  go_wp2_with fail
  refine H3.out.mono ?_
  rintro e w ⟨rfl, rfl⟩
  go_wp2_with fail
  refine H4.out.mono ?_
  rintro e w ⟨rfl, rfl⟩
  go_wp2_with fail
  refine H5.out.mono ?_
  rintro e w ⟨rfl, rfl⟩
  go_wp2
  go_ret
  exact ⟨rfl, rfl⟩
end Go.Proofs.Ytcmnbeodejphkaa
