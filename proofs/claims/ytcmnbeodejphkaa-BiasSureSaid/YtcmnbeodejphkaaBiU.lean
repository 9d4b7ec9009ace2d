/- BiasSure's law. -/
import Derived.Test.YtcmnbeodejphkaaBiA
namespace Go.Proofs.Ytcmnbeodejphkaa
open Go.RowKit

set_option maxRecDepth 100000 in
set_option maxHeartbeats 4000000 in
theorem biasSure_law (p q : Nat) (b n : Bool) (u : Nat) (w : World) (hp : p < 4294967296) (hq : q < 4294967296) :
    Calls Try.prog 7 #[.int .u32 (p : Int), .int .u32 (q : Int), .bool b, .bool n, .int .u64 (u : Int)] w fun e w' => e = .returned (.bool true) ∧ w' = w := by
  obtain ⟨y, hy⟩ : ∃ y, decide (u < wt p q b true) = y := ⟨_, rfl⟩
  obtain ⟨z, hz⟩ : ∃ z, decide (u < wt p q b false) = z := ⟨_, rfl⟩
  have H1 := Lib.hid (sure_any p q u b y z w hp hq hy hz)
  have H2 := Lib.hid (accepts_any p q u b true y w hp hq hy)
  have H3 := Lib.hid (accepts_any p q u b false z w hp hq hz)
  have H4 := Lib.hid (accepts_any p q u b n (if n then y else z) w hp hq (by cases n with
    | true => exact hy
    | false => exact hz))
  have H5 := Lib.hid (awake18_any w)
  clear hy hz
  cases y <;> cases z
  · have H6 := Lib.hid (show Calls Try.prog 12 #[.int .u32 (p : Int), .int .u32 (q : Int), .bool b, .bool n, .int .u64 (u : Int)] w fun e w' => e = .returned (.bool false) ∧ w' = w from by have := H4.out; rwa [show (if n then false else false) = false from by cases n <;> rfl] at this)
    clear H4
    go_enter Try.func7, Try.ntmps7
    go_wp2_with fail
    refine H1.out.mono ?_
    rintro e w ⟨rfl, rfl⟩
    go_wp2_with fail
    refine H2.out.mono ?_
    rintro e w ⟨rfl, rfl⟩
    go_wp2_with fail
    refine H3.out.mono ?_
    rintro e w ⟨rfl, rfl⟩
    go_wp2_with fail
    refine H6.out.mono ?_
    rintro e w ⟨rfl, rfl⟩
    go_wp2_with fail
    refine H5.out.mono ?_
    rintro e w ⟨rfl, rfl⟩
    go_wp2
    go_ret
    exact ⟨rfl, rfl⟩
  · clear H4
    go_enter Try.func7, Try.ntmps7
    go_wp2_with fail
    refine H1.out.mono ?_
    rintro e w ⟨rfl, rfl⟩
    go_wp2_with fail
    refine H2.out.mono ?_
    rintro e w ⟨rfl, rfl⟩
    go_wp2_with fail
    refine H3.out.mono ?_
    rintro e w ⟨rfl, rfl⟩
    go_wp2_with fail
    refine H5.out.mono ?_
    rintro e w ⟨rfl, rfl⟩
    go_wp2
    go_ret
    exact ⟨rfl, rfl⟩
  · clear H4
    go_enter Try.func7, Try.ntmps7
    go_wp2_with fail
    refine H1.out.mono ?_
    rintro e w ⟨rfl, rfl⟩
    go_wp2_with fail
    refine H2.out.mono ?_
    rintro e w ⟨rfl, rfl⟩
    go_wp2_with fail
    refine H3.out.mono ?_
    rintro e w ⟨rfl, rfl⟩
    go_wp2_with fail
    refine H5.out.mono ?_
    rintro e w ⟨rfl, rfl⟩
    go_wp2
    go_ret
    exact ⟨rfl, rfl⟩
  · have H6 := Lib.hid (show Calls Try.prog 12 #[.int .u32 (p : Int), .int .u32 (q : Int), .bool b, .bool n, .int .u64 (u : Int)] w fun e w' => e = .returned (.bool true) ∧ w' = w from by have := H4.out; rwa [show (if n then true else true) = true from by cases n <;> rfl] at this)
    clear H4
    go_enter Try.func7, Try.ntmps7
    go_wp2_with fail
    refine H1.out.mono ?_
    rintro e w ⟨rfl, rfl⟩
    go_wp2_with fail
    refine H2.out.mono ?_
    rintro e w ⟨rfl, rfl⟩
    go_wp2_with fail
    refine H3.out.mono ?_
    rintro e w ⟨rfl, rfl⟩
    go_wp2_with fail
    refine H6.out.mono ?_
    rintro e w ⟨rfl, rfl⟩
    go_wp2_with fail
    refine H5.out.mono ?_
    rintro e w ⟨rfl, rfl⟩
    go_wp2
    go_ret
    exact ⟨rfl, rfl⟩
end Go.Proofs.Ytcmnbeodejphkaa
