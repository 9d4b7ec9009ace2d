/- BiasCounts's law. -/
import Derived.Test.YtcmnbeodejphkaaBiA
namespace Go.Proofs.Ytcmnbeodejphkaa
open Go.RowKit

set_option maxRecDepth 100000 in
set_option maxHeartbeats 4000000 in
theorem biasCounts_law (p q : Nat) (b n : Bool) (w : World) (hp : p < 4294967296) (hq : q < 4294967296) :
    Calls Try.prog 5 #[.int .u32 (p : Int), .int .u32 (q : Int), .bool b, .bool n] w fun e w' => e = .returned (.bool true) ∧ w' = w := by
  have HA := Lib.hid (awake18_any w)
  by_cases h1 : p < 1
  · have h1' : (p : Int) < 1 := by omega
    clear hp hq
    go_enter Try.func5, Try.ntmps5
    go_wp2_with fail
    refine HA.out.mono ?_
    rintro e w ⟨rfl, rfl⟩
    go_wp2
    go_ret
    exact ⟨rfl, rfl⟩
  have h1' : ¬ (p : Int) < 1 := by omega
  by_cases h2 : q < 1
  · have h2' : (q : Int) < 1 := by omega
    clear hp hq
    go_enter Try.func5, Try.ntmps5
    go_wp2_with fail
    refine HA.out.mono ?_
    rintro e w ⟨rfl, rfl⟩
    go_wp2
    go_ret
    exact ⟨rfl, rfl⟩
  have h2' : ¬ (q : Int) < 1 := by omega
  by_cases h3 : 40 < p
  · have h3' : 40 < (p : Int) := by omega
    clear hp hq
    go_enter Try.func5, Try.ntmps5
    go_wp2_with fail
    refine HA.out.mono ?_
    rintro e w ⟨rfl, rfl⟩
    go_wp2
    go_ret
    exact ⟨rfl, rfl⟩
  have h3' : ¬ 40 < (p : Int) := by omega
  by_cases h4 : 40 < q
  · have h4' : 40 < (q : Int) := by omega
    clear hp hq
    go_enter Try.func5, Try.ntmps5
    go_wp2_with fail
    refine HA.out.mono ?_
    rintro e w ⟨rfl, rfl⟩
    go_wp2
    go_ret
    exact ⟨rfl, rfl⟩
  have h4' : ¬ 40 < (q : Int) := by omega
  have v1 : IntKind.u64.wrap (p : Int) = (p : Int) := IntWalk.u64_in _ (by omega)
  have v2 : IntKind.u64.wrap (q : Int) = (q : Int) := IntWalk.u64_in _ (by omega)
  obtain ⟨s, hs⟩ : ∃ s, p * q = s := ⟨_, rfl⟩
  have hs2 := mul_lt hp hq
  rw [hs] at hs2
  have e1 : (p : Int) * (q : Int) = (s : Int) := by rw [← hs]; exact (Int.natCast_mul _ _).symm
  have v3 : IntKind.u64.wrap (s : Int) = (s : Int) := IntWalk.u64_in _ (by omega)
  obtain ⟨x, hx⟩ : ∃ x, wt p q b n = x := ⟨_, rfl⟩
  have hxs : x ≤ s := by rw [← hx, ← hs]; exact wt_le (by omega) (by omega)
  have HAC := Lib.hid (fun u y hy => accepts_any p q u b n y w hp hq (show decide (u < wt p q b n) = y by rw [hx]; exact hy))
  have HS := Lib.hid (scale_any p q s w hp hq hs)
  have HW := Lib.hid (weight_any p q x b n w hp hq hx)
  clear hs hx
  go_enter Try.func5, Try.ntmps5
  go_wp2_with fail
  go_loopw [9, 10] (fun k i wr => ∃ j m : Nat, j ≤ s ∧ i = .int .u64 (j : Int) ∧ k = .int .u64 (m : Int) ∧ Hid (m = min j x) ∧ w = wr) (fun _ i _ => s - (intOf i).toNat)
  case atStart => exact ⟨0, 0, Nat.zero_le _, rfl, rfl, Lib.hid (by omega), rfl⟩
  case round =>
    obtain ⟨j, m, hj, rfl, rfl, HM, rfl⟩ := hrel
    by_cases hlt : j < s
    · have hlt' : (j : Int) < (s : Int) := by omega
      by_cases hlx : j < x
      · have HC := Lib.hid (HAC.out j true (decide_eq_true hlx))
        have hmj : m = j := by have := HM.out; omega
        subst hmj
        have HM2 := Lib.hid (show m + 1 = min (m + 1) x by omega)
        clear hlx HM
        go_wp2_with fail
        refine HC.out.mono ?_
        rintro e w ⟨rfl, rfl⟩
        go_wp2
        go_roundw
        case rel => exact ⟨m + 1, m + 1, by omega, by go_num, by go_num, HM2, by trivial⟩
        case measure => simp [intOf]; omega
      · have HC := Lib.hid (HAC.out j false (decide_eq_false hlx))
        have HM2 := Lib.hid (show m = min (j + 1) x by have := HM.out; omega)
        clear hlx HM
        go_wp2_with fail
        refine HC.out.mono ?_
        rintro e w ⟨rfl, rfl⟩
        go_wp2
        go_roundw
        case rel => exact ⟨j + 1, m, by omega, by go_num, rfl, HM2, by trivial⟩
        case measure => simp [intOf]; omega
    · have hjs : j = s := by omega
      subst hjs
      have hmx : x = m := by have := HM.out; omega
      subst hmx
      have hxs' : (x : Int) ≤ (j : Int) := by omega
      clear HM
      go_wp2_with fail
      refine HW.out.mono ?_
      rintro e w ⟨rfl, rfl⟩
      go_wp2_with fail
      refine HS.out.mono ?_
      rintro e w ⟨rfl, rfl⟩
      go_wp2_with fail
      refine HA.out.mono ?_
      rintro e w ⟨rfl, rfl⟩
      go_wp2
      go_ret
      exact ⟨rfl, rfl⟩
end Go.Proofs.Ytcmnbeodejphkaa
