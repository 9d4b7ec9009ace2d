/- How many pages bytes take, the program's and the document's. -/
import Derived.Test.YtgnghalcihoaaaaCel
namespace Go.Proofs.Ytgnghalcihoaaaa
open Go.RowKit Me

def manyZ (s : Int) : Int := if s ≤ 0 then 0 else (s - 1) / 112 + 1
theorem many_any (s : Int) (w : World) (h1 : s ≤ 9223372036854775807) :
    Calls Try.prog 80 #[.int .i64 s] w fun e w' => e = .returned (.int .i64 (manyZ s)) ∧ w = w' := by
  by_cases h0 : s ≤ 0
  · have d1 : decide (s ≤ 0) = true := by simp; omega
    have e : manyZ s = 0 := by unfold manyZ; rw [if_pos h0]
    rw [e]
    clear e
    go_enter Try.func80, Try.ntmps80
    go_wp2
    go_ret
    exact ⟨rfl, rfl⟩
  · have d1 : decide (s ≤ 0) = false := by simp; omega
    obtain ⟨q, hq⟩ : ∃ q, q = (s - 1) / 112 := ⟨_, rfl⟩
    have hq1 : 0 ≤ q ∧ q < 9223372036854775807 := by omega
    obtain ⟨hq1, hq2⟩ := hq1
    have e : manyZ s = q + 1 := by unfold manyZ; rw [if_neg h0, hq]
    rw [e]
    have t1 : IntKind.i64.wrap (s - 1) = s - 1 := by rw [IntKind.wrap_i64]; omega
    have t2 : (s - 1).tdiv 112 = q := by rw [Int.tdiv_eq_ediv_of_nonneg (by omega)]; omega
    have t3 : IntKind.i64.wrap q = q := by rw [IntKind.wrap_i64]; omega
    have t4 : IntKind.i64.wrap (q + 1) = q + 1 := by rw [IntKind.wrap_i64]; omega
    clear e hq
    go_enter Try.func80, Try.ntmps80
    go_wp2
    go_ret
    exact ⟨rfl, rfl⟩
theorem ref_many_any (s : Int) (w : World) (h1 : s ≤ 9223372036854775807) :
    Calls Try.prog 37 #[.int .i64 s] w fun e w' => e = .returned (.int .i64 (manyZ s)) ∧ w = w' := by
  by_cases h0 : s ≤ 0
  · have d1 : decide (0 < s) = false := by simp; omega
    have e : manyZ s = 0 := by unfold manyZ; rw [if_pos h0]
    rw [e]
    clear e
    go_enter Try.func37, Try.ntmps37
    go_wp2
    go_ret
    exact ⟨rfl, rfl⟩
  · have d1 : decide (0 < s) = true := by simp; omega
    obtain ⟨q, hq⟩ : ∃ q, q = s / 112 := ⟨_, rfl⟩
    obtain ⟨r, hr⟩ : ∃ r, r = s % 112 := ⟨_, rfl⟩
    have hq1 : 0 ≤ q ∧ q < 9223372036854775807 ∧ 0 ≤ r ∧ r < 112 := by omega
    obtain ⟨hq1, hq2, hr1, hr2⟩ := hq1
    have t2 : s.tdiv 112 = q := by rw [Int.tdiv_eq_ediv_of_nonneg (by omega)]; omega
    have t3 : IntKind.i64.wrap q = q := by rw [IntKind.wrap_i64]; omega
    have t4 : IntKind.i64.wrap (q + 1) = q + 1 := by rw [IntKind.wrap_i64]; omega
    have t5 : s.tmod 112 = r := by rw [Int.tmod_eq_emod_of_nonneg (by omega)]; omega
    have t6 : IntKind.i64.wrap r = r := by rw [IntKind.wrap_i64]; omega
    by_cases hz : r = 0
    · have d2 : decide (0 < r) = false := by simp; omega
      have e : manyZ s = q := by unfold manyZ; rw [if_neg h0]; omega
      rw [e]
      clear e hq hr hz
      go_enter Try.func37, Try.ntmps37
      go_wp2
      go_ret
      exact ⟨rfl, rfl⟩
    · have d2 : decide (0 < r) = true := by simp; omega
      have e : manyZ s = q + 1 := by unfold manyZ; rw [if_neg h0]; omega
      rw [e]
      clear e hq hr hz
      go_enter Try.func37, Try.ntmps37
      go_wp2
      go_ret
      exact ⟨rfl, rfl⟩
end Go.Proofs.Ytgnghalcihoaaaa
