/- The program's sum: the effects of bytes in a table, then a step a byte. -/
import Derived.Test.YtgnghalcihoaaaaRefSum
import Derived.Deep.WholeRow
import Derived.Deep.QuietTactic
namespace Go.Proofs.Ytgnghalcihoaaaa
open Go.RowKit Cr Me

theorem and_one (r : Reg) : bits .and .u32 (r.toNat : Int) 1 = ((r.toNat % 2 : Nat) : Int) := by
  have := u32_and_nat r.toNat 1 r.isLt (by decide)
  rw [nat_mask1] at this
  exact this
set_option maxRecDepth 100000 in
set_option maxHeartbeats 400000 in
theorem shifted_any (r : Reg) (w : World) :
    Calls Try.prog 113 #[.int .u32 (r.toNat : Int)] w fun e w' => e = .returned (.int .u32 ((shN 8 r).toNat : Int)) ∧ w = w' := by
  go_enter Try.func113, Try.ntmps113
  go_wp2
  go_loop [0, 4] (fun x i => ∃ j : Nat, j ≤ 8 ∧ i = .int .i64 j ∧ ∃ s : Reg, Hid (s = shN j r) ∧ x = .int .u32 (s.toNat : Int)) (fun _ i => 8 - (intOf i).toNat)
  case atStart => exact ⟨0, by omega, rfl, r, Lib.hid rfl, rfl⟩
  case round =>
    obtain ⟨j, hj, rfl, s, HS, rfl⟩ := hrel
    have hs1 := reg_lt s
    by_cases hj8 : j < 8
    · by_cases hodd : s.toNat % 2 = 1
      · have ho : bits .and .u32 (s.toNat : Int) 1 = 1 := by rw [and_one, hodd]; rfl
        have HO := Lib.hid hodd
        clear hodd
        go_wp2
        go_round
        case rel => exact ⟨j + 1, by omega, by go_num, sh s, Lib.hid (by rw [shN_succ', HS.out]), by rw [sh_odd s HO.out]⟩
        case measure => simp [intOf]; omega
      · have ho : bits .and .u32 (s.toNat : Int) 1 = 0 := by rw [and_one, show s.toNat % 2 = 0 by omega]; rfl
        have HO := Lib.hid hodd
        clear hodd
        go_wp2
        go_round
        case rel => exact ⟨j + 1, by omega, by go_num, sh s, Lib.hid (by rw [shN_succ', HS.out]), by rw [sh_even s HO.out]⟩
        case measure => simp [intOf]; omega
    · go_wp2
      go_ret
      exact ⟨ret_int (by rw [HS.out, show j = 8 by omega]), rfl⟩
end Go.Proofs.Ytgnghalcihoaaaa
