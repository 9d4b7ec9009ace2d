/- How many of the draws select a neighbour: Count, the document's. -/
import Derived.Test.YtoflbfkmkalgcaaAlC
namespace Go.Proofs.Ytoflbfkmkalgcaa
open Go.RowKit Me Va Al

theorem wr64_sub {w m : Nat} (h : m ≤ w) (x : Nat) : IntKind.u64.wrap (IntKind.u64.wrap ((wr64 x : Int) + (w : Int)) - (m : Int)) = (wr64 (x + (w - m)) : Int) := by
  rw [IntKind.wrap_u64, IntKind.wrap_u64]
  unfold wr64
  omega
set_option maxRecDepth 100000 in
set_option maxHeartbeats 2000000 in
theorem refcount_any (A : Option Addr) (n c : Nat) (T : List CelD) (w : Nat) (to : Int) (W : World) (hl : T.length = n) (hn : n ≤ 1000000) (hw : w < 18446744073709551616) (hr : Cels W W.heap.size A T) (hto : -9223372036854775808 ≤ to ∧ to ≤ 9223372036854775807) :
    Calls Try.prog 26 #[.slice A n c, .int .u64 (w : Int), .int .i64 to] W fun e W' => e = .returned (.int .u64 (wr64 (cntZ w to T) : Int)) ∧ W' = W := by
  have HL := Lib.hid hl
  have HR := Lib.hid hr
  clear hl hr
  go_enter Try.func26, Try.ntmps26
  go_wp2
  go_loop [7, 12] (fun x i => ∃ k y : Nat, k ≤ n ∧ i = .int .i64 k ∧ x = .int .u64 (y : Int) ∧ y < 18446744073709551616 ∧ Hid (y = wr64 (cntZ w to (T.take k)))) (fun _ i => n - (intOf i).toNat)
  case atStart => exact ⟨0, 0, Nat.zero_le _, rfl, rfl, by omega, Lib.hid (by unfold cntZ; rw [List.take_zero]; split <;> rfl)⟩
  case round =>
    obtain ⟨k, y, hk, rfl, rfl, hy, HE⟩ := hrel
    by_cases hlt : k < n
    · have hlt' : k < T.length := by rw [HL.out]; exact hlt
      obtain ⟨a, p, rfl, hp, ha, h0, h1, h2, h3⟩ := HR.out.at hlt'
      have HST := Lib.hid (cntZ_take (w := w) (to := to) hp)
      obtain ⟨m, hm⟩ : ∃ m, m = min p.cut w := ⟨_, rfl⟩
      obtain ⟨r, hr⟩ : ∃ r, r = w - m := ⟨_, rfl⟩
      have HMR := Lib.hid (And.intro hm hr)
      rw [← hm, ← hr] at HST
      have hmw : m ≤ w := by rw [hm]; exact Nat.min_le_right _ _
      have hrw : r = w - m := hr
      clear hp hlt' hr
      obtain ⟨y1, hy1⟩ : ∃ y1, y1 = wr64 (cntZ w to (T.take k) + if (k : Int) = to then m else 0) := ⟨_, rfl⟩
      obtain ⟨y2, hy2⟩ : ∃ y2, y2 = wr64 (cntZ w to (T.take (k + 1))) := ⟨_, rfl⟩
      have hy1l : y1 < 18446744073709551616 := by rw [hy1]; exact wr64_lt _
      have hy2l : y2 < 18446744073709551616 := by rw [hy2]; exact wr64_lt _
      have q1 : (k : Int) = to → IntKind.u64.wrap ((y : Int) + (m : Int)) = (y1 : Int) := fun e => by rw [HE.out, wr64_add, hy1, if_pos e]
      have q1' : ¬ (k : Int) = to → y1 = y := fun e => by rw [hy1, HE.out, if_neg e, Nat.add_zero]
      have q2 : (p.oth : Int) = to → IntKind.u64.wrap (IntKind.u64.wrap ((y1 : Int) + (w : Int)) - (m : Int)) = (y2 : Int) := fun e => by rw [hy1, wr64_sub hmw, hy2, HST.out, if_pos e, hrw, Nat.add_assoc]
      have q2' : ¬ (p.oth : Int) = to → y2 = y1 := fun e => by rw [hy1, hy2, HST.out, if_neg e, Nat.add_zero]
      have HY2 := Lib.hid hy2
      clear hy1 hy2
      by_cases c0 : w < p.cut
      · have d0 : (w : Int) < (p.cut : Int) := by omega
        have e0 : m = w := by rw [hm, Nat.min_eq_right (by omega)]
        subst e0
        clear hm hrw
        by_cases c1 : (k : Int) = to
        · have q := q1 c1
          have d1 : ((k : Int) == to) = true := by simp [c1]
          clear q1 q1'
          by_cases c2 : (p.oth : Int) = to
          · have q3 := q2 c2
            have d2 : ((p.oth : Int) == to) = true := by simp [c2]
            clear q2 q2' c1 c2
            go_wp2
            go_round
            case rel => exact ⟨k + 1, y2, by omega, by go_num, rfl, hy2l, HY2⟩
            case measure => simp [intOf]; omega
          · have q3 := q2' c2
            subst q3
            have d2 : ((p.oth : Int) == to) = false := by simp [c2]
            clear q2 q2' c1 c2
            go_wp2
            go_round
            case rel => exact ⟨k + 1, _, by omega, by go_num, rfl, hy2l, HY2⟩
            case measure => simp [intOf]; omega
        · have q := q1' c1
          subst q
          have d1 : ((k : Int) == to) = false := by simp [c1]
          clear q1 q1'
          by_cases c2 : (p.oth : Int) = to
          · have q3 := q2 c2
            have d2 : ((p.oth : Int) == to) = true := by simp [c2]
            clear q2 q2' c1 c2
            go_wp2
            go_round
            case rel => exact ⟨k + 1, y2, by omega, by go_num, rfl, hy2l, HY2⟩
            case measure => simp [intOf]; omega
          · have q3 := q2' c2
            subst q3
            have d2 : ((p.oth : Int) == to) = false := by simp [c2]
            clear q2 q2' c1 c2
            go_wp2
            go_round
            case rel => exact ⟨k + 1, _, by omega, by go_num, rfl, hy2l, HY2⟩
            case measure => simp [intOf]; omega
      · have d0 : ¬ (w : Int) < (p.cut : Int) := by omega
        have e0 : m = p.cut := by rw [hm, Nat.min_eq_left (by omega)]
        rw [← e0] at h0 h2 d0
        clear e0
        clear hm hrw
        by_cases c1 : (k : Int) = to
        · have q := q1 c1
          have d1 : ((k : Int) == to) = true := by simp [c1]
          clear q1 q1'
          by_cases c2 : (p.oth : Int) = to
          · have q3 := q2 c2
            have d2 : ((p.oth : Int) == to) = true := by simp [c2]
            clear q2 q2' c1 c2
            go_wp2
            go_round
            case rel => exact ⟨k + 1, y2, by omega, by go_num, rfl, hy2l, HY2⟩
            case measure => simp [intOf]; omega
          · have q3 := q2' c2
            subst q3
            have d2 : ((p.oth : Int) == to) = false := by simp [c2]
            clear q2 q2' c1 c2
            go_wp2
            go_round
            case rel => exact ⟨k + 1, _, by omega, by go_num, rfl, hy2l, HY2⟩
            case measure => simp [intOf]; omega
        · have q := q1' c1
          subst q
          have d1 : ((k : Int) == to) = false := by simp [c1]
          clear q1 q1'
          by_cases c2 : (p.oth : Int) = to
          · have q3 := q2 c2
            have d2 : ((p.oth : Int) == to) = true := by simp [c2]
            clear q2 q2' c1 c2
            go_wp2
            go_round
            case rel => exact ⟨k + 1, y2, by omega, by go_num, rfl, hy2l, HY2⟩
            case measure => simp [intOf]; omega
          · have q3 := q2' c2
            subst q3
            have d2 : ((p.oth : Int) == to) = false := by simp [c2]
            clear q2 q2' c1 c2
            go_wp2
            go_round
            case rel => exact ⟨k + 1, _, by omega, by go_num, rfl, hy2l, HY2⟩
            case measure => simp [intOf]; omega
    · have HE2 := Lib.hid (show y = wr64 (cntZ w to T) by rw [HE.out, List.take_of_length_le (by rw [HL.out]; omega)])
      go_wp2
      go_ret
      exact ⟨ret_int (by rw [HE2.out]), rfl⟩
end Go.Proofs.Ytoflbfkmkalgcaa
