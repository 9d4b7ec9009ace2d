/- How many bytes of a write survive; the document's bit. -/
import Derived.Test.YtpdhnkmihlgdjaaDskW
import Derived.Laws.BitsAllLaws
namespace Go.Proofs.Ytpdhnkmihlgdjaa
open Go.RowKit Me Rw Ds

theorem and_bit (K j : Nat) : (K &&& 2 ^ j = 0) ↔ K.testBit j = false := by
  constructor
  · intro h
    have := congrArg (fun n => n.testBit j) h
    simpa [Nat.testBit_and, Nat.testBit_two_pow] using this
  · intro h
    apply Nat.eq_of_testBit_eq
    intro i
    rw [Nat.testBit_and, Nat.testBit_two_pow]
    by_cases e : j = i
    · subst e; simp [h]
    · simp [e]
theorem pow_lt64 {j : Nat} (hj : j < 64) : 2 ^ j < 18446744073709551616 := by
  calc 2 ^ j ≤ 2 ^ 63 := Nat.pow_le_pow_right (by omega) (by omega)
    _ < 18446744073709551616 := by decide
theorem wrap_u64_small (B : Nat) (h : B < 18446744073709551616) : IntKind.u64.wrap (B : Int) = (B : Int) := by
  simp [IntKind.wrap, IntKind.bits, IntKind.signed]
  omega
theorem wrap_pow {j : Nat} (hj : j < 64) : IntKind.u64.wrap (2 ^ j) = ((2 ^ j : Nat) : Int) := by
  have h := pow_lt64 hj
  have e : ((2 ^ j : Nat) : Int) = (2 : Int) ^ j := by simp
  rw [← e]
  generalize 2 ^ j = B at h
  exact wrap_u64_small B h
set_option maxRecDepth 100000 in
theorem surv_any (k K T : Nat) (hk : k < 4611686018427387904) (hK : K < 18446744073709551616) (hT : T < 18446744073709551616) (w : World) :
    Calls Try.prog 38 #[.int .i64 (k : Int), .int .u64 (K : Int), .int .u64 (T : Int)] w fun e w' => e = .returned (.int .i64 (surv K T k : Int)) ∧ w = w' := by
  obtain ⟨j, hj⟩ : ∃ j, j = k % 64 := ⟨_, rfl⟩
  have hj64 : j < 64 := by rw [hj]; exact Nat.mod_lt _ (by omega)
  have t1 : (k : Int).tmod 64 = (j : Int) := by rw [Int.tmod_eq_emod_of_nonneg (by omega)]; omega
  have hB := pow_lt64 hj64
  obtain ⟨B, hBe⟩ : ∃ B, B = 2 ^ j := ⟨_, rfl⟩
  have t2 : IntKind.u64.wrap (2 ^ j) = (B : Int) := by rw [hBe]; exact wrap_pow hj64
  rw [← hBe] at hB
  obtain ⟨x, hx⟩ : ∃ x, x = K &&& B := ⟨_, rfl⟩
  obtain ⟨y, hy⟩ : ∃ y, y = T &&& B := ⟨_, rfl⟩
  have t3 : bits .and .u64 (K : Int) (B : Int) = (x : Int) := by rw [hx]; exact u64_and_nat K B hK hB
  have t4 : bits .and .u64 (T : Int) (B : Int) = (y : Int) := by rw [hy]; exact u64_and_nat T B hT hB
  have hX : x = 0 ↔ K.testBit (k % 64) = false := by rw [hx, hBe, ← hj]; exact and_bit K j
  have hY : y = 0 ↔ T.testBit (k % 64) = false := by rw [hy, hBe, ← hj]; exact and_bit T j
  have HS := Lib.hid (show surv K T k = if x = 0 then (if y = 0 then 0 else 64) else 128 by
    unfold surv
    by_cases h1 : x = 0
    · rw [if_pos h1, hX.1 h1]
      by_cases h2 : y = 0
      · rw [if_pos h2, hY.1 h2]; rfl
      · have h3 : T.testBit (k % 64) = true := by
          cases e : T.testBit (k % 64) with
          | true => rfl
          | false => exact absurd (hY.2 e) h2
        rw [if_neg h2, h3]; rfl
    · have h3 : K.testBit (k % 64) = true := by
        cases e : K.testBit (k % 64) with
        | true => rfl
        | false => exact absurd (hX.2 e) h1
      rw [if_neg h1, h3]; rfl)
  obtain ⟨r, hr⟩ : ∃ r, r = surv K T k := ⟨_, rfl⟩
  rw [← hr] at HS ⊢
  clear hj hBe hx hy hX hY hr
  by_cases h0 : x = 0
  · subst h0
    by_cases h1 : y = 0
    · subst h1
      have e := Lib.hid (HS.out.trans (by rw [if_pos rfl, if_pos rfl]))
      clear HS
      go_enter Try.func38, Try.ntmps38
      go_wp2
      go_ret
      exact ⟨by rw [e.out]; rfl, rfl⟩
    · have d1 : ((y : Int) != 0) = true := by rw [bne_iff_ne]; omega
      have e := Lib.hid (HS.out.trans (by rw [if_pos rfl, if_neg h1]))
      clear HS
      go_enter Try.func38, Try.ntmps38
      go_wp2
      go_ret
      exact ⟨by rw [e.out]; rfl, rfl⟩
  · have d1 : ((x : Int) != 0) = true := by rw [bne_iff_ne]; omega
    have e := Lib.hid (HS.out.trans (by rw [if_neg h0]))
    clear HS
    go_enter Try.func38, Try.ntmps38
    go_wp2
    go_ret
    exact ⟨by rw [e.out]; rfl, rfl⟩
set_option maxRecDepth 100000 in
theorem bit_any (n k : Nat) (hn : n < 18446744073709551616) (hk : k < 4611686018427387904) (w : World) :
    Calls Try.prog 35 #[.int .u64 (n : Int), .int .i64 (k : Int)] w fun e w' => e = .returned (.bool (n.testBit (k % 64))) ∧ w = w' := by
  obtain ⟨j, hj⟩ : ∃ j, j = k % 64 := ⟨_, rfl⟩
  have hj64 : j < 64 := by rw [hj]; exact Nat.mod_lt _ (by omega)
  have t1 : (k : Int).tmod 64 = (j : Int) := by rw [Int.tmod_eq_emod_of_nonneg (by omega)]; omega
  rw [← hj]
  have HN := Lib.hid (show n.testBit j = decide (n / 2 ^ j % 2 = 1) by rw [Nat.testBit_eq_decide_div_mod_eq])
  clear hj
  go_enter Try.func35, Try.ntmps35
  go_wp2
  go_loop [0, 5] (fun x i => ∃ i' q : Nat, i' ≤ j ∧ i = .int .i64 (i' : Int) ∧ x = .int .u64 (q : Int) ∧ q < 18446744073709551616 ∧ Hid (q = n / 2 ^ i')) (fun _ i => j - (intOf i).toNat)
  case atStart => exact ⟨0, n, Nat.zero_le _, rfl, rfl, hn, Lib.hid (by simp)⟩
  case round =>
    obtain ⟨i', q, hi, rfl, rfl, hq, HQ⟩ := hrel
    by_cases hlt : i' < j
    · have t2 : (q : Int).tdiv 2 = ((q / 2 : Nat) : Int) := by rw [Int.tdiv_eq_ediv_of_nonneg (by omega)]; omega
      obtain ⟨q', hq'⟩ : ∃ q', q' = q / 2 := ⟨_, rfl⟩
      rw [← hq'] at t2
      have hq2 : q' < 18446744073709551616 := by omega
      have HQ' := Lib.hid (show q' = n / 2 ^ (i' + 1) by rw [hq', HQ.out, Nat.div_div_eq_div_mul, Nat.pow_succ])
      clear hq'
      go_wp2
      go_round
      case rel => exact ⟨i' + 1, q', by omega, by go_num, rfl, hq2, HQ'⟩
      case measure => simp [intOf]; omega
    · have hij : i' = j := by omega
      subst hij
      have t2 : (q : Int).tmod 2 = ((q % 2 : Nat) : Int) := by rw [Int.tmod_eq_emod_of_nonneg (by omega)]; omega
      obtain ⟨r, hr⟩ : ∃ r, r = q % 2 := ⟨_, rfl⟩
      rw [← hr] at t2
      have HE := Lib.hid (show n.testBit i' = decide (r = 1) by rw [HN.out, hr, HQ.out])
      have hr2 : r < 2 := by rw [hr]; exact Nat.mod_lt _ (by omega)
      clear hr HQ HN
      go_wp2
      go_ret
      exact ⟨by rw [HE.out]; simp [BEq.beq]; omega, rfl⟩
end Go.Proofs.Ytpdhnkmihlgdjaa
