/- The first rest below, above: the document's. -/
import Derived.Test.YtimladmphcipfaaAlA
import Derived.RegionTactic
namespace Go.Proofs.Ytimladmphcipfaa
open Go.RowKit Me Va Al

/-- The first one, if there is one. -/
def FstPost (W : World) (n : Nat) (P : Nat → Prop) (N : Nat → Prop) (e : Ending) (W' : World) : Prop :=
  ∃ (i : Nat) (q : Bool), e = .returned (.tuple #[.int .i64 (i : Int), .bool q]) ∧ W' = W ∧ (q = true → P i) ∧ (q = false → ∀ k, k < n → N k)

set_option maxRecDepth 100000 in
set_option maxHeartbeats 2000000 in
theorem firstB_any (W : World) (base : Nat) (a : Addr) (n c S : Nat) (R : List Nat) (h : UAt W base a n c R) (hn : n ≤ 1000000) (hm : ∀ k, gt R k < 18446744073709551616) :
    Calls Try.prog 29 #[.slice (some a) n c, .int .u64 (S : Int), .bool false] W (FstPost W n (FstB S R) fun k => S ≤ gt R k) := by
  have HL := Lib.hid h.len
  have HR := Lib.hid h
  clear h
  go_enter Try.func29, Try.ntmps29
  go_wp2
  go_loop [11] (fun i => ∃ k : Nat, k ≤ n ∧ i = .int .i64 k ∧ Hid (∀ j, j < k → ¬ gt R j < S)) (fun i => n - (intOf i).toNat)
  case atStart => exact ⟨0, Nat.zero_le _, rfl, Lib.hid fun j hj => by omega⟩
  case round =>
    obtain ⟨k, hk, rfl, HF⟩ := hrel
    by_cases hlt : k < n
    · have hlt2 : (k : Int) < (n : Int) := by omega
      obtain ⟨r0, -, -, -⟩ := HR.out.get hlt
      obtain ⟨x, hx⟩ : ∃ x, x = gt R k := ⟨_, rfl⟩
      rw [← hx] at r0
      have HX := Lib.hid hx
      clear hx
      by_cases hp : x < S
      · have hp2 : (x : Int) < (S : Int) := by omega
        have FIN := Lib.hid (show FstB S R k from ⟨by rw [HL.out]; exact hlt, by rw [← HX.out]; exact hp, fun j hj => by have := HF.out j hj; omega⟩)
        go_wp2
        go_ret2
        exact ⟨k, true, rfl, rfl, fun _ => FIN.out, fun e => by cases e⟩
      · have hp2 : ¬ (x : Int) < (S : Int) := by omega
        have HF2 := Lib.hid (show ∀ j, j < k + 1 → ¬ gt R j < S from fun j hj => by
          rcases Nat.lt_or_eq_of_le (Nat.le_of_lt_succ hj) with e | e
          · exact HF.out j e
          · rw [e, ← HX.out]; exact hp)
        go_wp2
        go_round
        case rel => exact ⟨k + 1, by omega, by go_num, HF2⟩
        case measure => simp [intOf]; omega
    · have e : k = n := by omega
      subst e
      go_wp2
      go_ret2
      exact ⟨0, false, rfl, rfl, (fun e => by cases e), fun _ j hj => Nat.le_of_not_lt (HF.out j hj)⟩
set_option maxRecDepth 100000 in
set_option maxHeartbeats 2000000 in
theorem firstA_any (W : World) (base : Nat) (a : Addr) (n c S : Nat) (R : List Nat) (h : UAt W base a n c R) (hn : n ≤ 1000000) (hm : ∀ k, gt R k < 18446744073709551616) :
    Calls Try.prog 29 #[.slice (some a) n c, .int .u64 (S : Int), .bool true] W (FstPost W n (FstA S R) fun k => gt R k ≤ S) := by
  have HL := Lib.hid h.len
  have HR := Lib.hid h
  clear h
  go_enter Try.func29, Try.ntmps29
  go_wp2
  go_loop [11] (fun i => ∃ k : Nat, k ≤ n ∧ i = .int .i64 k ∧ Hid (∀ j, j < k → ¬ S < gt R j)) (fun i => n - (intOf i).toNat)
  case atStart => exact ⟨0, Nat.zero_le _, rfl, Lib.hid fun j hj => by omega⟩
  case round =>
    obtain ⟨k, hk, rfl, HF⟩ := hrel
    by_cases hlt : k < n
    · have hlt2 : (k : Int) < (n : Int) := by omega
      obtain ⟨r0, -, -, -⟩ := HR.out.get hlt
      obtain ⟨x, hx⟩ : ∃ x, x = gt R k := ⟨_, rfl⟩
      rw [← hx] at r0
      have HX := Lib.hid hx
      clear hx
      by_cases hp : S < x
      · have hp2 : (S : Int) < (x : Int) := by omega
        have FIN := Lib.hid (show FstA S R k from ⟨by rw [HL.out]; exact hlt, by rw [← HX.out]; exact hp, fun j hj => by have := HF.out j hj; omega⟩)
        go_wp2
        go_ret2
        exact ⟨k, true, rfl, rfl, fun _ => FIN.out, fun e => by cases e⟩
      · have hp2 : ¬ (S : Int) < (x : Int) := by omega
        have HF2 := Lib.hid (show ∀ j, j < k + 1 → ¬ S < gt R j from fun j hj => by
          rcases Nat.lt_or_eq_of_le (Nat.le_of_lt_succ hj) with e | e
          · exact HF.out j e
          · rw [e, ← HX.out]; exact hp)
        go_wp2
        go_round
        case rel => exact ⟨k + 1, by omega, by go_num, HF2⟩
        case measure => simp [intOf]; omega
    · have e : k = n := by omega
      subst e
      go_wp2
      go_ret2
      exact ⟨0, false, rfl, rfl, (fun e => by cases e), fun _ j hj => Nat.le_of_not_lt (HF.out j hj)⟩
end Go.Proofs.Ytimladmphcipfaa
