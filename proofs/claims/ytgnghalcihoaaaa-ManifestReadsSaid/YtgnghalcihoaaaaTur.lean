/- A byte of bytes with their sum that is turned; plain mathematics. -/
import Derived.Test.YtgnghalcihoaaaaFitM
namespace Go.Proofs.Ytgnghalcihoaaaa.Fr
open Go.RowKit Cr Me

/-- A byte of bytes with their sum that is turned: they don't fit. -/
theorem set_unfit (l : List UInt8) {i : Nat} {u x : UInt8} (hu : (Cr.mark l)[i]? = some u) (hx : x ≠ 0) : fitB ((Cr.mark l).set i (u ^^^ x)) = false := by
  have hi : i < (Cr.mark l).length := (List.getElem?_eq_some_iff.1 hu).1
  have hlen : ((Cr.mark l).set i (u ^^^ x)).length = l.length + 4 := by rw [List.length_set, mark_length]
  unfold fitB
  rw [hlen]
  have hne : ∀ b : List UInt8, Cr.mark b ≠ (Cr.mark l).set i (u ^^^ x) := by
    -- the bits of x, from 8 i on; or, where fewer than four bytes are left, as a word that ends with the bytes
    rw [mark_length] at hi
    have hx8 : x.toNat < 256 := x.toNat_lt
    have hx0 : x.toNat ≠ 0 := fun e => hx (by
      apply UInt8.toNat_inj.1; rw [e]; rfl)
    have hbit : ∀ q, bitAt ((Cr.mark l).set i (u ^^^ x)) q = (bitAt (Cr.mark l) q ^^ (decide (q / 8 = i) && x.toNat.testBit (q % 8))) := by
      intro q
      unfold bitAt
      rw [List.getD_eq_getElem?_getD, List.getElem?_set, List.getD_eq_getElem?_getD]
      by_cases h : i = q / 8
      · rw [if_pos h, if_pos (by rw [mark_length]; exact hi), ← h, hu]
        simp [UInt8.toNat_xor, Nat.testBit_xor]
      · have h' : ¬ q / 8 = i := fun e => h e.symm
        rw [if_neg h, decide_eq_false h']
        simp
    obtain ⟨j, hj, hji, hjl⟩ : ∃ j, j ≤ i ∧ i - j < 4 ∧ j + 4 ≤ l.length + 4 := by
      by_cases h : i ≤ l.length
      · exact ⟨i, Nat.le_refl _, by omega, by omega⟩
      · exact ⟨l.length, by omega, by omega, Nat.le_refl _⟩
    have hw : (BitVec.ofNat 32 (x.toNat * 2 ^ (8 * (i - j)))).toNat = x.toNat * 2 ^ (8 * (i - j)) := by
      rw [BitVec.toNat_ofNat]
      apply Nat.mod_eq_of_lt
      have : (2 : Nat) ^ (8 * (i - j)) ≤ 2 ^ 24 := Nat.pow_le_pow_right (by omega) (by omega)
      calc x.toNat * 2 ^ (8 * (i - j)) ≤ 255 * 2 ^ 24 := Nat.mul_le_mul (by omega) this
        _ < 2 ^ 32 := by decide
    intro b
    refine mark_burst (l := l) (at_ := 8 * j) (w := BitVec.ofNat 32 (x.toNat * 2 ^ (8 * (i - j)))) (fun e => ?_) (by rw [List.length_set]) (by rw [hlen]; omega) (fun q _ => ?_) b
    · have := congrArg BitVec.toNat e
      rw [hw] at this
      have h0 : x.toNat * 2 ^ (8 * (i - j)) = 0 := this
      rcases Nat.mul_eq_zero.1 h0 with h | h
      · exact hx0 h
      · exact absurd h (Nat.pos_iff_ne_zero.1 (Nat.pow_pos (by omega)))
    · rw [hbit q]
      congr 1
      unfold burst
      have hg : (BitVec.ofNat 32 (x.toNat * 2 ^ (8 * (i - j)))).getLsbD (q - 8 * j) = (x.toNat * 2 ^ (8 * (i - j))).testBit (q - 8 * j) := by
        show (BitVec.ofNat 32 (x.toNat * 2 ^ (8 * (i - j)))).toNat.testBit _ = _
        rw [hw]
      rw [hg, Nat.mul_comm x.toNat, Nat.testBit_two_pow_mul]
      by_cases h1 : q / 8 = i
      · have h2 : 8 * j ≤ q := by omega
        have h3 : 8 * (i - j) ≤ q - 8 * j := by omega
        have h4 : q - 8 * j - 8 * (i - j) = q % 8 := by omega
        simp [h1, h2, h3, h4]
      · rw [decide_eq_false h1, Bool.false_and]
        by_cases h2 : 8 * j ≤ q
        · by_cases h3 : 8 * (i - j) ≤ q - 8 * j
          · have h4 : 8 ≤ q - 8 * j - 8 * (i - j) := by omega
            have h5 : x.toNat.testBit (q - 8 * j - 8 * (i - j)) = false := byte_high x h4
            rw [h5]; simp
          · simp [h3]
        · simp [h2]
  rw [Bool.and_eq_false_iff]
  right
  rw [beq_eq_false_iff_ne]
  exact hne _
end Go.Proofs.Ytgnghalcihoaaaa.Fr
