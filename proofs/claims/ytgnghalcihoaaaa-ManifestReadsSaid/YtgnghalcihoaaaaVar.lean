/- Numbers as bytes, seven bits a byte: the plain mathematics. -/
import Derived.Test.YtgnghalcihoaaaaMem
import Derived.Laws.BitsAllLaws
namespace Go.Proofs.Ytgnghalcihoaaaa.Va

/-- A number's bytes. -/
def enc (n : Nat) : List UInt8 := if n < 128 then [UInt8.ofNat n] else UInt8.ofNat (n % 128 + 128) :: enc (n / 128)
termination_by n
decreasing_by omega
theorem enc_small {n : Nat} (h : n < 128) : enc n = [UInt8.ofNat n] := by rw [enc, if_pos h]
theorem enc_large {n : Nat} (h : ¬ n < 128) : enc n = UInt8.ofNat (n % 128 + 128) :: enc (n / 128) := by rw [enc, if_neg h]
theorem enc_pos (n : Nat) : 0 < (enc n).length := by
  rw [enc]
  split <;> simp
theorem enc_length : ∀ (k n : Nat), n < 128 ^ (k + 1) → (enc n).length ≤ k + 1
  | 0, n, h => by rw [enc_small (by simpa using h)]; simp
  | k + 1, n, h => by
    by_cases hn : n < 128
    · rw [enc_small hn]; simp
    · rw [enc_large hn]
      have h1 : n / 128 < 128 ^ (k + 1) := Nat.div_lt_of_lt_mul (by rw [Nat.pow_succ] at h; omega)
      have := enc_length k (n / 128) h1
      simp only [List.length_cons]
      omega
theorem enc_ten {n : Nat} (h : n < 18446744073709551616) : (enc n).length ≤ 10 := enc_length 9 n (Nat.lt_trans h (by decide))

/-- What a byte at place i must not be. -/
def refuses (i : Nat) (u : UInt8) : Bool := decide (9 < i) || (decide (i = 9) && decide (1 < u.toNat % 128)) || (decide (0 < i) && decide (u.toNat = 0))
/-- The number in front: it, its bytes, or the error. -/
def pars (i acc : Nat) : List UInt8 → Nat × Nat × Int
  | [] => (0, 0, 2)
  | u :: l => if refuses i u then (0, 0, 3) else if u.toNat < 128 then (acc + u.toNat % 128 * 128 ^ i, i + 1, 0) else pars (i + 1) (acc + u.toNat % 128 * 128 ^ i) l

/-- The bytes up to k have been gone through, and told acc. -/
structure At (l : List UInt8) (k acc : Nat) : Prop where
  same : pars k acc (l.drop k) = pars 0 0 l
  low : acc < 128 ^ k
  fits : acc < 18446744073709551616
  few : k ≤ 10
theorem At.start (l : List UInt8) : At l 0 0 := ⟨rfl, by decide, by decide, by decide⟩
theorem pow_le_63 {k : Nat} (h : k ≤ 8) : 128 ^ (k + 1) ≤ 9223372036854775808 := by
  have : 128 ^ (k + 1) ≤ 128 ^ 9 := Nat.pow_le_pow_right (by decide) (by omega)
  exact Nat.le_trans this (by decide)
section
variable {l : List UInt8} {k acc : Nat} {u : UInt8}
theorem drop_of (hu : l[k]? = some u) : l.drop k = u :: l.drop (k + 1) := by
  obtain ⟨h, e⟩ := List.getElem?_eq_some_iff.1 hu
  rw [List.drop_eq_getElem_cons h, e]
theorem At.refuse (h : At l k acc) (hu : l[k]? = some u) (hr : refuses k u = true) : pars 0 0 l = (0, 0, 3) := by
  rw [← h.same, drop_of hu, pars, if_pos hr]
theorem nine_of (hr : refuses k u = false) : k ≤ 9 ∧ (k = 9 → u.toNat % 128 ≤ 1) ∧ (0 < k → 0 < u.toNat) := by
  unfold refuses at hr
  simp only [Bool.or_eq_false_iff, Bool.and_eq_false_iff, decide_eq_false_iff_not] at hr
  omega
theorem At.next (h : At l k acc) (hr : refuses k u = false) : acc + u.toNat % 128 * 128 ^ k < 128 ^ (k + 1) ∧ acc + u.toNat % 128 * 128 ^ k < 18446744073709551616 ∧ u.toNat % 128 * 128 ^ k < 18446744073709551616 := by
  obtain ⟨h9, h1, -⟩ := nine_of hr
  have hm : u.toNat % 128 < 128 := Nat.mod_lt _ (by decide)
  have hl := h.low
  have hle : u.toNat % 128 * 128 ^ k ≤ 127 * 128 ^ k := Nat.mul_le_mul_right _ (by omega)
  have h2 : acc + u.toNat % 128 * 128 ^ k < 128 ^ (k + 1) := by rw [Nat.pow_succ]; omega
  refine ⟨h2, ?_⟩
  by_cases h8 : k ≤ 8
  · have := pow_le_63 h8
    omega
  · have e : k = 9 := by omega
    subst e
    have := h1 rfl
    have hle1 : u.toNat % 128 * 128 ^ 9 ≤ 1 * 128 ^ 9 := Nat.mul_le_mul_right _ this
    have e9 : (128 : Nat) ^ 9 = 9223372036854775808 := by decide
    rw [e9] at *
    omega
theorem At.done (h : At l k acc) (hu : l[k]? = some u) (hr : refuses k u = false) (hs : u.toNat < 128) : pars 0 0 l = (acc + u.toNat % 128 * 128 ^ k, k + 1, 0) := by
  rw [← h.same, drop_of hu, pars, hr, if_neg (by decide), if_pos hs]
theorem At.step (h : At l k acc) (hu : l[k]? = some u) (hr : refuses k u = false) (hs : ¬ u.toNat < 128) : At l (k + 1) (acc + u.toNat % 128 * 128 ^ k) := by
  obtain ⟨h1, h2, -⟩ := h.next hr
  obtain ⟨h9, -, -⟩ := nine_of hr
  refine ⟨?_, h1, h2, by omega⟩
  rw [← h.same, drop_of hu, pars, hr, if_neg (by decide), if_neg hs]
theorem At.ends (h : At l k acc) (hk : l.length ≤ k) : pars 0 0 l = (0, 0, 2) := by
  rw [← h.same, List.drop_eq_nil_of_le hk, pars]
end
/-- A number, and how many bytes it has; an error has neither. -/
theorem pars_bounds : ∀ (l : List UInt8) (i acc x k : Nat) (e : Int), pars i acc l = (x, k, e) → (e = 0 ∧ i < k ∧ k ≤ i + l.length) ∨ ((e = 2 ∨ e = 3) ∧ x = 0 ∧ k = 0)
  | [], i, acc, x, k, e, h => by
    rw [pars] at h
    simp only [Prod.mk.injEq] at h
    omega
  | u :: l, i, acc, x, k, e, h => by
    rw [pars] at h
    split at h
    · simp only [Prod.mk.injEq] at h
      omega
    · split at h
      · simp only [Prod.mk.injEq] at h
        simp only [List.length_cons]
        omega
      · have := pars_bounds l (i + 1) _ x k e h
        simp only [List.length_cons]
        omega
theorem u8_ofNat {n : Nat} (h : n < 256) : (UInt8.ofNat n).toNat = n := by rw [UInt8.toNat_ofNat']; exact Nat.mod_eq_of_lt h
/-- What was put is read back. -/
theorem pars_enc (m : Nat) : ∀ (i acc : Nat) (rest : List UInt8), m * 128 ^ i < 18446744073709551616 → (0 < i → 0 < m) → pars i acc (enc m ++ rest) = (acc + m * 128 ^ i, i + (enc m).length, 0) := by
  induction m using Nat.strongRecOn with
  | _ m ih =>
    intro i acc rest hm hi
    have h9 : i ≤ 9 := by
      rcases Nat.lt_or_ge 9 i with h | h
      · have h1 : 128 ^ 10 ≤ 128 ^ i := Nat.pow_le_pow_right (by decide) h
        have h2 : 1 * 128 ^ i ≤ m * 128 ^ i := Nat.mul_le_mul_right _ (hi (by omega))
        have e : (128 : Nat) ^ 10 = 1180591620717411303424 := by decide
        omega
      · exact h
    have hn1 : i = 9 → m ≤ 1 := fun e => by
      subst e
      have e9 : (128 : Nat) ^ 9 = 9223372036854775808 := by decide
      rw [e9] at hm
      omega
    by_cases hs : m < 128
    · have hu : (UInt8.ofNat m).toNat = m := u8_ofNat (by omega)
      have hr : refuses i (UInt8.ofNat m) = false := by
        unfold refuses
        rw [hu, Nat.mod_eq_of_lt hs]
        simp only [Bool.or_eq_false_iff, Bool.and_eq_false_iff, decide_eq_false_iff_not]
        refine ⟨⟨by omega, ?_⟩, ?_⟩
        · by_cases e : i = 9
          · exact .inr (by have := hn1 e; omega)
          · exact .inl e
        · by_cases e : 0 < i
          · exact .inr (by have := hi e; omega)
          · exact .inl e
      rw [enc_small hs, List.cons_append, pars, hr, if_neg (by decide), hu, if_pos hs, Nat.mod_eq_of_lt hs]
      simp
    · have hu : (UInt8.ofNat (m % 128 + 128)).toNat = m % 128 + 128 := u8_ofNat (by omega)
      have hmod : (m % 128 + 128) % 128 = m % 128 := by omega
      have hr : refuses i (UInt8.ofNat (m % 128 + 128)) = false := by
        unfold refuses
        rw [hu, hmod]
        simp only [Bool.or_eq_false_iff, Bool.and_eq_false_iff, decide_eq_false_iff_not]
        refine ⟨⟨by omega, .inl fun e => by have := hn1 e; omega⟩, .inr (by omega)⟩
      have hd : m / 128 * 128 ^ (i + 1) + m % 128 * 128 ^ i = m * 128 ^ i := by
        rw [Nat.pow_succ, Nat.mul_comm (128 ^ i) 128, ← Nat.mul_assoc, ← Nat.add_mul]
        congr 1
        omega
      rw [enc_large hs, List.cons_append, pars, hr, if_neg (by decide), hu, hmod, if_neg (by omega), ih (m / 128) (by omega) (i + 1) _ rest (by omega) (fun _ => by omega)]
      simp only [Prod.mk.injEq, List.length_cons, and_true]
      omega
theorem pars_put {n : Nat} (h : n < 18446744073709551616) (rest : List UInt8) : pars 0 0 (enc n ++ rest) = (n, (enc n).length, 0) := by
  rw [pars_enc n 0 0 rest (by simpa using h) (by simp)]
  simp
/-- Bytes that are one number are just its bytes. -/
theorem enc_pars : ∀ (l : List UInt8) (i acc x : Nat), pars i acc l = (x, i + l.length, 0) → ∃ m, x = acc + m * 128 ^ i ∧ enc m = l ∧ (0 < i → 0 < m)
  | [], i, acc, x, h => by
    rw [pars] at h
    simp at h
  | u :: l, i, acc, x, h => by
    rw [pars] at h
    have hu := u.toNat_lt
    split at h
    · simp at h
    · rename_i hr
      obtain ⟨-, -, h0⟩ := nine_of (by simpa using hr : refuses i u = false)
      split at h
      · rename_i hs
        simp only [Prod.mk.injEq, List.length_cons] at h
        have hl : l = [] := List.eq_nil_of_length_eq_zero (by omega)
        subst hl
        refine ⟨u.toNat, ?_, ?_, h0⟩
        · rw [← h.1, Nat.mod_eq_of_lt hs]
        · rw [enc_small hs]
          congr 1
          simp
      · rename_i hs
        have e : i + (u :: l).length = i + 1 + l.length := by simp only [List.length_cons]; omega
        rw [e] at h
        obtain ⟨m, hx, he, hm⟩ := enc_pars l (i + 1) _ x h
        have hm0 := hm (by omega)
        refine ⟨m * 128 + (u.toNat - 128), ?_, ?_, fun _ => by omega⟩
        · rw [hx, Nat.pow_succ, Nat.add_mul, Nat.mul_comm (128 ^ i) 128, ← Nat.mul_assoc, show u.toNat % 128 = u.toNat - 128 by omega]
          omega
        · rw [enc_large (by omega), show (m * 128 + (u.toNat - 128)) / 128 = m by omega, show (m * 128 + (u.toNat - 128)) % 128 + 128 = u.toNat by omega, he]
          simp
theorem enc_whole {l : List UInt8} {x : Nat} (h : pars 0 0 l = (x, l.length, 0)) : enc x = l := by
  obtain ⟨m, hx, he, -⟩ := enc_pars l 0 0 x (by simpa using h)
  have : x = m := by rw [hx]; simp
  rw [this, he]
theorem pars_fits {l : List UInt8} {x k : Nat} {e : Int} (h : pars 0 0 l = (x, k, e)) : x < 18446744073709551616 := by
  have go : ∀ (j : Nat) (k0 acc : Nat), l.length - k0 ≤ j → At l k0 acc → (pars 0 0 l).1 < 18446744073709551616 := by
    intro j
    induction j with
    | zero =>
      intro k0 acc hj ha
      rw [ha.ends (by omega)]
      decide
    | succ j ih =>
      intro k0 acc hj ha
      by_cases hk : l.length ≤ k0
      · rw [ha.ends hk]; decide
      · have hu : l[k0]? = some l[k0] := List.getElem?_eq_getElem (by omega)
        cases hr : refuses k0 l[k0] with
        | true => rw [ha.refuse hu hr]; decide
        | false =>
          by_cases hs : l[k0].toNat < 128
          · rw [ha.done hu hr hs]; exact (ha.next hr).2.1
          · exact ih _ _ (by omega) (ha.step hu hr hs)
  have := go l.length 0 0 (by omega) (At.start l)
  rw [h] at this
  exact this

/-- Numbers with a sign, as such without. -/
def zig (n : Int) : Nat := if n < 0 then 2 * (-(n + 1)).toNat + 1 else 2 * n.toNat
def zag (n : Nat) : Int := if n % 2 = 1 then -((n / 2 : Nat) : Int) - 1 else ((n / 2 : Nat) : Int)
theorem zag_zig (n : Int) : zag (zig n) = n := by
  unfold zag zig
  split <;> split <;> omega
theorem zig_fits {n : Int} (h1 : -9223372036854775808 ≤ n) (h2 : n ≤ 9223372036854775807) : zig n < 18446744073709551616 := by
  unfold zig
  split <;> omega
/-- Bits beside each other. -/
theorem or_add {a x k : Nat} (ha : a < 128 ^ k) : a ||| (x * 128 ^ k) = a + x * 128 ^ k := by
  have e : (128 : Nat) ^ k = 2 ^ (7 * k) := by rw [Nat.pow_mul]
  rw [e] at ha ⊢
  rw [Nat.or_comm, Nat.mul_comm, ← Nat.two_pow_add_eq_or_of_lt ha, Nat.add_comm]
end Go.Proofs.Ytgnghalcihoaaaa.Va
