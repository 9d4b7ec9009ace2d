/- The next number of a reader: the plain mathematics. -/
import Derived.Test.YtgnghalcihoaaaaRdb
namespace Go.Proofs.Ytgnghalcihoaaaa
open Go.RowKit Me Va

theorem read_num {n : Nat} (r : List UInt8) (h : n < 18446744073709551616) (most : Nat) (hm : n ≤ most) : numOf (enc n ++ r) 0 most = (n, r, 0) := by
  unfold numOf
  rw [if_neg (by simp), pars_put h r, if_neg (by simp), if_neg (by simp; omega)]
  simp
theorem pars_take : ∀ (l : List UInt8) (i acc x k : Nat), pars i acc l = (x, i + k, 0) → pars i acc (l.take k) = (x, i + k, 0)
  | [], i, acc, x, k, h => by
    rw [pars] at h
    simp at h
  | u :: l, i, acc, x, k, h => by
    have hb := pars_bounds _ _ _ _ _ _ h
    obtain ⟨k, rfl⟩ : ∃ j, k = j + 1 := ⟨k - 1, by omega⟩
    rw [List.take_succ_cons]
    rw [pars] at h ⊢
    split at h
    · simp at h
    · rename_i hr
      rw [if_neg hr]
      split at h
      · rename_i hs
        rw [if_pos hs]
        exact h
      · rename_i hs
        rw [if_neg hs]
        rw [show i + (k + 1) = i + 1 + k by omega] at h ⊢
        exact pars_take l (i + 1) _ x k h
/-- A number that was read stands there just as it is put. -/
theorem numOf_stood {l l' : List UInt8} {most n : Nat} (h : numOf l 0 most = (n, l', 0)) : l = enc n ++ l' := by
  unfold numOf at h
  rw [if_neg (by simp)] at h
  obtain ⟨y, k, z, hp⟩ : ∃ y k z, pars 0 0 l = (y, k, z) := ⟨_, _, _, rfl⟩
  rw [hp] at h
  split at h
  · rename_i hz
    simp only [Prod.mk.injEq] at h
    exact absurd h.2.2 hz
  · rename_i hz
    split at h
    · simp at h
    · simp only [Prod.mk.injEq, and_true] at h
      obtain ⟨rfl, rfl⟩ := h
      have hz' : z = 0 := by simpa using hz
      subst hz'
      have hb := pars_bounds l 0 0 y k 0 hp
      have ht := pars_take l 0 0 y k (by simpa using hp)
      have hk : k ≤ l.length := by omega
      have hw := enc_whole (l := l.take k) (x := y) (by rw [List.length_take, Nat.min_eq_left hk]; simpa using ht)
      rw [hw, List.take_append_drop]
theorem numOf_bad {l : List UInt8} {x : Int} {most : Nat} (hx : x ≠ 0 → l = []) (h : (numOf l x most).2.2 ≠ 0) : (numOf l x most).2.1 = [] := by
  unfold numOf at h ⊢
  split
  · rename_i e
    exact hx e
  · split
    · rfl
    · split
      · rfl
      · rename_i e e1 e2
        rw [if_neg e, if_neg e1, if_neg e2] at h
        exact absurd rfl h
theorem numOf_zero {l : List UInt8} {x : Int} {most : Nat} (h : (numOf l x most).2.2 ≠ 0) : (numOf l x most).1 = 0 := by
  unfold numOf at h ⊢
  split
  · rfl
  · split
    · rfl
    · split
      · rfl
      · rename_i e e1 e2
        rw [if_neg e, if_neg e1, if_neg e2] at h
        exact absurd rfl h
theorem numOf_err0 {l : List UInt8} {x : Int} {most : Nat} (h : (numOf l x most).2.2 = 0) : x = 0 := by
  unfold numOf at h
  split at h
  · exact h
  · rename_i e
    simpa using e
end Go.Proofs.Ytgnghalcihoaaaa
