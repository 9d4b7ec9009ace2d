/- What is read of neighbours: the plain mathematics. -/
import Derived.Test.YtimladmphcipfaaVari
import Derived.Test.YtimladmphcipfaaPutA
import Derived.Test.YtimladmphcipfaaNext
namespace Go.Proofs.Ytimladmphcipfaa
open Go.RowKit Me Va

theorem least_most (pre : List ArcD) (hf : ∀ p ∈ pre, p.fits) : leastOf pre ≤ 4294967296 := by
  unfold leastOf
  split
  · omega
  · rename_i p hp
    have hm : p ∈ pre := by
      rw [List.getLast?_eq_some_iff] at hp
      obtain ⟨ys, rfl⟩ := hp
      simp
    have := (hf p hm).1
    omega
theorem goOn_stop {n : Nat} {pre : List ArcD} {l : List UInt8} (h : leastOf pre = 4294967296 ∨ sumOf pre = 2147483647) : goOn (n + 1) pre l = ([], [], noMore l) := by
  rw [goOn, if_pos (by omega)]
  rfl
theorem goOn_bad {n : Nat} {pre : List ArcD} {l l1 l2 : List UInt8} {y z : Nat} {x1 x2 : Int} (h : leastOf pre < 4294967296) (hs : sumOf pre < 2147483647) (h1 : numOf l 0 (4294967295 - leastOf pre) = (y, l1, x1))
    (h2 : numOf l1 x1 (2147483646 - sumOf pre) = (z, l2, x2)) (hx : x2 ≠ 0) : goOn (n + 1) pre l = ([], l2, x2) := by
  rw [goOn, if_neg (by omega)]
  simp only [h1, h2]
  rw [if_pos hx]
theorem goOn_next {n : Nat} {pre : List ArcD} {l l1 l2 : List UInt8} {y z : Nat} {x1 : Int} (h : leastOf pre < 4294967296) (hs : sumOf pre < 2147483647) (h1 : numOf l 0 (4294967295 - leastOf pre) = (y, l1, x1))
    (h2 : numOf l1 x1 (2147483646 - sumOf pre) = (z, l2, 0)) : goOn (n + 1) pre l = goOn n (pre ++ [⟨leastOf pre + y, z + 1⟩]) l2 := by
  rw [goOn, if_neg (by omega)]
  simp only [h1, h2]
  rw [if_neg (by simp)]
/-- What was put is read as it was. -/
theorem goOn_put : ∀ (m pre : List ArcD) (rest : List UInt8), (∀ p ∈ m, p.fits) → rises (leastOf pre) m = true → sumOf pre + sumOf m ≤ 2147483647 → goOn m.length pre (encGaps (leastOf pre) m ++ rest) = (pre ++ m, rest, 0)
  | [], pre, rest, _, _, _ => by simp [goOn, encGaps]
  | p :: m, pre, rest, hf, hr, hs => by
    have hp := hf p (by simp)
    rw [rises] at hr
    simp at hr
    simp only [sumOf] at hs
    have ha : leastOf pre < 4294967296 := by have := hp.1; omega
    have hb : sumOf pre < 2147483647 := by omega
    have h1 : numOf (encGaps (leastOf pre) (p :: m) ++ rest) 0 (4294967295 - leastOf pre) = (p.to - leastOf pre, enc (p.weight - 1) ++ (encGaps (p.to + 1) m ++ rest), 0) := by
      rw [encGaps]
      simp only [List.append_assoc]
      exact read_num _ (by have := hp.1; omega) _ (by have := hp.1; omega)
    have h2 : numOf (enc (p.weight - 1) ++ (encGaps (p.to + 1) m ++ rest)) 0 (2147483646 - sumOf pre) = (p.weight - 1, encGaps (p.to + 1) m ++ rest, 0) :=
      read_num _ (by have := hp.2; omega) _ (by omega)
    rw [List.length_cons, goOn_next ha hb h1 h2]
    have e : (⟨leastOf pre + (p.to - leastOf pre), p.weight - 1 + 1⟩ : ArcD) = p := by
      have e1 : leastOf pre + (p.to - leastOf pre) = p.to := by omega
      have e2 : p.weight - 1 + 1 = p.weight := by omega
      rw [e1, e2]
    rw [e]
    have hl := leastOf_snoc pre p
    have := goOn_put m (pre ++ [p]) rest (fun q hq => hf q (by simp [hq])) (by rw [hl]; exact hr.2) (by rw [sumOf_append]; simp only [sumOf]; omega)
    rw [hl] at this
    rw [this, List.append_assoc]
    rfl
theorem getOf_put {l : List ArcD} {rest : List UInt8} (hf : ∀ p ∈ l, p.fits) (hm : may l = true) (hn : l.length < 18446744073709551616) : getOf (encArcs l ++ rest) 0 = (l, rest, 0) := by
  obtain ⟨h1, h2⟩ := may_parts hm
  unfold getOf encArcs
  rw [List.append_assoc, read_num _ hn top (by unfold top; omega)]
  simp only
  rw [if_neg (by simp)]
  have := goOn_put l [] rest hf h1 (by simp only [sumOf]; omega)
  rw [leastOf_nil] at this
  simpa using this
/-- What is read are neighbours, and stood there just as they are put. -/
theorem goOn_read : ∀ (n : Nat) (pre : List ArcD) (l : List UInt8) (out : List ArcD) (l' : List UInt8), (∀ p ∈ pre, p.fits) → rises 0 pre = true → sumOf pre ≤ 2147483647 → goOn n pre l = (out, l', 0) →
    (∀ p ∈ out, p.fits) ∧ rises 0 out = true ∧ sumOf out ≤ 2147483647 ∧ out.length = pre.length + n ∧ encGaps 0 pre ++ l = encGaps 0 out ++ l'
  | 0, pre, l, out, l', hf, hr, hs, h => by
    rw [goOn] at h
    simp only [Prod.mk.injEq, and_true] at h
    obtain ⟨rfl, rfl⟩ := h
    exact ⟨hf, hr, hs, rfl, rfl⟩
  | n + 1, pre, l, out, l', hf, hr, hs, h => by
    have hl := least_most pre hf
    by_cases hc : leastOf pre = 4294967296 ∨ sumOf pre = 2147483647
    · rw [goOn_stop hc] at h
      simp only [Prod.mk.injEq] at h
      unfold noMore at h
      split at h <;> simp at h
    · obtain ⟨y, l1, x1, h1⟩ : ∃ y l1 x1, numOf l 0 (4294967295 - leastOf pre) = (y, l1, x1) := ⟨_, _, _, rfl⟩
      obtain ⟨z, l2, x2, h2⟩ : ∃ z l2 x2, numOf l1 x1 (2147483646 - sumOf pre) = (z, l2, x2) := ⟨_, _, _, rfl⟩
      by_cases hx : x2 = 0
      · subst hx
        have hx1 : x1 = 0 := numOf_err0 (l := l1) (most := 2147483646 - sumOf pre) (by rw [h2])
        subst hx1
        rw [goOn_next (by omega) (by omega) h1 h2] at h
        have hy : y ≤ 4294967295 - leastOf pre := by have := numOf_most l 0 (4294967295 - leastOf pre); rw [h1] at this; exact this
        have hz : z ≤ 2147483646 - sumOf pre := by have := numOf_most l1 0 (2147483646 - sumOf pre); rw [h2] at this; exact this
        have s1 := numOf_stood h1
        have s2 := numOf_stood h2
        obtain ⟨g1, g2, g3, g4, g5⟩ := goOn_read n _ l2 out l' (fun q hq => by
            simp only [List.mem_append, List.mem_singleton] at hq
            rcases hq with hq | rfl
            · exact hf q hq
            · exact ⟨by show leastOf pre + y < _; omega, by show z + 1 < _; omega⟩)
          (by rw [rises_snoc, hr]; simp) (by rw [sumOf_append]; simp only [sumOf]; omega) h
        refine ⟨g1, g2, g3, by rw [g4, List.length_append]; simp; omega, ?_⟩
        rw [encGaps_more, encGaps_one] at g5
        have e1 : leastOf pre + y - leastOf pre = y := by omega
        have e2 : z + 1 - 1 = z := by omega
        simp only [e1, e2, List.append_assoc] at g5
        rw [s1, s2]
        exact g5
      · rw [goOn_bad (by omega) (by omega) h1 h2 hx] at h
        simp only [Prod.mk.injEq] at h
        exact absurd h.2.2 hx
theorem getOf_read {l : List UInt8} {out : List ArcD} {l' : List UInt8} (h : getOf l 0 = (out, l', 0)) : (∀ p ∈ out, p.fits) ∧ may out = true ∧ l = encArcs out ++ l' := by
  obtain ⟨n, l1, x1, h1⟩ : ∃ n l1 x1, numOf l 0 top = (n, l1, x1) := ⟨_, _, _, rfl⟩
  unfold getOf at h
  rw [h1] at h
  simp only at h
  by_cases hx : x1 = 0
  · subst hx
    rw [if_neg (by simp)] at h
    obtain ⟨g1, g2, g3, g4, g5⟩ := goOn_read n [] l1 out l' (fun p hp => by simp at hp) rfl (by simp [sumOf]) h
    refine ⟨g1, by unfold may; rw [g2]; simpa using g3, ?_⟩
    rw [numOf_stood h1]
    unfold encArcs
    simp only [encGaps, List.nil_append] at g5
    rw [g5, show out.length = n by rw [g4]; simp, List.append_assoc]
  · rw [if_pos hx] at h
    simp only [Prod.mk.injEq] at h
    exact absurd h.2.2 hx
/-- No more arcs are read than may be. -/
theorem goOn_short : ∀ (n : Nat) (pre : List ArcD) (l : List UInt8) (out : List ArcD) (l' : List UInt8) (x : Int), pre.length ≤ sumOf pre → sumOf pre ≤ 2147483647 → goOn n pre l = (out, l', x) → out.length ≤ 2147483647
  | 0, pre, l, out, l', x, h1, h2, h => by
    rw [goOn] at h
    simp only [Prod.mk.injEq] at h
    rw [← h.1]
    omega
  | n + 1, pre, l, out, l', x, hk, hs, h => by
    rw [goOn] at h
    split at h
    · simp only [Prod.mk.injEq] at h
      rw [← h.1]
      simp
    · rename_i hno
      simp only at h
      split at h
      · simp only [Prod.mk.injEq] at h
        rw [← h.1]
        simp
      · have hz := numOf_most (numOf l 0 (4294967295 - leastOf pre)).2.1 (numOf l 0 (4294967295 - leastOf pre)).2.2 (2147483646 - sumOf pre)
        refine goOn_short n _ _ out l' x ?_ ?_ h
        · rw [sumOf_append, List.length_append]
          simp only [sumOf, List.length_cons, List.length_nil]
          omega
        · rw [sumOf_append]
          simp only [sumOf]
          omega
theorem get_short {l : List UInt8} {x : Int} {out : List ArcD} {l' : List UInt8} {x' : Int} (h : getOf l x = (out, l', x')) : out.length ≤ 2147483647 := by
  unfold getOf at h
  simp only at h
  split at h
  · simp only [Prod.mk.injEq] at h
    rw [← h.1]
    simp
  · exact goOn_short _ [] _ out l' x' (by simp) (by simp [sumOf]) h
end Go.Proofs.Ytimladmphcipfaa
