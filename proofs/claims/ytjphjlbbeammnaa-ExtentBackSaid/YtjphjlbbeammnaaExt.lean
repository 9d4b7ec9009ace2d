/- Blocks that are taken or free: plain mathematics. -/
import Derived.Test.YtjphjlbbeammnaaBas
namespace Go.Proofs.Ytjphjlbbeammnaa.Ex

/-- Whether there is such a block. -/
def hasB (n : Nat) (i : Int) : Bool := decide (0 ≤ i) && decide (i < n)
theorem hasB_true {n : Nat} {i : Int} (h : hasB n i = true) : ∃ k : Nat, i = (k : Int) ∧ k < n := by
  unfold hasB at h
  simp at h
  exact ⟨i.toNat, by omega, by omega⟩
theorem hasB_false {n : Nat} {i : Int} (h : hasB n i = false) : i < 0 ∨ (n : Int) ≤ i := by
  unfold hasB at h
  simp at h
  omega
theorem hasB_nat {n k : Nat} (h : k < n) : hasB n (k : Int) = true := by
  unfold hasB
  simp
  omega
/-- Is one of them no block? -/
def badI (n : Nat) (l : List Int) : Bool := l.any fun i => !hasB n i
theorem badI_false {n : Nat} {l : List Int} (h : badI n l = false) : ∀ i ∈ l, ∃ k : Nat, i = (k : Int) ∧ k < n := fun i hi => by
  unfold badI at h
  rw [List.any_eq_false] at h
  exact hasB_true (by simpa using h i hi)
/-- Blocks that are made so, whatever they were. -/
def setAll (v : Bool) : List Bool → List Int → List Bool
  | k, [] => k
  | k, i :: l => setAll v (k.set i.toNat v) l
/-- Blocks that must be otherwise are made so, one behind the other. -/
def goT (t : Bool) : List Bool → List Int → Option (List Bool)
  | k, [] => some k
  | k, i :: l => if k.getD i.toNat t = t then none else goT t (k.set i.toNat t) l
/-- The blocks behind it, the error. -/
def turnD (k : List Bool) (l : List Int) (t : Bool) : List Bool × Int :=
  if badI k.length l then (k, 9) else match goT t k l with
    | some k' => (k', 0)
    | none => (k, 13)
theorem setAll_length (v : Bool) : ∀ (l : List Int) (k : List Bool), (setAll v k l).length = k.length
  | [], _ => rfl
  | i :: l, k => by rw [setAll, setAll_length v l, List.length_set]
theorem setAll_append (v : Bool) : ∀ (l m : List Int) (k : List Bool), setAll v k (l ++ m) = setAll v (setAll v k l) m
  | [], _, _ => rfl
  | i :: l, m, k => by rw [List.cons_append, setAll, setAll, setAll_append v l]
theorem set_set_comm (k : List Bool) (i j : Nat) (v : Bool) : (k.set i v).set j v = (k.set j v).set i v := by
  by_cases h : i = j
  · subst h; rfl
  · exact List.set_comm _ _ h
theorem setAll_set (v : Bool) : ∀ (l : List Int) (k : List Bool) (i : Nat), setAll v (k.set i v) l = (setAll v k l).set i v
  | [], _, _ => rfl
  | j :: l, k, i => by rw [setAll, setAll, set_set_comm, setAll_set v l]
theorem set_same {k : List Bool} {i : Nat} {v : Bool} (h : k.getD i v = v) : k.set i v = k := by
  apply List.ext_getElem?
  intro j
  rw [List.getElem?_set]
  by_cases e : i = j
  · subst e
    rw [if_pos rfl]
    by_cases hi : i < k.length
    · rw [if_pos hi]
      rw [List.getD_eq_getElem?_getD, List.getElem?_eq_getElem hi] at h
      rw [List.getElem?_eq_getElem hi]
      exact congrArg some h.symm
    · rw [if_neg hi, List.getElem?_eq_none (by omega)]
  · rw [if_neg e]
/-- What was turned, turned back. -/
theorem back_step {t : Bool} {k cur : List Bool} {l : List Int} {i : Int} (hk : setAll (!t) cur l = k) (hi : cur.getD i.toNat (!t) = !t) : setAll (!t) (cur.set i.toNat t) (l ++ [i]) = k := by
  rw [setAll_append]
  show (setAll (!t) (cur.set i.toNat t) l).set i.toNat (!t) = k
  rw [← setAll_set, List.set_set, set_same hi, hk]
theorem goT_length (t : Bool) : ∀ (l : List Int) (k k' : List Bool), goT t k l = some k' → k'.length = k.length
  | [], _, _, h => by cases h; rfl
  | i :: l, k, k', h => by
    rw [goT] at h
    split at h
    · cases h
    · rw [goT_length t l _ _ h, List.length_set]
theorem turnD_length (k : List Bool) (l : List Int) (t : Bool) : (turnD k l t).1.length = k.length := by
  unfold turnD
  split
  · rfl
  · split
    · exact goT_length t l _ _ (by assumption)
    · rfl
theorem turnD_bad {k : List Bool} {l : List Int} (t : Bool) (h : badI k.length l = true) : turnD k l t = (k, 9) := by unfold turnD; rw [if_pos h]
theorem turnD_none {k : List Bool} {l : List Int} {t : Bool} (h : badI k.length l = false) (hg : goT t k l = none) : turnD k l t = (k, 13) := by unfold turnD; rw [if_neg (by rw [h]; decide), hg]
theorem turnD_some {k k' : List Bool} {l : List Int} {t : Bool} (h : badI k.length l = false) (hg : goT t k l = some k') : turnD k l t = (k', 0) := by unfold turnD; rw [if_neg (by rw [h]; decide), hg]
theorem getD_any (k : List Bool) {i : Nat} (h : i < k.length) (a b : Bool) : k.getD i a = k.getD i b := by
  rw [List.getD_eq_getElem?_getD, List.getD_eq_getElem?_getD, List.getElem?_eq_getElem h]; rfl

/-- How many are free. -/
def free : List Bool → Nat
  | [] => 0
  | b :: k => (if b then 0 else 1) + free k
theorem free_append : ∀ (k m : List Bool), free (k ++ m) = free k + free m
  | [], m => by simp [free]
  | b :: k, m => by rw [List.cons_append, free, free, free_append k m]; omega
theorem free_le : ∀ (k : List Bool), free k ≤ k.length
  | [] => Nat.le_refl _
  | b :: k => by have := free_le k; rw [free, List.length_cons]; split <;> omega
theorem free_take {k : List Bool} {i : Nat} {b : Bool} (h : k[i]? = some b) : free (k.take (i + 1)) = free (k.take i) + (if b then 0 else 1) := by
  rw [List.take_add_one, h, free_append]
  cases b <;> simp [free]
theorem free_take_le (k : List Bool) (i : Nat) : free (k.take i) ≤ free k := by
  have := free_append (k.take i) (k.drop i)
  rw [List.take_append_drop] at this
  omega
theorem free_new (n : Nat) : free (List.replicate n false) = n := by
  induction n with
  | zero => rfl
  | succ n ih => rw [List.replicate_succ, free, ih]; simp; omega
/-- The n lowest ones among the first ones are taken. -/
def tk (k : List Bool) (n : Nat) : Nat → List Bool × List Int
  | 0 => (k, [])
  | i + 1 => if (tk k n i).2.length < n ∧ k.getD i true = false then ((tk k n i).1.set i true, (tk k n i).2 ++ [(i : Int)]) else tk k n i
theorem tk_length (k : List Bool) (n : Nat) : ∀ i, (tk k n i).1.length = k.length
  | 0 => rfl
  | i + 1 => by
    rw [tk]
    split
    · rw [List.length_set, tk_length k n i]
    · exact tk_length k n i
theorem tk_same (k : List Bool) (n : Nat) : ∀ i j, i ≤ j → (tk k n i).1[j]? = k[j]?
  | 0, _, _ => rfl
  | i + 1, j, h => by
    rw [tk]
    split
    · show ((tk k n i).1.set i true)[j]? = _
      rw [List.getElem?_set_ne (by omega)]
      exact tk_same k n i j (by omega)
    · exact tk_same k n i j (by omega)
theorem tk_count (k : List Bool) (n : Nat) : ∀ i, i ≤ k.length → (tk k n i).2.length = min n (free (k.take i))
  | 0, _ => by simp [tk, free]
  | i + 1, h => by
    have ih := tk_count k n i (by omega)
    have hi : k[i]? = some k[i] := List.getElem?_eq_getElem (by omega)
    have hd : k.getD i true = k[i] := by rw [List.getD_eq_getElem?_getD, hi]; rfl
    rw [free_take hi, tk, hd]
    cases hb : k[i] with
    | true =>
      rw [if_neg (by simp), ih]
      simp
    | false =>
      by_cases hn : (tk k n i).2.length < n
      · rw [if_pos ⟨hn, rfl⟩, List.length_append, ih]
        simp
        omega
      · rw [if_neg (fun h => hn h.1), ih]
        simp
        omega
/-- Once there are enough nothing more is taken. -/
theorem tk_stop (k : List Bool) (n i : Nat) (h : (tk k n i).2.length = n) : ∀ j, tk k n (i + j) = tk k n i
  | 0 => rfl
  | j + 1 => by
    have ih := tk_stop k n i h j
    show tk k n (i + j + 1) = _
    rw [tk, ih, if_neg (by omega)]
theorem tk_mem (k : List Bool) (n : Nat) : ∀ i, ∀ z ∈ (tk k n i).2, ∃ j : Nat, z = (j : Int) ∧ j < i ∧ k.getD j true = false
  | 0, z, h => by simp [tk] at h
  | i + 1, z, h => by
    rw [tk] at h
    split at h
    · next hc =>
      simp only [List.mem_append, List.mem_singleton] at h
      rcases h with h | h
      · obtain ⟨j, h1, h2, h3⟩ := tk_mem k n i z h
        exact ⟨j, h1, by omega, h3⟩
      · exact ⟨i, h, by omega, hc.2⟩
    · obtain ⟨j, h1, h2, h3⟩ := tk_mem k n i z h
      exact ⟨j, h1, by omega, h3⟩
theorem getD_false {k : List Bool} {j : Nat} (h : k.getD j true = false) : j < k.length ∧ k[j]? = some false := by
  rw [List.getD_eq_getElem?_getD] at h
  cases hj : k[j]? with
  | none => rw [hj] at h; cases h
  | some b =>
    rw [hj] at h
    have h : b = false := h
    subst h
    exact ⟨(List.getElem?_eq_some_iff.1 hj).1, rfl⟩
/-- What was taken is back where it is made free. -/
theorem tk_back (k : List Bool) (n : Nat) : ∀ i, setAll false (tk k n i).1 (tk k n i).2 = k
  | 0 => rfl
  | i + 1 => by
    have ih := tk_back k n i
    rw [tk]
    split
    · next hc =>
      have hs := tk_same k n i i (Nat.le_refl _)
      exact back_step (t := true) (i := (i : Int)) ih (by
        rw [Int.toNat_natCast, List.getD_eq_getElem?_getD, hs, (getD_false hc.2).2]; rfl)
    · exact ih
/-- Going through what was taken, it is free again. -/
theorem goT_ok : ∀ (l : List Int) (cur : List Bool), (∀ z ∈ l, cur.getD z.toNat false = true) → (l.map Int.toNat).Nodup → goT false cur l = some (setAll false cur l)
  | [], _, _, _ => rfl
  | z :: l, cur, h, hn => by
    rw [goT, setAll, if_neg (by rw [h z (by simp)]; decide)]
    rw [List.map_cons, List.nodup_cons] at hn
    refine goT_ok l _ (fun y hy => ?_) hn.2
    have hne : z.toNat ≠ y.toNat := fun e => hn.1 (by rw [e]; exact List.mem_map_of_mem hy)
    have := h y (by simp [hy])
    rw [List.getD_eq_getElem?_getD] at this ⊢
    rw [List.getElem?_set_ne hne]
    exact this
theorem tk_taken (k : List Bool) (n : Nat) : ∀ i, (∀ z ∈ (tk k n i).2, (tk k n i).1.getD z.toNat false = true) ∧ ((tk k n i).2.map Int.toNat).Nodup
  | 0 => ⟨fun z h => by simp [tk] at h, by simp [tk]⟩
  | i + 1 => by
    obtain ⟨h1, h2⟩ := tk_taken k n i
    rw [tk]
    split
    · next hc =>
      obtain ⟨hi, -⟩ := getD_false hc.2
      refine ⟨fun z hz => ?_, ?_⟩
      · simp only [List.mem_append, List.mem_singleton] at hz
        rw [List.getD_eq_getElem?_getD]
        rcases hz with hz | hz
        · obtain ⟨j, rfl, hj, -⟩ := tk_mem k n i z hz
          have := h1 _ hz
          rw [Int.toNat_natCast, List.getD_eq_getElem?_getD] at this
          rw [Int.toNat_natCast, List.getElem?_set_ne (by omega)]
          exact this
        · subst hz
          rw [Int.toNat_natCast, List.getElem?_set_self (by rw [tk_length]; exact hi)]
          rfl
      · rw [List.map_append, List.nodup_append]
        refine ⟨h2, by simp, fun a ha b hb => ?_⟩
        simp at hb
        subst hb
        obtain ⟨z, hz, rfl⟩ := List.mem_map.1 ha
        obtain ⟨j, rfl, hj, -⟩ := tk_mem k n _ z hz
        rw [Int.toNat_natCast]
        omega
    · exact ⟨h1, h2⟩
/-- The blocks behind it, those that were taken, the error. -/
def takeD (k : List Bool) (n : Int) : List Bool × List Int × Int :=
  if n < 0 then (k, [], 1) else if (free k : Int) < n then (k, [], 7) else ((tk k n.toNat k.length).1, (tk k n.toNat k.length).2, 0)
theorem takeD_length (k : List Bool) (n : Int) : (takeD k n).1.length = k.length := by
  unfold takeD
  split
  · rfl
  · split
    · rfl
    · exact tk_length _ _ _
theorem takeD_len (k : List Bool) (n : Int) : (takeD k n).2.1.length ≤ k.length := by
  unfold takeD
  split
  · exact Nat.zero_le _
  · split
    · exact Nat.zero_le _
    · rw [tk_count _ _ _ (Nat.le_refl _), List.take_length]
      have := free_le k
      omega
/-- What is taken and given back leaves all as it was. -/
theorem take_give {k : List Bool} {n : Int} (h : (takeD k n).2.2 = 0) : turnD (takeD k n).1 (takeD k n).2.1 false = (k, 0) := by
  unfold takeD at h ⊢
  split at h
  · cases h
  · split at h
    · cases h
    · rename_i h1 h2
      rw [if_neg h1, if_neg h2]
      obtain ⟨h3, h4⟩ := tk_taken k n.toNat k.length
      have hg := goT_ok _ _ h3 h4
      rw [tk_back] at hg
      refine turnD_some ?_ hg
      unfold badI
      rw [List.any_eq_false]
      intro z hz
      obtain ⟨j, rfl, hj, -⟩ := tk_mem k _ _ z hz
      rw [tk_length, hasB_nat hj]
      decide
theorem takeD_err (k : List Bool) (n : Int) : (takeD k n).2.2 = if n < 0 then 1 else if (free k : Int) < n then 7 else 0 := by
  unfold takeD
  split
  · rfl
  · split <;> rfl
theorem takeD_no {k : List Bool} {n : Int} (h : (takeD k n).2.2 ≠ 0) : (takeD k n).2.1 = [] ∧ (takeD k n).1 = k ∧ (n < 0 ∨ (free k : Int) < n) := by
  unfold takeD at h ⊢
  split
  · exact ⟨rfl, rfl, .inl (by assumption)⟩
  · split
    · exact ⟨rfl, rfl, .inr (by assumption)⟩
    · rename_i h1 h2
      rw [if_neg h1, if_neg h2] at h
      exact absurd rfl h
end Go.Proofs.Ytjphjlbbeammnaa.Ex
