/- Lines, words and numbers: plain mathematics. -/
import Derived.Test.YtniffijjdehnaaaGen
namespace Go.Proofs.Ytniffijjdehnaaa.Tx

/-- The lines of what is left of a text, behind what the line has already. -/
def linesG : List UInt8 → List UInt8 → List (List UInt8)
  | c, [] => if c = [] then [] else [c]
  | c, u :: l => if u = 10 then c :: linesG [] l else linesG (c ++ [u]) l
/-- Those without a line feed. -/
def Plain (l : List UInt8) : Prop := ∀ u ∈ l, u ≠ 10
theorem linesG_plain : ∀ {l : List UInt8}, Plain l → ∀ c, linesG c l = if c ++ l = [] then [] else [c ++ l]
  | [], _, c => by simp [linesG]
  | u :: l, h, c => by
    have h1 : u ≠ 10 := h u (by simp)
    rw [linesG, if_neg h1, linesG_plain (l := l) (fun v hv => h v (by simp [hv])) (c ++ [u])]
    simp
theorem linesG_cut : ∀ {p : List UInt8}, Plain p → ∀ (c r : List UInt8), linesG c (p ++ 10 :: r) = (c ++ p) :: linesG [] r
  | [], _, c, r => by simp [linesG]
  | u :: p, h, c, r => by
    have h1 : u ≠ 10 := h u (by simp)
    rw [List.cons_append, linesG, if_neg h1, linesG_cut (p := p) (fun v hv => h v (by simp [hv])) (c ++ [u]) r]
    simp
/-- Lines, one behind the other, with a line feed behind each. -/
def joinL : List (List UInt8) → List UInt8
  | [] => []
  | l :: ls => l ++ 10 :: joinL ls
theorem joinL_append : ∀ (a b : List (List UInt8)), joinL (a ++ b) = joinL a ++ joinL b
  | [], _ => rfl
  | x :: a, b => by simp [joinL, joinL_append a b]
theorem lines_join : ∀ {ls : List (List UInt8)}, (∀ l ∈ ls, Plain l) → linesG [] (joinL ls) = ls
  | [], _ => rfl
  | l :: ls, h => by
    rw [joinL, linesG_cut (h l (by simp)) [] (joinL ls), lines_join (ls := ls) fun m hm => h m (by simp [hm])]
    rfl

/-- A blank. -/
def blankB (u : UInt8) : Bool := u == 32 || u == 9
/-- The words of what is left of a line, behind what the word has already. -/
def wordsG : List UInt8 → List UInt8 → List (List UInt8)
  | c, [] => if c = [] then [] else [c]
  | c, u :: l => if blankB u then (if c = [] then wordsG [] l else c :: wordsG [] l) else wordsG (c ++ [u]) l
def NoBlank (l : List UInt8) : Prop := ∀ u ∈ l, blankB u = false
theorem wordsG_full : ∀ {l : List UInt8}, NoBlank l → ∀ c, wordsG c l = if c ++ l = [] then [] else [c ++ l]
  | [], _, c => by simp [wordsG]
  | u :: l, h, c => by
    have h1 : blankB u = false := h u (by simp)
    rw [wordsG, h1, if_neg (by simp), wordsG_full (l := l) (fun v hv => h v (by simp [hv])) (c ++ [u])]
    simp
theorem wordsG_cut : ∀ {p : List UInt8}, NoBlank p → ∀ (c : List UInt8) {u : UInt8} (r : List UInt8), blankB u = true → wordsG c (p ++ u :: r) = if c ++ p = [] then wordsG [] r else (c ++ p) :: wordsG [] r
  | [], _, c, u, r, hu => by simp [wordsG, hu]
  | v :: p, h, c, u, r, hu => by
    have h1 : blankB v = false := h v (by simp)
    rw [List.cons_append, wordsG, h1, if_neg (by simp), wordsG_cut (p := p) (fun x hx => h x (by simp [hx])) (c ++ [v]) r hu]
    simp

/-- A digit. -/
def dig (u : UInt8) : Bool := decide (48 ≤ u.toNat) && decide (u.toNat ≤ 57)
theorem dig_iff {u : UInt8} : dig u = true ↔ 48 ≤ u.toNat ∧ u.toNat ≤ 57 := by simp [dig]
/-- The number of digits, behind a. -/
def val (a : Nat) (l : List UInt8) : Nat := l.foldl (fun a u => 10 * a + (u.toNat - 48)) a
theorem val_nil (a : Nat) : val a [] = a := rfl
theorem val_cons (a : Nat) (u : UInt8) (l : List UInt8) : val a (u :: l) = val (10 * a + (u.toNat - 48)) l := List.foldl_cons ..
theorem val_append : ∀ (l m : List UInt8) (a : Nat), val a (l ++ m) = val (val a l) m
  | [], _, _ => rfl
  | u :: l, m, a => by rw [List.cons_append, val_cons, val_append l m, val_cons]
theorem val_ge : ∀ (l : List UInt8) (a : Nat), a * 10 ^ l.length ≤ val a l
  | [], a => by simp [val_nil]
  | u :: l, a => by
    have h := val_ge l (10 * a + (u.toNat - 48))
    rw [val_cons, List.length_cons, Nat.pow_succ]
    refine Nat.le_trans ?_ h
    rw [Nat.mul_comm (10 ^ l.length) 10, ← Nat.mul_assoc, Nat.mul_comm a 10]
    exact Nat.mul_le_mul_right _ (Nat.le_add_right _ _)
theorem val_lt : ∀ {l : List UInt8}, l.all dig = true → ∀ a : Nat, val a l < (a + 1) * 10 ^ l.length
  | [], _, a => by simp [val_nil]
  | u :: l, h, a => by
    rw [List.all_cons, Bool.and_eq_true] at h
    have hd := dig_iff.1 h.1
    have h1 := val_lt (l := l) h.2 (10 * a + (u.toNat - 48))
    rw [val_cons, List.length_cons, Nat.pow_succ]
    refine Nat.lt_of_lt_of_le h1 ?_
    rw [Nat.mul_comm (10 ^ l.length) 10, ← Nat.mul_assoc]
    exact Nat.mul_le_mul_right _ (by omega)
/-- A number. -/
def isNum (l : List UInt8) : Bool := !l.isEmpty && !(decide (1 < l.length) && l.headD 0 == 48) && l.all dig
/-- A word's number, up to another one; or the error. -/
def numS (l : List UInt8) (most : Nat) : Nat × Int :=
  if isNum l then (if val 0 l ≤ most then (val 0 l, 0) else (0, 9)) else (0, 3)
/-- A number of more than one digit is at least as great as its length tells. -/
theorem val_long {l : List UInt8} (h : isNum l = true) (hl : 1 < l.length) : 10 ^ (l.length - 1) ≤ val 0 l := by
  cases l with
  | nil => simp at hl
  | cons u l =>
    simp only [isNum, List.isEmpty_cons, Bool.not_false, Bool.true_and, List.headD_cons, List.all_cons, Bool.and_eq_true, Bool.not_eq_true', Bool.and_eq_false_iff, decide_eq_false_iff_not, beq_eq_false_iff_ne] at h
    obtain ⟨h1, h2, -⟩ := h
    have h3 : u ≠ 48 := h1.resolve_left (fun q => q hl)
    have hd := dig_iff.1 h2
    have h4 : u.toNat ≠ 48 := fun e => h3 (UInt8.toNat.inj (by rw [e]; rfl))
    have := val_ge l (10 * 0 + (u.toNat - 48))
    rw [val_cons]
    refine Nat.le_trans ?_ this
    show 10 ^ (l.length + 1 - 1) ≤ _
    rw [Nat.add_sub_cancel]
    exact Nat.le_mul_of_pos_left _ (by omega)
/-- Of digits of one length the order of the bytes is that of the numbers. -/
theorem less_val : ∀ {l m : List UInt8}, l.all dig = true → m.all dig = true → l.length = m.length → ∀ a b : Nat, a = b → (Op.bytesLess l m = true ↔ val a l < val b m)
  | [], [], _, _, _, a, b, e => by subst e; simp [Op.bytesLess, val_nil]
  | u :: l, v :: m, hl, hm, hn, a, b, e => by
    subst e
    rw [List.all_cons, Bool.and_eq_true] at hl hm
    have h1 := dig_iff.1 hl.1
    have h2 := dig_iff.1 hm.1
    have hn' : l.length = m.length := by simpa using hn
    have hu : (u < v) = (u.toNat < v.toNat) := propext UInt8.lt_iff_toNat_lt
    rw [val_cons, val_cons, Op.bytesLess, Bool.or_eq_true, Bool.and_eq_true, decide_eq_true_eq, hu, beq_iff_eq]
    have g1 := val_lt hl.2 (10 * a + (u.toNat - 48))
    have g2 := val_ge m (10 * a + (v.toNat - 48))
    have g3 := val_lt hm.2 (10 * a + (v.toNat - 48))
    have g4 := val_ge l (10 * a + (u.toNat - 48))
    rcases Nat.lt_trichotomy u.toNat v.toNat with h | h | h
    · refine ⟨fun _ => ?_, fun _ => .inl h⟩
      refine Nat.lt_of_lt_of_le g1 (Nat.le_trans ?_ g2)
      rw [hn']
      exact Nat.mul_le_mul_right _ (by omega)
    · have ih := less_val (l := l) (m := m) hl.2 hm.2 hn' (10 * a + (u.toNat - 48)) (10 * a + (v.toNat - 48)) (by rw [h])
      have e : u = v := UInt8.toNat.inj h
      exact ⟨fun q => ih.1 (q.resolve_left (by omega)).2, fun q => .inr ⟨e, ih.2 q⟩⟩
    · refine ⟨fun q => ?_, fun q => ?_⟩
      · rcases q with q | ⟨q, -⟩
        · omega
        · subst q; omega
      · have : val (10 * a + (v.toNat - 48)) m < val (10 * a + (u.toNat - 48)) l := by
          refine Nat.lt_of_lt_of_le g3 (Nat.le_trans ?_ g4)
          rw [hn']
          exact Nat.mul_le_mul_right _ (by omega)
        omega
/-- The greatest number of 64 bits. -/
def topD : List UInt8 := [49, 56, 52, 52, 54, 55, 52, 52, 48, 55, 51, 55, 48, 57, 53, 53, 49, 54, 49, 53]
theorem topD_val : val 0 topD = 18446744073709551615 := by decide
/-- What the document asks of the digits: too long, or above the greatest one. -/
def overB (l : List UInt8) : Bool := decide (20 < l.length) || (decide (l.length = 20) && Op.bytesLess topD l)
theorem over_iff {l : List UInt8} (h : isNum l = true) : overB l = true ↔ 18446744073709551615 < val 0 l := by
  have hd : l.all dig = true := by
    simp only [isNum, Bool.and_eq_true] at h
    exact h.2
  unfold overB
  rw [Bool.or_eq_true, Bool.and_eq_true, decide_eq_true_eq, decide_eq_true_eq]
  rcases Nat.lt_trichotomy l.length 20 with h1 | h1 | h1
  · refine ⟨fun q => by rcases q with q | ⟨q, -⟩ <;> omega, fun q => ?_⟩
    have := val_lt hd 0
    have h3 : 10 ^ l.length ≤ 10 ^ 19 := Nat.pow_le_pow_right (by omega) (by omega)
    omega
  · have := less_val (l := topD) (m := l) (by decide) hd (by rw [h1]; rfl) 0 0 rfl
    rw [topD_val] at this
    refine ⟨fun q => ?_, fun q => .inr ⟨h1, this.2 q⟩⟩
    rcases q with q | ⟨-, q⟩
    · omega
    · exact this.1 q
  · refine ⟨fun _ => ?_, fun _ => .inl h1⟩
    have := val_long h (by omega)
    have h3 : 10 ^ 20 ≤ 10 ^ (l.length - 1) := Nat.pow_le_pow_right (by omega) (by omega)
    omega
/-- The digits of a number. -/
def putN (n : Nat) : List UInt8 := if n < 10 then [UInt8.ofNat (48 + n)] else putN (n / 10) ++ [UInt8.ofNat (48 + n % 10)]
theorem dig_of {k : Nat} (h : k < 10) : dig (UInt8.ofNat (48 + k)) = true ∧ (UInt8.ofNat (48 + k)).toNat = 48 + k := by
  have : (UInt8.ofNat (48 + k)).toNat = 48 + k := by rw [UInt8.toNat_ofNat']; omega
  exact ⟨dig_iff.2 (by omega), this⟩
theorem putN_lt {n : Nat} (h : n < 10) : putN n = [UInt8.ofNat (48 + n)] := by rw [putN, if_pos h]
theorem putN_ge {n : Nat} (h : ¬ n < 10) : putN n = putN (n / 10) ++ [UInt8.ofNat (48 + n % 10)] := by rw [putN, if_neg h]
theorem putN_pos (n : Nat) : 0 < (putN n).length := by
  by_cases h : n < 10
  · rw [putN_lt h]; exact Nat.one_pos
  · rw [putN_ge h, List.length_append]; exact Nat.lt_of_lt_of_le Nat.one_pos (Nat.le_add_left _ _)
theorem putN_facts (n : Nat) : (putN n).all dig = true ∧ val 0 (putN n) = n ∧ (1 < (putN n).length → (putN n).headD 0 ≠ 48) ∧ (n ≠ 0 → (putN n).headD 0 ≠ 48) := by
  induction n using Nat.strongRecOn with
  | _ n ih =>
    by_cases h : n < 10
    · rw [putN_lt h]
      have hd := dig_of h
      refine ⟨by rw [List.all_cons, hd.1]; rfl, by rw [val_cons, val_nil, hd.2]; omega, fun q => by simp at q, fun hn e => ?_⟩
      have e' : UInt8.ofNat (48 + n) = 48 := e
      have := hd.2
      rw [e'] at this
      have : (48 : Nat) = 48 + n := this
      omega
    · obtain ⟨h1, h2, -, h4⟩ := ih (n / 10) (by omega)
      have hp := putN_pos (n / 10)
      have hd := dig_of (show n % 10 < 10 by omega)
      rw [putN_ge h]
      have hh : (putN (n / 10) ++ [UInt8.ofNat (48 + n % 10)]).headD 0 = (putN (n / 10)).headD 0 := by
        cases hq : putN (n / 10) with
        | nil => rw [hq] at hp; exact absurd hp (by simp)
        | cons a b => rfl
      refine ⟨by rw [List.all_append, h1, List.all_cons, hd.1]; rfl, ?_, fun _ => by rw [hh]; exact h4 (by omega), fun _ => by rw [hh]; exact h4 (by omega)⟩
      rw [val_append, h2]
      rw [val_cons, val_nil, hd.2]
      omega
theorem putN_isNum (n : Nat) : isNum (putN n) = true := by
  obtain ⟨h1, -, h3, -⟩ := putN_facts n
  have hp := putN_pos n
  unfold isNum
  rw [h1, Bool.and_true]
  cases hq : putN n with
  | nil => rw [hq] at hp; exact absurd hp (by simp)
  | cons a b =>
    rw [hq] at h3
    by_cases hl : 1 < (a :: b).length
    · simp only [List.isEmpty_cons, Bool.not_false, Bool.true_and]
      have := h3 hl
      simp only [List.headD_cons] at this ⊢
      simp [this]
    · simp only [List.isEmpty_cons, Bool.not_false, Bool.true_and, decide_eq_false hl, Bool.false_and]
theorem putN_num (n : Nat) : numS (putN n) n = (n, 0) := by
  unfold numS
  rw [if_pos (putN_isNum n), (putN_facts n).2.1, if_pos (Nat.le_refl n)]
theorem putN_less {n m : Nat} (h : m < n) : numS (putN n) m = (0, 9) := by
  unfold numS
  rw [if_pos (putN_isNum n), (putN_facts n).2.1, if_neg (by omega)]
theorem putN_length {n : Nat} (h : n < 18446744073709551616) : (putN n).length ≤ 20 := by
  by_cases hl : 1 < (putN n).length
  · have := val_long (putN_isNum n) hl
    rw [(putN_facts n).2.1] at this
    refine Nat.le_of_not_lt fun q => ?_
    have h3 : 10 ^ 20 ≤ 10 ^ ((putN n).length - 1) := Nat.pow_le_pow_right (by omega) (by omega)
    omega
  · omega
/-- The document's answer is the plain one. -/
theorem numS_doc {l : List UInt8} {most : Nat} (hm : most < 18446744073709551616) (h : isNum l = true) : numS l most = if overB l then (0, 9) else if most < val 0 l then (0, 9) else (val 0 l, 0) := by
  unfold numS
  rw [if_pos h]
  by_cases ho : overB l = true
  · have := (over_iff h).1 ho
    rw [if_pos ho, if_neg (by omega)]
  · rw [if_neg ho]
    by_cases hv : most < val 0 l
    · rw [if_pos hv, if_neg (by omega)]
    · rw [if_neg hv, if_pos (by omega)]
end Go.Proofs.Ytniffijjdehnaaa.Tx
