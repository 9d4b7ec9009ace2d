/- Words and numbers of a text, as the library finds them rune by rune: plain mathematics. -/
import Derived.Test.YtbedepnmgnlijaaDoorTxL
import Derived.Lib.DecodeN
import Derived.Lib.FieldsP
import Derived.Lib.TrimUEq
import Derived.Lib.ParseIntB
import Derived.Lib.ItoaNum
import Derived.Shelf.GgClosure.StringsIndexFunc
namespace Go.Proofs.YtbedepnmgnlijaaDoor.Tx
open Go.Lib

theorem len_eq (s : ByteArray) : s.data.toList.length = s.size := Array.length_toList
/-- What stands in a string's place. -/
theorem get_at (l : List UInt8) (i : Nat) (hi : i < l.length) : l[i]? = some (l.getD i 0) := by
  rw [List.getD_eq_getElem?_getD, List.getElem?_eq_getElem hi]
  rfl
theorem decN_facts (n b0 b1 b2 b3 : Nat) (hn : 1 ≤ n) : (b0 < 128 → decodeN n b0 b1 b2 b3 = (b0, 1)) ∧ (128 ≤ b0 → 128 ≤ (decodeN n b0 b1 b2 b3).1) ∧ 1 ≤ (decodeN n b0 b1 b2 b3).2 ∧ (decodeN n b0 b1 b2 b3).2 ≤ n ∧ (decodeN n b0 b1 b2 b3).2 ≤ 4 ∧
    (2 ≤ (decodeN n b0 b1 b2 b3).2 → 128 ≤ b1) ∧ (3 ≤ (decodeN n b0 b1 b2 b3).2 → 128 ≤ b2) ∧ (4 ≤ (decodeN n b0 b1 b2 b3).2 → 128 ≤ b3) := by
  unfold decodeN
  repeat' split
  all_goals (simp only; refine ⟨fun h => ?_, fun h => ?_, ?_, ?_, ?_, fun h => ?_, fun h => ?_, fun h => ?_⟩ <;> first | trivial | omega | rfl | (exfalso; omega))
/-- A rune: an ASCII byte is itself; another one begins as its bytes do, with none of ASCII. -/
theorem dec_facts (s : ByteArray) (l : List UInt8) (hl : l = s.data.toList) (i : Nat) (hi : i < s.size) : ((l.getD i 0).toNat < 128 → Utf8.decode s i = ((l.getD i 0).toNat, 1)) ∧ (128 ≤ (l.getD i 0).toNat → 128 ≤ (Utf8.decode s i).1) ∧ 1 ≤ (Utf8.decode s i).2 ∧ i + (Utf8.decode s i).2 ≤ s.size ∧
    (128 ≤ (l.getD i 0).toNat → ∀ j, j < (Utf8.decode s i).2 → 128 ≤ (l.getD (i + j) 0).toNat) := by
  subst hl
  have hn := len_eq s
  have h := decN_facts (s.data.toList.length - i) (s.data.toList.getD i 0).toNat (s.data.toList.getD (i + 1) 0).toNat (s.data.toList.getD (i + 2) 0).toNat (s.data.toList.getD (i + 3) 0).toNat (by omega)
  rw [← decode_N] at h
  obtain ⟨h1, h2, h3, h4, h5, h6, h7, h8⟩ := h
  refine ⟨h1, h2, h3, by omega, fun h0 j hj => ?_⟩
  have : j = 0 ∨ j = 1 ∨ j = 2 ∨ j = 3 := by omega
  rcases this with rfl | rfl | rfl | rfl
  · exact h0
  · exact h6 (by omega)
  · exact h7 (by omega)
  · exact h8 (by omega)
theorem sp_yes (p : Nat → Bool) (s : ByteArray) (f pos : Nat) (st : Option Nat) (acc : List (Nat × Nat)) (h : pos < s.size) (hp : p (Utf8.decode s pos).1 = true) :
    spansFromP p s (f + 1) pos st acc = spansFromP p s f (pos + (Utf8.decode s pos).2) none (match st with | some a => acc ++ [(a, pos)] | none => acc) := by
  simp only [spansFromP, h, hp, if_true]
  cases st <;> rfl
theorem sp_no (p : Nat → Bool) (s : ByteArray) (f pos : Nat) (st : Option Nat) (acc : List (Nat × Nat)) (h : pos < s.size) (hp : p (Utf8.decode s pos).1 = false) :
    spansFromP p s (f + 1) pos st acc = spansFromP p s f (pos + (Utf8.decode s pos).2) (some (st.getD pos)) acc := by
  simp only [spansFromP, h, hp, if_true, Bool.false_eq_true, if_false]
  cases st <;> rfl
theorem drop_at {l : List UInt8} {i : Nat} {u : UInt8} (h : l[i]? = some u) : l.drop i = u :: l.drop (i + 1) := by
  obtain ⟨hl, e⟩ := List.getElem?_eq_some_iff.1 h
  rw [List.drop_eq_getElem_cons hl, e]

/-- A blank among the runes. -/
def blankR (r : Nat) : Bool := r == 32 || r == 9
theorem wordsG_skip : ∀ {q : List UInt8}, NoBlank q → ∀ (c r : List UInt8), wordsG c (q ++ r) = wordsG (c ++ q) r
  | [], _, c, r => by simp
  | u :: q, h, c, r => by
    have h1 : blankB u = false := h u (by simp)
    rw [List.cons_append, wordsG, h1, if_neg (by simp), wordsG_skip (q := q) (fun v hv => h v (by simp [hv])) (c ++ [u]) r]
    simp
theorem cut_more (l : List UInt8) (a k w : Nat) (h : a ≤ k) : cutB l a (k + w) = cutB l a k ++ (l.drop k).take w := by
  unfold cutB
  rw [show k + w - a = (k - a) + w by omega, List.take_add, List.drop_drop, show a + (k - a) = k by omega]
theorem cut_nil (l : List UInt8) (a : Nat) : cutB l a a = [] := by simp [cutB]
/-- What the word has already. -/
def curW (l : List UInt8) (st : Option Nat) (pos : Nat) : List UInt8 :=
  match st with
  | none => []
  | some a => cutB l a pos
theorem ext_cut (s : ByteArray) (a b : Nat) : (s.extract a b).data.toList = cutB s.data.toList a b := by
  unfold cutB
  simp
theorem cur_ne (l : List UInt8) (a pos : Nat) (h : a < pos) (hp : pos ≤ l.length) : cutB l a pos ≠ [] := fun e => by
  have := congrArg List.length e
  unfold cutB at this
  rw [List.length_take, List.length_drop, List.length_nil] at this
  omega
theorem spans_end (s : ByteArray) (st : Option Nat) (acc : List (Nat × Nat)) (hst : ∀ a, st = some a → a < s.size) :
    (closeSpans s (acc, st)).map (fun x => (s.extract x.1 x.2).data.toList) = acc.map (fun x => (s.extract x.1 x.2).data.toList) ++ wordsG (curW s.data.toList st s.size) (s.data.toList.drop s.size) := by
  have hd : s.data.toList.drop s.size = [] := List.drop_eq_nil_of_le (by rw [len_eq]; exact Nat.le_refl _)
  rw [hd, wordsG]
  cases st with
  | none => simp [closeSpans, curW]
  | some a =>
    have hne : curW s.data.toList (some a) s.size ≠ [] := cur_ne _ _ _ (hst a rfl) (by rw [len_eq]; exact Nat.le_refl _)
    rw [if_neg hne]
    simp only [closeSpans, curW, List.map_append, List.map_cons, List.map_nil, ext_cut]
theorem spans_words (s : ByteArray) (l : List UInt8) (hl : l = s.data.toList) : ∀ (f pos : Nat) (st : Option Nat) (acc : List (Nat × Nat)), s.size ≤ pos + f → pos ≤ s.size → (∀ a, st = some a → a < pos) →
    (closeSpans s (spansFromP blankR s f pos st acc)).map (fun x => (s.extract x.1 x.2).data.toList) = acc.map (fun x => (s.extract x.1 x.2).data.toList) ++ wordsG (curW l st pos) (l.drop pos) := by
  have hn : l.length = s.size := by rw [hl]; exact len_eq s
  have fin : ∀ (f pos : Nat) (st : Option Nat) (acc : List (Nat × Nat)), ¬ pos < s.size → pos ≤ s.size → (∀ a, st = some a → a < pos) → (closeSpans s (spansFromP blankR s f pos st acc)).map (fun x => (s.extract x.1 x.2).data.toList) = acc.map (fun x => (s.extract x.1 x.2).data.toList) ++ wordsG (curW l st pos) (l.drop pos) := by
    intro f pos st acc hlt hp hst
    have e : pos = s.size := by omega
    rw [spansFromP_end _ _ _ _ _ _ hlt]
    subst e
    rw [hl]
    exact spans_end s st acc hst
  intro f
  induction f with
  | zero =>
    intro pos st acc hf hp hst
    exact fin 0 pos st acc (by omega) hp hst
  | succ f ih =>
    intro pos st acc hf hp hst
    by_cases hlt : pos < s.size
    · obtain ⟨d1, d2, d3, d4, d5⟩ := dec_facts s l hl pos hlt
      have hu := get_at l pos (by omega)
      have hd := drop_at hu
      obtain ⟨u, hg⟩ : ∃ u, l.getD pos 0 = u := ⟨_, rfl⟩
      rw [hg] at d1 d2 d5 hu hd
      by_cases hb : blankR (Utf8.decode s pos).1 = true
      · -- a blank: it is of ASCII
        have ha : u.toNat < 128 := by
          rcases Nat.lt_or_ge u.toNat 128 with h | h
          · exact h
          · have := d2 h
            unfold blankR at hb
            simp at hb
            omega
        have he := d1 ha
        rw [sp_yes _ _ _ _ _ _ hlt hb, he]
        rw [he] at hb
        have hbl : blankB u = true := by
          unfold blankR at hb
          unfold blankB
          simp only [Bool.or_eq_true, beq_iff_eq] at hb ⊢
          rcases hb with h | h
          · exact .inl (UInt8.toNat_inj.1 h)
          · exact .inr (UInt8.toNat_inj.1 h)
        rw [ih (pos + 1) none _ (by omega) (by omega) (fun a h => by cases h), hd, wordsG, if_pos hbl]
        cases st with
        | none => simp [curW]
        | some a =>
          have hne : curW l (some a) pos ≠ [] := cur_ne _ _ _ (hst a rfl) (by omega)
          rw [if_neg hne]
          simp only [curW, List.map_append, List.map_cons, List.map_nil, ext_cut, ← hl, List.append_assoc, List.cons_append, List.nil_append]
      · have hb' := Bool.eq_false_iff.2 hb
        rw [sp_no _ _ _ _ _ _ hlt hb']
        obtain ⟨k, hk⟩ : ∃ k, (Utf8.decode s pos).2 = k := ⟨_, rfl⟩
        have hq : NoBlank ((l.drop pos).take k) := fun v hv => by
          obtain ⟨j, hj⟩ := List.mem_iff_getElem?.1 hv
          rw [List.getElem?_take] at hj
          split at hj
          · rename_i hjk
            rw [List.getElem?_drop, get_at l (pos + j) (by omega)] at hj
            injection hj with hj
            by_cases ha : u.toNat < 128
            · rw [d1 ha] at hk hb'
              have : j = 0 := by simp at hk; omega
              subst this
              rw [Nat.add_zero, hg] at hj
              subst hj
              unfold blankR at hb'
              unfold blankB
              simp only [Bool.or_eq_false_iff, beq_eq_false_iff_ne, ne_eq] at hb' ⊢
              exact ⟨fun e => hb'.1 (by rw [e]; rfl), fun e => hb'.2 (by rw [e]; rfl)⟩
            · have := d5 (by omega) j (by omega)
              rw [hj] at this
              unfold blankB
              simp only [Bool.or_eq_false_iff, beq_eq_false_iff_ne, ne_eq]
              exact ⟨fun e => by subst e; exact absurd this (by decide), fun e => by subst e; exact absurd this (by decide)⟩
          · cases hj
        have hsplit : l.drop pos = (l.drop pos).take k ++ l.drop (pos + k) := by
          rw [← List.drop_drop, List.take_append_drop]
        rw [hk, ih (pos + k) (some (st.getD pos)) acc (by omega) (by omega) (fun a h => by
          cases h
          cases st with
          | none => simp; omega
          | some a => have := hst a rfl; simp; omega)]
        rw [hsplit, wordsG_skip hq]
        congr 2
        cases st with
        | none =>
          simp only [curW, Option.getD_none]
          rw [cut_more _ _ _ _ (Nat.le_refl _), cut_nil]
        | some a =>
          have haa := hst a rfl
          simp only [curW, Option.getD_some]
          rw [cut_more _ _ _ _ (show a ≤ pos by omega)]
    · exact fin _ pos st acc hlt hp hst
/-- The library's fields are the document's words. -/
theorem fields_words (s : ByteArray) : (goFieldsP blankR s).map (fun x => x.data.toList) = wordsG [] s.data.toList := by
  have := spans_words s _ rfl s.size 0 none [] (by omega) (Nat.zero_le _) (fun a h => by cases h)
  unfold goFieldsP spansOfP
  rw [List.map_map]
  exact this

/-- No digit among the runes. -/
def noDigR (r : Nat) : Bool := decide (r < 48) || decide (57 < r)
theorem idx_dig (s : ByteArray) (l : List UInt8) (hl : l = s.data.toList) : ∀ (f pos : Nat), s.size ≤ pos + f → pos ≤ s.size → decide (0 ≤ idxFuncFrom noDigR true s f pos) = !(l.drop pos).all dig := by
  have hn : l.length = s.size := by rw [hl]; exact len_eq s
  have fin : ∀ (f pos : Nat), ¬ pos < s.size → decide (0 ≤ idxFuncFrom noDigR true s f pos) = !(l.drop pos).all dig := fun f pos h => by
    rw [List.drop_eq_nil_of_le (by omega), idxFuncFrom_end _ _ _ _ _ h]
    rfl
  intro f
  induction f with
  | zero =>
    intro pos hf hp
    exact fin 0 pos (by omega)
  | succ f ih =>
    intro pos hf hp
    by_cases hlt : pos < s.size
    · obtain ⟨d1, d2, -, -, -⟩ := dec_facts s l hl pos hlt
      have hu := get_at l pos (by omega)
      have hd := drop_at hu
      obtain ⟨u, hg⟩ : ∃ u, l.getD pos 0 = u := ⟨_, rfl⟩
      rw [hg] at d1 d2 hu hd
      rw [idxFuncFrom, if_pos hlt, hd, List.all_cons]
      by_cases ha : u.toNat < 128
      · rw [d1 ha]
        by_cases hb : dig u = true
        · have := dig_iff.1 hb
          have hn : noDigR u.toNat = false := by unfold noDigR; simp; omega
          rw [hn, if_neg (by simp), ih (pos + 1) (by omega) (by omega), hb, Bool.true_and]
        · have hx : ¬ (48 ≤ u.toNat ∧ u.toNat ≤ 57) := fun h => hb (dig_iff.2 h)
          have hn : noDigR u.toNat = true := by
            unfold noDigR
            simp
            omega
          rw [hn, if_pos rfl, Bool.eq_false_iff.2 hb]
          simp
      · have hr := d2 (by omega)
        have hn : noDigR (Utf8.decode s pos).1 = true := by unfold noDigR; simp; omega
        have hb : dig u = false := by
          rw [Bool.eq_false_iff]
          intro h
          have := dig_iff.1 h
          omega
        rw [hn, if_pos rfl, hb]
        simp
    · exact fin _ pos hlt
theorem contains_dig (s : ByteArray) : decide (0 ≤ idxFunc noDigR true s) = !s.data.toList.all dig := by
  have := idx_dig s _ rfl s.size 0 (by omega) (Nat.zero_le _)
  rw [List.drop_zero] at this
  exact this

/-- The library's number of digits. -/
theorem parse_val : ∀ {l : List UInt8}, l.all dig = true → ∀ a : Nat, parseUintM 18446744073709551615 a l = if val a l ≤ 18446744073709551615 then .ok (val a l) else if l = [] then .ok a else .range
  | [], _, a => by simp [parseUintM, val_nil]
  | u :: l, h, a => by
    rw [List.all_cons, Bool.and_eq_true] at h
    have hd := dig_iff.1 h.1
    have hge := val_ge l (10 * a + (u.toNat - 48))
    have h1 : 1 ≤ 10 ^ l.length := Nat.pow_pos (by omega)
    have h2 : 10 * a + (u.toNat - 48) ≤ val (10 * a + (u.toNat - 48)) l := Nat.le_trans (by have := Nat.mul_le_mul_left (10 * a + (u.toNat - 48)) h1; omega) hge
    rw [parseUintM, if_pos hd, val_cons]
    by_cases hc : 1844674407370955162 ≤ a
    · rw [if_pos hc, if_neg (by omega), if_neg (List.cons_ne_nil _ _)]
    · rw [if_neg hc]
      by_cases hm : 18446744073709551615 < a * 10 + (u.toNat - 48)
      · rw [if_pos hm, if_neg (by omega), if_neg (List.cons_ne_nil _ _)]
      · rw [if_neg hm, show a * 10 + (u.toNat - 48) = 10 * a + (u.toNat - 48) by omega, parse_val h.2]
        by_cases hv : val (10 * a + (u.toNat - 48)) l ≤ 18446744073709551615
        · rw [if_pos hv, if_pos hv]
        · rw [if_neg hv, if_neg hv, if_neg (List.cons_ne_nil _ _)]
          by_cases hl : l = []
          · subst hl
            rw [val_nil] at hv
            omega
          · rw [if_neg hl]
theorem parse_num {l : List UInt8} (h : isNum l = true) : parseUintB 64 l = if val 0 l ≤ 18446744073709551615 then .ok (val 0 l) else .range := by
  unfold isNum at h
  simp only [Bool.and_eq_true, Bool.not_eq_true'] at h
  have hne : l ≠ [] := fun e => by rw [e] at h; simp at h
  unfold parseUintB
  rw [if_neg hne, show (2 : Nat) ^ 64 - 1 = 18446744073709551615 from rfl, parse_val h.2, if_neg hne]
/-- The library's digits are the document's. -/
theorem decDigits_putN (n : Nat) : decDigits n = putN n := by
  induction n using Nat.strongRecOn with
  | _ n ih =>
    by_cases h : n < 10
    · rw [decDigits, dif_pos h, putN_lt h]
    · rw [decDigits, dif_neg h, putN_ge h, ih (n / 10) (by omega)]
end Go.Proofs.YtbedepnmgnlijaaDoor.Tx
