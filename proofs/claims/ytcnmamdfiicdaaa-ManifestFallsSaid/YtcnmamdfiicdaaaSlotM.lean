/- What becomes of a slot that is written, behind a fall, and behind none: plain mathematics. -/
import Derived.Test.YtcnmamdfiicdaaaMWrite
namespace Go.Proofs.Ytcnmamdfiicdaaa
open Go.RowKit Me Mf Rw Ds

theorem settle_other (K T : Nat) : ∀ (l : List WD) (k : Nat) (st : List (List UInt8)) (j : Nat), (∀ x ∈ l, x.i ≠ j) → (Ds.settle K T k l st).getD j [] = st.getD j []
  | [], _, _, _, _ => rfl
  | x :: l, k, st, j, h => by
    rw [Ds.settle, settle_other K T l _ _ j fun y hy => h y (by simp [hy])]
    have := h x (by simp)
    rw [List.getD_eq_getElem?_getD, List.getElem?_set, if_neg this, List.getD_eq_getElem?_getD]
theorem settle_ones : ∀ (l : List WD) (k : Nat) (st : List (List UInt8)) (j : Nat), j < st.length → (∀ x ∈ l, x.b.length = 128) → (∀ b ∈ st, b.length = 128) → (Ds.settle ones 0 k l st).getD j [] = lastW l j (st.getD j [])
  | [], _, _, _, _, _, _ => rfl
  | x :: l, k, st, j, hj, hl, hs => by
    have hx := hl x (by simp)
    have e : x.b.take (surv ones 0 k) ++ (st.getD x.i []).drop (surv ones 0 k) = x.b := by
      have : surv ones 0 k = 128 := by unfold surv; rw [ones_bit, if_pos rfl]
      rw [this, List.take_of_length_le (by omega), List.drop_of_length_le, List.append_nil]
      rw [List.getD_eq_getElem?_getD]
      cases hg : st[x.i]? with
      | none => simp
      | some b => have := hs b (List.mem_of_getElem? hg); simp [this]
    rw [Ds.settle, e, settle_ones l _ _ j (by rw [List.length_set]; exact hj) (fun y hy => hl y (by simp [hy])) (fun b hb => by
      rcases List.mem_or_eq_of_mem_set hb with h | h
      · exact hs b h
      · rw [h]; exact hx), lastW]
    congr 1
    rw [List.getD_eq_getElem?_getD, List.getD_eq_getElem?_getD, List.getElem?_set]
    by_cases e2 : x.i = j
    · subst e2; rw [if_pos rfl, if_pos rfl, if_pos hj]; rfl
    · rw [if_neg e2, if_neg e2]
theorem writeD_cases (S : Dsk) (i : Int) (l : List UInt8) : ((writeD S i l).2 = 0 ∧ (writeD S i l).1.stored = S.stored ∧ (writeD S i l).1.pend = S.pend ++ [⟨i.toNat, l⟩] ∧ (writeD S i l).1.on = true) ∨ ((writeD S i l).2 ≠ 0 ∧ (writeD S i l).1.stored = S.stored ∧ (writeD S i l).1.pend = S.pend) := by
  obtain ⟨h1, h2⟩ := power_pend S
  unfold writeD
  split
  · split
    · split
      · split
        · rename_i h; exact .inl ⟨rfl, h2, by simp [h1], h⟩
        · exact .inr ⟨by simp, h2, h1⟩
      · exact .inr ⟨by simp, rfl, rfl⟩
    · exact .inr ⟨by simp, rfl, rfl⟩
  · exact .inr ⟨by simp, rfl, rfl⟩
theorem syncD_cases (S : Dsk) : ((syncD S).2 = 0 ∧ (syncD S).1.stored = Ds.settle ones 0 0 S.pend S.stored ∧ (syncD S).1.pend = [] ∧ (syncD S).1.on = true) ∨ ((syncD S).2 ≠ 0 ∧ (syncD S).1.stored = S.stored ∧ (syncD S).1.pend = S.pend) := by
  obtain ⟨h1, h2⟩ := power_pend S
  unfold syncD
  split
  · split
    · rename_i h; exact .inl ⟨rfl, by simp [h1, h2], rfl, h⟩
    · exact .inr ⟨by simp, h2, h1⟩
  · exact .inr ⟨by simp, rfl, rfl⟩
/-- The writes of a slot's first blocks. -/
def chW (n : Nat) (l : List UInt8) (k : Nat) : List WD := (List.range k).map fun i => ⟨16 * n + i, chunkL l i⟩
theorem chW_succ (n : Nat) (l : List UInt8) (k : Nat) : chW n l (k + 1) = chW n l k ++ [⟨16 * n + k, chunkL l k⟩] := by simp [chW, List.range_succ]
theorem chW_in {n : Nat} {l : List UInt8} {k : Nat} {x : WD} (h : x ∈ chW n l k) (hk : k ≤ 16) : 16 * n ≤ x.i ∧ x.i < 16 * n + 16 := by
  obtain ⟨i, hi, rfl⟩ := List.mem_map.1 h
  have := List.mem_range.1 hi
  exact ⟨by show 16 * n ≤ 16 * n + i; omega, by show 16 * n + i < 16 * n + 16; omega⟩
theorem stD_cases (S : Dsk) (n : Nat) (l : List UInt8) : ∀ k, (stD S n l k).1.stored = S.stored ∧ ∃ j, j ≤ k ∧ (stD S n l k).1.pend = S.pend ++ chW n l j ∧ ((stD S n l k).2 = 0 → j = k)
  | 0 => ⟨rfl, 0, Nat.le_refl _, by simp [stD, chW], fun _ => rfl⟩
  | k + 1 => by
    obtain ⟨h1, j, hj, h2, h3⟩ := stD_cases S n l k
    rw [stD]
    split
    · rename_i hz
      have hjk := h3 hz
      subst hjk
      rcases writeD_cases (stD S n l j).1 ((16 * n + j : Nat) : Int) (chunkL l j) with ⟨q0, q1, q2, -⟩ | ⟨q0, q1, q2⟩
      · refine ⟨q1.trans h1, j + 1, Nat.le_refl _, ?_, fun _ => rfl⟩
        rw [q2, h2, chW_succ, Int.toNat_natCast, List.append_assoc]
      · exact ⟨q1.trans h1, j, by omega, q2.trans h2, fun h => absurd h q0⟩
    · rename_i hz
      exact ⟨h1, j, by omega, h2, fun h => absurd h hz⟩
/-- A slot's blocks, as they are stored. -/
def slotS (st : List (List UInt8)) (n : Nat) : Nat → List UInt8
  | 0 => []
  | k + 1 => slotS st n k ++ st.getD (16 * n + k) []
theorem slotS_eq {st st' : List (List UInt8)} {n : Nat} (h : ∀ j, 16 * n ≤ j → j < 16 * n + 16 → st.getD j [] = st'.getD j []) : ∀ k, k ≤ 16 → slotS st n k = slotS st' n k
  | 0, _ => rfl
  | k + 1, hk => by rw [slotS, slotS, slotS_eq h k (by omega), h _ (by omega) (by omega)]
theorem slotS_chunks {st : List (List UInt8)} {n : Nat} {l : List UInt8} (hl : l.length = 2048) (h : ∀ j, j < 16 → st.getD (16 * n + j) [] = chunkL l j) : slotS st n 16 = l := by
  have : ∀ k, k ≤ 16 → slotS st n k = l.take (128 * k) := by
    intro k
    induction k with
    | zero => intro _; rfl
    | succ k ih =>
      intro hk
      rw [slotS, ih (by omega), h k (by omega), chunkL, Nat.mul_succ, List.take_add]
  rw [this 16 (Nat.le_refl _), List.take_of_length_le (by omega)]
theorem slotD_stored {S : Dsk} (hon : S.on = true) (hp : S.pend = []) (hs : 32 ≤ S.stored.length) {n : Nat} (hn : n ≤ 1) : ∀ k, k ≤ 16 → slotD S n k = slotS S.stored n k
  | 0, _ => rfl
  | k + 1, hk => by
    rw [slotD, slotS, slotD_stored hon hp hs hn k (by omega)]
    congr 1
    unfold readD readE latestD
    rw [hon, hasB_nat, decide_eq_true (by omega), hp, Int.toNat_natCast]
    rfl
theorem lastW_chW (n : Nat) (l : List UInt8) (b : List UInt8) : ∀ (k i : Nat), i < k → lastW (chW n l k) (16 * n + i) b = chunkL l i
  | 0, _, h => by omega
  | k + 1, i, h => by
    rw [chW_succ, lastW_snoc]
    by_cases e : k = i
    · subst e; exact if_pos rfl
    · rw [if_neg (by show ¬ 16 * n + k = 16 * n + i; omega)]; exact lastW_chW n l b k i (by omega)
/-- A slot that is written: all is as it was, but for what is pending; or the slot has the bytes, and nothing is pending. -/
theorem wslotD_cases {S : Dsk} (hp : S.pend = []) (hb : ∀ b ∈ S.stored, b.length = 128) {n : Nat} (hs : 16 * n + 16 ≤ S.stored.length) {l : List UInt8} (hl : l.length = 2048) :
    ((wslotD S n l).2 = 0 ∧ slotS (wslotD S n l).1.stored n 16 = l ∧ (∀ j, ¬ (16 * n ≤ j ∧ j < 16 * n + 16) → (wslotD S n l).1.stored.getD j [] = S.stored.getD j []) ∧ (wslotD S n l).1.pend = [] ∧ (wslotD S n l).1.on = true ∧ (wslotD S n l).1.stored.length = S.stored.length) ∨
    ((wslotD S n l).2 ≠ 0 ∧ (wslotD S n l).1.stored = S.stored ∧ ∀ x ∈ (wslotD S n l).1.pend, 16 * n ≤ x.i ∧ x.i < 16 * n + 16) := by
  obtain ⟨h1, j, hj, h2, h3⟩ := stD_cases S n l 16
  rw [hp, List.nil_append] at h2
  unfold wslotD
  split
  · rename_i hz
    have hj16 := h3 hz
    subst hj16
    rcases syncD_cases (stD S n l 16).1 with ⟨q0, q1, q2, q3⟩ | ⟨q0, q1, q2⟩
    · rw [h1, h2] at q1
      refine .inl ⟨q0, ?_, fun j hj => ?_, q2, q3, by rw [q1, settle_length]⟩
      · refine slotS_chunks hl fun j hj => ?_
        rw [q1, settle_ones _ _ _ _ (by omega) (fun x hx => ?_) hb]
        · exact lastW_chW n l _ 16 j hj
        · obtain ⟨i, hi, rfl⟩ := List.mem_map.1 hx
          exact chunkL_length hl (List.mem_range.1 hi)
      · rw [q1, settle_other _ _ _ _ _ _ fun x hx e => hj (by have := chW_in hx (Nat.le_refl _); omega)]
    · exact .inr ⟨q0, q1.trans h1, fun x hx => chW_in (n := n) (l := l) (k := 16) (by rw [q2, h2] at hx; exact hx) (Nat.le_refl _)⟩
  · rename_i hz
    exact .inr ⟨hz, h1, fun x hx => chW_in (n := n) (l := l) (k := j) (by rw [h2] at hx; exact hx) hj⟩
/-- Without a fuse all is done. -/
theorem stD_done {S : Dsk} (hon : S.on = true) (hf : S.fuse < 0) {n : Nat} (hs : 16 * n + 16 ≤ S.stored.length) {l : List UInt8} (hl : l.length = 2048) : ∀ k, k ≤ 16 → (stD S n l k).2 = 0 ∧ (stD S n l k).1.on = true ∧ (stD S n l k).1.fuse = S.fuse ∧ (stD S n l k).1.stored = S.stored
  | 0, _ => ⟨rfl, hon, rfl, rfl⟩
  | k + 1, hk => by
    obtain ⟨h0, h1, h2, h3⟩ := stD_done hon hf hs hl k (by omega)
    rw [stD, if_pos h0, writeD_ok h1 (by omega) (by rw [h3]; omega) (chunkL_length hl (by omega))]
    exact ⟨rfl, h1, h2, h3⟩
theorem wslotD_done {S : Dsk} (hon : S.on = true) (hf : S.fuse < 0) {n : Nat} (hs : 16 * n + 16 ≤ S.stored.length) {l : List UInt8} (hl : l.length = 2048) : (wslotD S n l).2 = 0 ∧ (wslotD S n l).1.fuse = S.fuse := by
  obtain ⟨h0, h1, h2, h3⟩ := stD_done hon hf hs hl 16 (Nat.le_refl _)
  unfold wslotD
  rw [if_pos h0]
  unfold syncD
  rw [h1, if_pos rfl, power_neg (by omega), if_pos h1]
  exact ⟨rfl, h2⟩
end Go.Proofs.Ytcnmamdfiicdaaa
