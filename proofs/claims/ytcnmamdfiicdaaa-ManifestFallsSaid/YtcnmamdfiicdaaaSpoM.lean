/- A byte of a slot is spoilt: plain mathematics. -/
import Derived.Test.YtcnmamdfiicdaaaFallM
namespace Go.Proofs.Ytcnmamdfiicdaaa
open Go.RowKit Me Mf Rw Ds Fr

theorem gets_slot {m : ManD} (hw : Wf m) (hf : Fit m) (r : List UInt8) : GetsM (encS (secOf m) ++ r) m := by
  have hb := hf.2
  exact ⟨⟨(body m).length + 13, getS_enc (secOf m) r (by show (body m).length ≤ 1048576; omega)⟩, hf, hw⟩
theorem says_slot {m : ManD} (hw : Wf m) (hf : Fit m) : Says (slotOf m) (some m) := fun m' =>
  ⟨fun h => by rw [(gets_slot hw hf _).one h], fun e => by injection e with e; rw [← e]; exact gets_slot hw hf _⟩
/-- A slot with a byte turned tells the manifest, or none. -/
theorem says_turned {m : ManD} (hw : Wf m) (hf : Fit m) (p : Nat) (y : UInt8) : Says ((slotOf m).set p ((slotOf m).getD p 0 ^^^ y)) (some m) ∨ Says ((slotOf m).set p ((slotOf m).getD p 0 ^^^ y)) none := by
  have hb := hf.2
  have hlen := secOf_length m
  by_cases hp : p < (encS (secOf m)).length
  · by_cases hy : y = 0
    · left
      have : (slotOf m).set p ((slotOf m).getD p 0 ^^^ y) = slotOf m := by
        rw [hy, UInt8.xor_zero]
        apply List.ext_getElem?
        intro j
        rw [List.getElem?_set]
        by_cases e : p = j
        · subst e
          rw [if_pos rfl]
          split
          · rename_i h; rw [List.getD_eq_getElem?_getD, List.getElem?_eq_getElem h]; rfl
          · rename_i h; rw [List.getElem?_eq_none (by omega)]
        · rw [if_neg e]
      rw [this]
      exact says_slot hw hf
    · right
      obtain ⟨u, hu⟩ : ∃ u, (encS (secOf m))[p]? = some u := ⟨_, List.getElem?_eq_getElem hp⟩
      have e1 : (slotOf m).getD p 0 = u := by
        unfold slotOf
        rw [List.getD_eq_getElem?_getD, List.getElem?_append_left hp, hu]; rfl
      have e2 : (slotOf m).set p ((slotOf m).getD p 0 ^^^ y) = (encS (secOf m)).set p (u ^^^ y) ++ List.replicate (2048 - (encS (secOf m)).length) 0 := by
        rw [e1]; unfold slotOf; rw [List.set_append_left _ _ hp]
      obtain ⟨z, hz, hz0⟩ := getS_turned (secOf m) (List.replicate (2048 - (encS (secOf m)).length) 0) (by show (body m).length ≤ 1048576; omega) hu hy
      rw [e2]
      exact fun m' => ⟨fun h => absurd h (not_gets hz (.inl hz0) m'), fun e => by cases e⟩
  · left
    have e2 : (slotOf m).set p ((slotOf m).getD p 0 ^^^ y) = encS (secOf m) ++ (List.replicate (2048 - (encS (secOf m)).length) 0).set (p - (encS (secOf m)).length) ((slotOf m).getD p 0 ^^^ y) := by
      unfold slotOf
      rw [List.set_append_right _ _ (by omega)]
    rw [e2]
    exact fun m' => ⟨fun h => by rw [(gets_slot hw hf _).one h], fun e => by injection e with e; rw [← e]; exact gets_slot hw hf _⟩
theorem slotS_length {st : List (List UInt8)} {n : Nat} (hb : ∀ j, j < 16 → (st.getD (16 * n + j) []).length = 128) : ∀ k, k ≤ 16 → (slotS st n k).length = 128 * k
  | 0, _ => rfl
  | k + 1, hk => by rw [slotS, List.length_append, slotS_length hb k (by omega), hb k (by omega)]; omega
theorem slotS_get {st : List (List UInt8)} {n : Nat} (hb : ∀ j, j < 16 → (st.getD (16 * n + j) []).length = 128) : ∀ k, k ≤ 16 → ∀ p, p < 128 * k → (slotS st n k)[p]? = (st.getD (16 * n + p / 128) [])[p % 128]?
  | 0, _, _, h => by omega
  | k + 1, hk, p, h => by
    rw [slotS]
    by_cases hp : p < 128 * k
    · rw [List.getElem?_append_left (by rw [slotS_length hb k (by omega)]; exact hp), slotS_get hb k (by omega) p hp]
    · rw [List.getElem?_append_right (by rw [slotS_length hb k (by omega)]; omega), slotS_length hb k (by omega)]
      have e1 : p / 128 = k := by omega
      have e2 : p % 128 = p - 128 * k := by omega
      rw [e1, e2]
theorem all_getD {st : List (List UInt8)} (h : ∀ b ∈ st, b.length = 128) {n : Nat} (hs : 16 * n + 16 ≤ st.length) : ∀ j, j < 16 → (st.getD (16 * n + j) []).length = 128 := fun j hj => by
  rw [List.getD_eq_getElem?_getD, List.getElem?_eq_getElem (by omega)]
  exact h _ (List.getElem_mem _)
/-- A slot of which a byte of a block is turned. -/
theorem slotS_turn {st : List (List UInt8)} (h : ∀ b ∈ st, b.length = 128) {n : Nat} (hs : 16 * n + 16 ≤ st.length) {j a : Nat} (hj : j < 16) (ha : a < 128) (y : UInt8) :
    slotS (st.set (16 * n + j) (turnB (st.getD (16 * n + j) []) a y)) n 16 = (slotS st n 16).set (128 * j + a) ((slotS st n 16).getD (128 * j + a) 0 ^^^ y) := by
  have hb := all_getD h hs
  have hlt : 16 * n + j < st.length := by omega
  have hb' : ∀ i, i < 16 → ((st.set (16 * n + j) (turnB (st.getD (16 * n + j) []) a y)).getD (16 * n + i) []).length = 128 := fun i hi => by
    rw [List.getD_eq_getElem?_getD, List.getElem?_set]
    by_cases e : 16 * n + j = 16 * n + i
    · rw [if_pos e, if_pos hlt]
      show (turnB _ a y).length = 128
      unfold turnB
      rw [List.length_set]
      exact hb j hj
    · rw [if_neg e, ← List.getD_eq_getElem?_getD]
      exact hb i hi
  apply List.ext_getElem?
  intro p
  rw [List.getElem?_set, slotS_length hb 16 (Nat.le_refl _)]
  by_cases hp : p < 2048
  · rw [slotS_get hb' 16 (Nat.le_refl _) p (by omega), slotS_get hb 16 (Nat.le_refl _) p (by omega)]
    have hg : (slotS st n 16).getD (128 * j + a) 0 = (st.getD (16 * n + j) []).getD a 0 := by
      rw [List.getD_eq_getElem?_getD, slotS_get hb 16 (Nat.le_refl _) _ (by omega), show (128 * j + a) / 128 = j by omega, show (128 * j + a) % 128 = a by omega, ← List.getD_eq_getElem?_getD]
    rw [hg, List.getD_eq_getElem?_getD (l := st.set _ _), List.getElem?_set]
    by_cases e : 16 * n + j = 16 * n + p / 128
    · rw [if_pos e, if_pos hlt]
      show (turnB _ a y)[p % 128]? = _
      unfold turnB
      rw [List.getElem?_set, hb j hj]
      by_cases e2 : a = p % 128
      · rw [if_pos e2, if_pos ha, if_pos (by omega), if_pos (by omega)]
      · rw [if_neg e2, if_neg (by omega), e]
    · rw [if_neg e, ← List.getD_eq_getElem?_getD, if_neg (by omega)]
  · have h1 := slotS_length hb' 16 (Nat.le_refl _)
    have h2 := slotS_length hb 16 (Nat.le_refl _)
    rw [List.getElem?_eq_none (by omega), if_neg (by omega), List.getElem?_eq_none (by omega)]
/-- Of two slots one tells the manifest, the other one too, or none. -/
theorem ans_two {T : Nat → Option ManD} {Z : Nat → Bool} {m : ManD} (h : (T 0 = some m ∧ (T 1 = some m ∨ T 1 = none)) ∨ (T 1 = some m ∧ (T 0 = some m ∨ T 0 = none))) : ansOf (curOf T 2) (blkOf Z 2) = (m, 0) := by
  have hc : curOf T 2 = some m := by
    unfold curOf curOf curOf
    rcases h with ⟨h0, h1 | h1⟩ | ⟨h1, h0 | h0⟩ <;> rw [h0, h1] <;> simp [best]
  rw [hc]
  rfl
theorem spoil_slots {S : Dsk} (h : Calm S) (hon : S.on = true) {m : ManD} (hw : Wf m) (hf : Fit m) (hm : ∀ k, k < 2 → slotS S.stored k 16 = slotOf m) (hs : 32 < S.stored.length) (i : Nat) (hi : i < 32) (at_ : Int) (y : UInt8) {T : Nat → Option ManD} {Z : Nat → Bool}
    (hT : ∀ k, k < 2 → Says (slotD (spoilD S (i : Int) at_ y).1 k 16) (T k)) : ansD (spoilD S (i : Int) at_ y).1 T Z = (m, 0) := by
  have hsay := says_slot hw hf
  by_cases hat : hasB 128 at_ = true
  · obtain ⟨a, rfl, ha⟩ := hasB_true hat
    have e : (spoilD S (i : Int) (a : Int) y).1 = { S with stored := S.stored.set i (turnB (S.stored.getD i []) a y) } := by
      unfold spoilD
      rw [hasB_nat, hasB_nat, decide_eq_true (by omega), decide_eq_true ha]
      simp
    rw [e] at hT ⊢
    obtain ⟨n, j, hn, hj, rfl⟩ : ∃ n j, n < 2 ∧ j < 16 ∧ i = 16 * n + j := ⟨i / 16, i % 16, by omega, by omega, by omega⟩
    have hsl : ∀ k, k < 2 → slotD { S with stored := S.stored.set (16 * n + j) (turnB (S.stored.getD (16 * n + j) []) a y) } k 16 = slotS (S.stored.set (16 * n + j) (turnB (S.stored.getD (16 * n + j) []) a y)) k 16 := fun k hk =>
      slotD_stored (S := { S with stored := S.stored.set (16 * n + j) (turnB (S.stored.getD (16 * n + j) []) a y) }) hon h.pend (by simp; omega) (by omega) 16 (Nat.le_refl _)
    have hn1 := hT n hn
    rw [hsl n hn, slotS_turn h.all (by omega) hj ha, hm n hn] at hn1
    have hoth : ∀ k, k < 2 → k ≠ n → T k = some m := fun k hk hkn => by
      have := hT k hk
      rw [hsl k hk, slotS_other (n := n) (st := S.stored) hkn (fun p hp => by
        rw [List.getD_eq_getElem?_getD, List.getElem?_set, if_neg (by omega), ← List.getD_eq_getElem?_getD]), hm k hk] at this
      exact this.one hsay
    have hself : T n = some m ∨ T n = none := by
      rcases says_turned hw hf (128 * j + a) y with h | h
      · exact .inl (hn1.one h)
      · exact .inr (hn1.one h)
    unfold ansD
    rw [if_neg (by simp; omega)]
    simp only [hon, if_true]
    clear hsl hn1 hT hsay e
    refine ans_two ?_
    rcases (show n = 0 ∨ n = 1 by omega) with h0 | h0
    · rw [h0] at hself
      exact .inr ⟨hoth 1 (by omega) (by omega), hself⟩
    · rw [h0] at hself
      exact .inl ⟨hoth 0 (by omega) (by omega), hself⟩
  · have e : (spoilD S (i : Int) at_ y).1 = S := by
      unfold spoilD
      have : hasB 128 at_ = false := by simpa using hat
      rw [this]
      simp
    rw [e] at hT ⊢
    have hall : ∀ k, k < 2 → T k = some m := fun k hk => by
      have := hT k hk
      rw [slotD_stored hon h.pend h.size (by omega) 16 (Nat.le_refl _), hm k hk] at this
      exact this.one hsay
    unfold ansD
    rw [if_neg (by omega), hon]
    exact ans_two (.inl ⟨hall 0 (by omega), .inl (hall 1 (by omega))⟩)
theorem spoilD_keeps (S : Dsk) (i a : Int) (y : UInt8) : (spoilD S i a y).1.pend = S.pend := by
  unfold spoilD
  split <;> rfl
end Go.Proofs.Ytcnmamdfiicdaaa
