/- What is read behind a fall: plain mathematics. -/
import Derived.Test.YtcnmamdfiicdaaaSpoM
namespace Go.Proofs.Ytcnmamdfiicdaaa
open Go.RowKit Me Mf Rw Ds Fr

theorem gets_first {b : List UInt8} {m : ManD} (h : GetsM b m) : b.getD 0 0 = 77 := by
  obtain ⟨⟨k, e⟩, -, -⟩ := h
  unfold getS at e
  repeat' split at e
  all_goals first | (injection e with e1 e2; injection e2 with _ e2; cases e2; done) | skip
  injection e with e1 _
  injection e1
/-- The bytes of a slot on which nothing was written. -/
def blankS : List UInt8 := List.replicate 2048 0
theorem blank_no (m : ManD) (h : GetsM blankS m) : False := by
  have := gets_first h
  unfold blankS at this
  rw [List.getD_eq_getElem?_getD, List.getElem?_replicate, if_pos (by omega)] at this
  exact absurd this (by decide)
theorem says_blank : Says blankS none := fun m => ⟨fun h => (blank_no m h).elim, fun e => by cases e⟩
theorem zeros_blank : zeros blankS = true := by
  unfold zeros blankS
  rw [List.all_eq_true]
  intro x hx
  rw [List.eq_of_mem_replicate hx]
  rfl
theorem curOf_two {T : Nat → Option ManD} {a b : ManD} (h : ∀ k, k < 2 → T k = none ∨ T k = some a ∨ T k = some b) (he : ∃ k, k < 2 ∧ T k ≠ none) : curOf T 2 = some a ∨ curOf T 2 = some b := by
  have h0 := h 0 (by omega)
  have h1 := h 1 (by omega)
  have he' : T 0 ≠ none ∨ T 1 ≠ none := by
    obtain ⟨k, hk, hn⟩ := he
    rcases (show k = 0 ∨ k = 1 by omega) with rfl | rfl
    · exact .inl hn
    · exact .inr hn
  unfold curOf curOf curOf
  clear h he
  generalize T 0 = x at *
  generalize T 1 = y at *
  rcases h0 with rfl | rfl | rfl <;> rcases h1 with rfl | rfl | rfl <;> simp [best] at he' ⊢
  · by_cases h : a.version < b.version
    · exact .inr fun h' => absurd h' (by omega)
    · exact .inl fun h' => absurd h' h
  · by_cases h : b.version < a.version
    · exact .inl fun h' => absurd h' (by omega)
    · exact .inr fun h' => absurd h' h
theorem ans_some {T : Nat → Option ManD} {Z : Nat → Bool} {m : ManD} (h : curOf T 2 = some m) : ansOf (curOf T 2) (blkOf Z 2) = (m, 0) := by rw [h]; rfl
/-- What the slots of a disk have between two writes. -/
structure Old (S : Dsk) (m : ManD) : Prop where
  on : S.on = true
  fuse : S.fuse = -1
  calm : Calm S
  size : S.stored.length = 40
  slots : (m = noMan ∧ ∀ k, k < 2 → slotS S.stored k 16 = blankS) ∨ (Fit m ∧ Wf m ∧ ∀ k, k < 2 → slotS S.stored k 16 = slotOf m)
theorem slotS_zero (n : Nat) : ∀ (k c : Nat), 16 * n + k ≤ c → slotS (List.replicate c zero128) n k = List.replicate (128 * k) 0
  | 0, _, _ => rfl
  | k + 1, c, h => by
    rw [slotS, slotS_zero n k c (by omega), List.getD_eq_getElem?_getD, List.getElem?_replicate, if_pos (by omega)]
    show _ ++ zero128 = _
    unfold zero128
    rw [List.replicate_append_replicate]
    congr 1
theorem Old.new : Old (newD 40) noMan := ⟨rfl, rfl, new_calm (by omega), by simp [newD], .inl ⟨rfl, fun k hk => slotS_zero k 16 40 (by omega)⟩⟩
/-- A write that is done. -/
theorem Old.write {S : Dsk} {mw m : ManD} (h : Old S mw) (hf : Fit m) (hw : Wf m) : (wmD S m 2).2 = 0 ∧ Old (wmD S m 2).1 m := by
  obtain ⟨h1, h2⟩ := wmD_done h.calm hf h.on (by rw [h.fuse]; omega)
  refine ⟨h1, ?_⟩
  rcases wmD_cases h.calm hf with ⟨q, -⟩ | ⟨q, -⟩ | ⟨-, r1, r2, r3, r4⟩
  · exact absurd h1 q
  · exact absurd h1 q
  · exact ⟨r3, by rw [h2, h.fuse], r2, by rw [r4, h.size], .inr ⟨hf, hw, r1⟩⟩
theorem Old.slot {S : Dsk} {m : ManD} (h : Old S m) {k : Nat} (hk : k < 2) : slotD S k 16 = slotS S.stored k 16 := slotD_stored h.on h.calm.pend h.calm.size (by omega) 16 (Nat.le_refl _)
/-- What is read of a manifest that was written. -/
theorem Old.read {S : Dsk} {m : ManD} (h : Old S m) (hf : Fit m) (hw : Wf m) (hm : ∀ k, k < 2 → slotS S.stored k 16 = slotOf m) {T : Nat → Option ManD} {Z : Nat → Bool} (hT : ∀ k, k < 2 → Says (slotD S k 16) (T k)) : ansD S T Z = (m, 0) := by
  have hall : ∀ k, k < 2 → T k = some m := fun k hk => by
    have := hT k hk
    rw [h.slot hk, hm k hk] at this
    exact this.one (says_slot hw hf)
  unfold ansD
  rw [if_neg (by rw [h.size]; omega), h.on]
  exact ans_two (.inl ⟨hall 0 (by omega), .inl (hall 1 (by omega))⟩)
theorem Old.written {S : Dsk} {mw m : ManD} (h : Old S mw) (hf : Fit m) (hw : Wf m) {T : Nat → Option ManD} {Z : Nat → Bool} (hT : ∀ k, k < 2 → Says (slotD (wmD S m 2).1 k 16) (T k)) : ansD (wmD S m 2).1 T Z = (m, 0) := by
  obtain ⟨h1, h2⟩ := h.write hf hw
  refine h2.read hf hw ?_ hT
  rcases wmD_cases h.calm hf with ⟨q, -⟩ | ⟨q, -⟩ | ⟨-, r1, -⟩
  · exact absurd h1 q
  · exact absurd h1 q
  · exact r1
/-- The disk behind a fall while a manifest is written. -/
def fallD (S : Dsk) (f : Int) (m : ManD) (K T : Nat) : Dsk := backD K T (wmD { S with fuse := max f (-1) } m 2).1
theorem wmD_length {S : Dsk} (h : Calm S) {m : ManD} (hf : Fit m) : (wmD S m 2).1.stored.length = S.stored.length := by
  rcases wmD_cases h hf with ⟨-, q, -⟩ | ⟨-, -, q, -⟩ | ⟨-, -, -, -, q⟩
  · rw [q]
  · exact q
  · exact q
theorem fallD_size {S : Dsk} {mw m : ManD} (h : Old S mw) (hf : Fit m) (f : Int) (K T : Nat) : (fallD S f m K T).stored.length = 40 ∧ (fallD S f m K T).on = true ∧ (fallD S f m K T).pend = [] := by
  refine ⟨?_, rfl, rfl⟩
  show (Ds.settle K T 0 _ _).length = 40
  rw [settle_length, wmD_length (fuse_calm h.calm _) hf]
  exact h.size
theorem fall_ans {S : Dsk} {mw m : ManD} (h : Old S mw) (hf : Fit m) (hw : Wf m) (f : Int) (K T : Nat) {Tl : Nat → Option ManD} {Z : Nat → Bool} (hT : ∀ k, k < 2 → Says (slotD (fallD S f m K T) k 16) (Tl k)) (hZ : ∀ k, k < 2 → Z k = zeros (slotD (fallD S f m K T) k 16)) :
    ((wmD { S with fuse := max f (-1) } m 2).2 = 0 → ansD (fallD S f m K T) Tl Z = (m, 0)) ∧
    ((∀ k, k < 2 → (Tl k).isSome = true → slotD (fallD S f m K T) k 16 = slotS S.stored k 16 ∨ slotD (fallD S f m K T) k 16 = slotOf m) → ansD (fallD S f m K T) Tl Z = (m, 0) ∨ ansD (fallD S f m K T) Tl Z = (mw, 0)) := by
  obtain ⟨hsz, hon, -⟩ := fallD_size h hf f K T
  obtain ⟨h1, h2⟩ := fall_slots (fuse_calm h.calm (max f (-1))) hf K T
  have hpar := parity m.version
  have hans : ansD (fallD S f m K T) Tl Z = ansOf (curOf Tl 2) (blkOf Z 2) := by
    unfold ansD
    rw [if_neg (by rw [hsz]; omega), hon]
    rfl
  rw [hans]
  have hsay := says_slot hw hf
  refine ⟨fun e => ?_, fun hmix => ?_⟩
  · have hall : ∀ k, k < 2 → Tl k = some m := fun k hk => by
      have := hT k hk
      rw [show slotD (fallD S f m K T) k 16 = slotOf m from h2 e k hk] at this
      exact this.one hsay
    exact ans_two (.inl ⟨hall 0 (by omega), .inl (hall 1 (by omega))⟩)
  · have hnew : ∀ k, k < 2 → slotD (fallD S f m K T) k 16 = slotOf m → Tl k = some m := fun k hk e => by
      have := hT k hk
      rw [e] at this
      exact this.one hsay
    rcases h.slots with ⟨rfl, hb⟩ | ⟨hfw, hww, hb⟩
    · have hcas : ∀ k, k < 2 → Tl k = none ∨ Tl k = some m ∨ Tl k = some m := fun k hk => by
        cases hs : (Tl k).isSome with
        | false => left; cases hq : Tl k with
          | none => rfl
          | some x => rw [hq] at hs; cases hs
        | true =>
          rcases hmix k hk hs with e | e
          · have := hT k hk
            rw [e, hb k hk] at this
            rw [this.one says_blank] at hs
            cases hs
          · exact .inr (.inl (hnew k hk e))
      by_cases hex : ∃ k, k < 2 ∧ Tl k ≠ none
      · left
        rcases curOf_two hcas hex with e | e <;> exact ans_some e
      · right
        have hn : ∀ k, k < 2 → Tl k = none := fun k hk => by
          cases hq : Tl k with
          | none => rfl
          | some x => exact absurd ⟨k, hk, by rw [hq]; simp⟩ hex
        have hz : blkOf Z 2 = true := by
          have hq : ∃ k, k < 2 ∧ Z k = true := by
            rcases h1 with e | e
            · refine ⟨(m.version + 1) % 2, by omega, ?_⟩
              rw [hZ _ (by omega), show slotD (fallD S f m K T) ((m.version + 1) % 2) 16 = _ from e]
              show zeros (slotS S.stored _ 16) = true
              rw [hb _ (by omega)]
              exact zeros_blank
            · have := hnew _ (by omega) e
              rw [hn _ (by omega)] at this
              cases this
          obtain ⟨k, hk, e⟩ := hq
          unfold blkOf blkOf blkOf
          rcases (show k = 0 ∨ k = 1 by omega) with h0 | h0
          · rw [h0] at e; rw [e]; rfl
          · rw [h0] at e; rw [e]; simp
        have hc : curOf Tl 2 = none := by
          unfold curOf curOf curOf
          rw [hn 0 (by omega), hn 1 (by omega)]
          rfl
        rw [hc, hz]
        rfl
    · have holds := says_slot hww hfw
      have hold : ∀ k, k < 2 → slotD (fallD S f m K T) k 16 = slotS S.stored k 16 → Tl k = some mw := fun k hk e => by
        have := hT k hk
        rw [e, hb k hk] at this
        exact this.one holds
      have hcas : ∀ k, k < 2 → Tl k = none ∨ Tl k = some m ∨ Tl k = some mw := fun k hk => by
        cases hs : (Tl k).isSome with
        | false => left; cases hq : Tl k with
          | none => rfl
          | some x => rw [hq] at hs; cases hs
        | true =>
          rcases hmix k hk hs with e | e
          · exact .inr (.inr (hold k hk e))
          · exact .inr (.inl (hnew k hk e))
      have hex : ∃ k, k < 2 ∧ Tl k ≠ none := by
        rcases h1 with e | e
        · exact ⟨(m.version + 1) % 2, by omega, by rw [hold _ (by omega) e]; simp⟩
        · exact ⟨m.version % 2, by omega, by rw [hnew _ (by omega) e]; simp⟩
      rcases curOf_two hcas hex with e | e
      · exact .inl (ans_some e)
      · exact .inr (ans_some e)
end Go.Proofs.Ytcnmamdfiicdaaa
