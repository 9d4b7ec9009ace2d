/- What becomes of both slots when a manifest is written: plain mathematics. -/
import Derived.Test.YtcnmamdfiicdaaaSlotM
namespace Go.Proofs.Ytcnmamdfiicdaaa
open Go.RowKit Me Mf Rw Ds

theorem settle_all (K T : Nat) : ∀ (l : List WD) (k : Nat) (st : List (List UInt8)), (∀ x ∈ l, x.b.length = 128 ∧ x.i < st.length) → (∀ b ∈ st, b.length = 128) → ∀ b ∈ Ds.settle K T k l st, b.length = 128
  | [], _, _, _, h => h
  | x :: l, k, st, hl, hs => by
    obtain ⟨h1, h2⟩ := hl x (by simp)
    rw [Ds.settle]
    refine settle_all K T l _ _ (fun y hy => by rw [List.length_set]; exact hl y (by simp [hy])) fun b hb => ?_
    rcases List.mem_or_eq_of_mem_set hb with h | h
    · exact hs b h
    · have h3 : (st.getD x.i []).length = 128 := by
        rw [List.getD_eq_getElem?_getD, List.getElem?_eq_getElem h2]
        exact hs _ (List.getElem_mem _)
      have h4 := surv_le K T k
      rw [h, List.length_append, List.length_take, List.length_drop, h1, h3]
      omega
theorem wslotD_all {S : Dsk} (hp : S.pend = []) (hb : ∀ b ∈ S.stored, b.length = 128) {n : Nat} (hs : 16 * n + 16 ≤ S.stored.length) {l : List UInt8} (hl : l.length = 2048) : (∀ b ∈ (wslotD S n l).1.stored, b.length = 128) ∧ (wslotD S n l).1.stored.length = S.stored.length := by
  obtain ⟨h1, j, hj, h2, h3⟩ := stD_cases S n l 16
  rw [hp, List.nil_append] at h2
  have hch : ∀ x ∈ chW n l j, x.b.length = 128 ∧ x.i < S.stored.length := fun x hx => by
    have h4 := chW_in hx hj
    obtain ⟨i, hi, rfl⟩ := List.mem_map.1 hx
    exact ⟨chunkL_length hl (by have := List.mem_range.1 hi; omega), by omega⟩
  unfold wslotD
  split
  · rcases syncD_cases (stD S n l 16).1 with ⟨q0, q1, q2, q3⟩ | ⟨q0, q1, q2⟩
    · rw [q1, h1, h2]
      exact ⟨settle_all _ _ _ _ _ hch hb, settle_length _ _ _ _ _⟩
    · rw [q1, h1]; exact ⟨hb, rfl⟩
  · rw [h1]; exact ⟨hb, rfl⟩
/-- A disk between two writes of manifests. -/
structure Calm (S : Dsk) : Prop where
  pend : S.pend = []
  all : ∀ b ∈ S.stored, b.length = 128
  size : 32 ≤ S.stored.length
theorem parity (v : Nat) : (v % 2 = 0 ∧ (v + 1) % 2 = 1) ∨ (v % 2 = 1 ∧ (v + 1) % 2 = 0) := by omega
theorem slotS_other {st st' : List (List UInt8)} {n q : Nat} (hq : q ≠ n) (h : ∀ j, ¬ (16 * n ≤ j ∧ j < 16 * n + 16) → st'.getD j [] = st.getD j []) : slotS st' q 16 = slotS st q 16 :=
  slotS_eq (fun j h1 h2 => h j (by omega)) 16 (Nat.le_refl _)
/-- A manifest that is written. -/
theorem wmD_cases {S : Dsk} (h : Calm S) {m : ManD} (hf : Fit m) :
    ((wmD S m 2).2 ≠ 0 ∧ (wmD S m 2).1.stored = S.stored ∧ ∀ x ∈ (wmD S m 2).1.pend, 16 * (m.version % 2) ≤ x.i ∧ x.i < 16 * (m.version % 2) + 16) ∨
    ((wmD S m 2).2 ≠ 0 ∧ slotS (wmD S m 2).1.stored (m.version % 2) 16 = slotOf m ∧ (wmD S m 2).1.stored.length = S.stored.length ∧ ∀ x ∈ (wmD S m 2).1.pend, 16 * ((m.version + 1) % 2) ≤ x.i ∧ x.i < 16 * ((m.version + 1) % 2) + 16) ∨
    ((wmD S m 2).2 = 0 ∧ (∀ k, k < 2 → slotS (wmD S m 2).1.stored k 16 = slotOf m) ∧ Calm (wmD S m 2).1 ∧ (wmD S m 2).1.on = true ∧ (wmD S m 2).1.stored.length = S.stored.length) := by
  have hl := slotOf_length hf
  have hpar := parity m.version
  have hsz := h.size
  have e1 : wmD S m 1 = wslotD S (m.version % 2) (slotOf m) := by rw [wmD, if_pos (show (wmD S m 0).2 = 0 from rfl)]; rfl
  have ha := wslotD_all h.pend h.all (n := m.version % 2) (by omega) hl
  rcases wslotD_cases h.pend h.all (n := m.version % 2) (by omega) hl with ⟨q0, q1, q2, q3, q4, q5⟩ | ⟨q0, q1, q2⟩
  · rw [← e1] at q0 q1 q2 q3 q4 q5 ha
    have e2 : wmD S m 2 = wslotD (wmD S m 1).1 ((m.version + 1) % 2) (slotOf m) := by rw [wmD, if_pos q0]
    have hb := wslotD_all q3 ha.1 (n := (m.version + 1) % 2) (by rw [q5]; omega) hl
    rcases wslotD_cases q3 ha.1 (n := (m.version + 1) % 2) (by rw [q5]; omega) hl with ⟨r0, r1, r2, r3, r4, r5⟩ | ⟨r0, r1, r2⟩
    · rw [← e2] at r0 r1 r2 r3 r4 r5 hb
      refine .inr (.inr ⟨r0, fun k hk => ?_, ⟨r3, hb.1, by rw [r5, q5]; exact hsz⟩, r4, by rw [r5, q5]⟩)
      by_cases e : k = (m.version + 1) % 2
      · rw [e]; exact r1
      · have : k = m.version % 2 := by omega
        rw [slotS_other (n := (m.version + 1) % 2) e r2, this]
        exact q1
    · rw [← e2] at r0 r1 r2
      exact .inr (.inl ⟨r0, by rw [r1]; exact q1, by rw [r1]; exact q5, r2⟩)
  · rw [← e1] at q0 q1 q2
    rw [wmD_stuck q0 2 (by omega)]
    exact .inl ⟨q0, q1, q2⟩
theorem wmD_done {S : Dsk} (h : Calm S) {m : ManD} (hf : Fit m) (hon : S.on = true) (hfu : S.fuse < 0) : (wmD S m 2).2 = 0 ∧ (wmD S m 2).1.fuse = S.fuse := by
  have hl := slotOf_length hf
  have hpar := parity m.version
  have hsz := h.size
  have e1 : wmD S m 1 = wslotD S (m.version % 2) (slotOf m) := by rw [wmD, if_pos (show (wmD S m 0).2 = 0 from rfl)]; rfl
  obtain ⟨h1, h2⟩ := wslotD_done hon hfu (n := m.version % 2) (by omega) hl
  have ha := wslotD_all h.pend h.all (n := m.version % 2) (by omega) hl
  have hon1 : (wmD S m 1).1.on = true := by
    rcases wslotD_cases h.pend h.all (n := m.version % 2) (by omega) hl with ⟨q0, q1, q2, q3, q4, q5⟩ | ⟨q0, -, -⟩
    · rw [e1]; exact q4
    · exact absurd h1 q0
  rw [← e1] at h1 h2 ha
  have e2 : wmD S m 2 = wslotD (wmD S m 1).1 ((m.version + 1) % 2) (slotOf m) := by rw [wmD, if_pos h1]
  obtain ⟨h3, h4⟩ := wslotD_done hon1 (by rw [h2]; exact hfu) (n := (m.version + 1) % 2) (by rw [ha.2]; omega) hl
  rw [e2]
  exact ⟨h3, h4.trans h2⟩
/-- A slot behind a fall. -/
theorem slotD_back {S : Dsk} (hs : 32 ≤ S.stored.length) (K T : Nat) {k : Nat} (hk : k < 2) (h : ∀ x ∈ S.pend, ¬ (16 * k ≤ x.i ∧ x.i < 16 * k + 16)) : slotD (backD K T S) k 16 = slotS S.stored k 16 := by
  have hlen : (backD K T S).stored.length = S.stored.length := settle_length K T S.pend 0 S.stored
  rw [slotD_stored (S := backD K T S) rfl rfl (by rw [hlen]; exact hs) (by omega) 16 (Nat.le_refl _)]
  refine slotS_eq (fun j h1 h2 => ?_) 16 (Nat.le_refl _)
  exact settle_other K T S.pend 0 S.stored j fun x hx e => h x hx (by omega)
/-- One slot is as it was, or has the new bytes. -/
theorem fall_slots {S : Dsk} (h : Calm S) {m : ManD} (hf : Fit m) (K T : Nat) :
    (slotD (backD K T (wmD S m 2).1) ((m.version + 1) % 2) 16 = slotS S.stored ((m.version + 1) % 2) 16 ∨ slotD (backD K T (wmD S m 2).1) (m.version % 2) 16 = slotOf m) ∧
    ((wmD S m 2).2 = 0 → ∀ k, k < 2 → slotD (backD K T (wmD S m 2).1) k 16 = slotOf m) := by
  have hpar := parity m.version
  have hsz := h.size
  rcases wmD_cases h hf with ⟨q0, q1, q2⟩ | ⟨q0, q1, q2, q3⟩ | ⟨q0, q1, q2, q3, q4⟩
  · refine ⟨.inl ?_, fun e => absurd e q0⟩
    rw [slotD_back (by rw [q1]; exact hsz) K T (by omega) (fun x hx e => by have := q2 x hx; omega), q1]
  · refine ⟨.inr ?_, fun e => absurd e q0⟩
    rw [slotD_back (by rw [q2]; exact hsz) K T (by omega) (fun x hx e => by have := q3 x hx; omega), q1]
  · have hk : ∀ k, k < 2 → slotD (backD K T (wmD S m 2).1) k 16 = slotOf m := fun k hk => by
      rw [slotD_back (by rw [q4]; exact hsz) K T hk (fun x hx e => by rw [q2.pend] at hx; cases hx), q1 k hk]
    exact ⟨.inr (hk _ (by omega)), fun _ => hk⟩
theorem fuse_calm {S : Dsk} (h : Calm S) (f : Int) : Calm { S with fuse := f } := ⟨h.pend, h.all, h.size⟩
theorem new_calm {n : Nat} (hn : 32 ≤ n) : Calm (newD n) := ⟨rfl, fun b hb => by
  have : b = zero128 := List.eq_of_mem_replicate hb
  rw [this]; exact zero128_length, by simpa [newD] using hn⟩
end Go.Proofs.Ytcnmamdfiicdaaa
