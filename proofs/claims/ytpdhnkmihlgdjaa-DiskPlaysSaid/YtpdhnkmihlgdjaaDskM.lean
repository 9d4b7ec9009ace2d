/- A disk in memory; what its small methods answer. -/
import Derived.Test.YtpdhnkmihlgdjaaFoot
import Derived.Test.YtpdhnkmihlgdjaaDsk
import Derived.WalkKit
import Derived.Lib.Hide
namespace Go.Proofs.Ytpdhnkmihlgdjaa
open Go.RowKit Me Rw Ds

/-- The cells of a write. -/
def wrCells (x : WD) : List Value := .int .i64 (x.i : Int) :: cellsOf x.b
/-- A disk in memory: its struct at D, its blocks at g, its pending writes; own: the blocks in which all this lies. -/
structure Laid (w : World) (B D g : Nat) (Pv : Value) (S : Dsk) (own : Nat → Prop) : Prop where
  blk : Blk w D [.slice (some ⟨g, 0, none⟩) S.stored.length S.stored.length, Pv, .bool S.on, .int .i64 S.fuse]
  rows : Blk w g (rows cellsOf S.stored)
  pend : w.ownsRow B 69 129 Pv S.pend.length (Rw.rows wrCells S.pend)
  dg : D ≠ g
  pd : Pv.ownBlock ≠ some D
  pg : Pv.ownBlock ≠ some g
  ld : B ≤ D
  lg : B ≤ g
  own : ∀ k, own k ↔ (k = D ∨ k = g ∨ Pv.ownBlock = some k)
  good : Fine S
def DiskAt (w : World) (B D : Nat) (S : Dsk) (own : Nat → Prop) : Prop := ∃ g Pv, Laid w B D g Pv S own
section
variable {w w' : World} {B D g : Nat} {Pv : Value} {S : Dsk} {own T : Nat → Prop}
theorem Laid.out (h : Laid w B D g Pv S own) (ho : Out T w w') (hn : ∀ k, own k → ¬ T k) : Laid w' B D g Pv S own :=
  { h with
    blk := h.blk.out ho (hn _ ((h.own _).2 (.inl rfl)))
    rows := h.rows.out ho (hn _ ((h.own _).2 (.inr (.inl rfl))))
    pend := own_out h.pend ho fun _ hk => hn _ ((h.own _).2 (.inr (.inr hk))) }
theorem Laid.lt (h : Laid w B D g Pv S own) {k : Nat} (hk : own k) : B ≤ k ∧ k < w.heap.size := by
  rcases (h.own k).1 hk with rfl | rfl | hk
  · exact ⟨h.ld, h.blk.lt⟩
  · exact ⟨h.lg, h.rows.lt⟩
  · exact h.pend.lt k hk
theorem DiskAt.out (h : DiskAt w B D S own) (ho : Out T w w') (hn : ∀ k, own k → ¬ T k) : DiskAt w' B D S own := by
  obtain ⟨g, Pv, h⟩ := h
  exact ⟨g, Pv, h.out ho hn⟩
theorem DiskAt.past (h : DiskAt w B D S own) (hb : Below w.heap.size w w') : DiskAt w' B D S own := h.out (T := fun _ => False) (.of_below hb) fun _ _ h => h
theorem DiskAt.lt (h : DiskAt w B D S own) {k : Nat} (hk : own k) : B ≤ k ∧ k < w.heap.size := by
  obtain ⟨g, Pv, h⟩ := h
  exact h.lt hk
theorem DiskAt.good (h : DiskAt w B D S own) : Fine S := by
  obtain ⟨g, Pv, h⟩ := h
  exact h.good
theorem DiskAt.self (h : DiskAt w B D S own) : own D := by
  obtain ⟨g, Pv, h⟩ := h
  exact (h.own _).2 (.inl rfl)
end
/-- What a method leaves: the disk, in blocks that it had or that are new; all else as it was. -/
def DPost (w : World) (B D : Nat) (S : Dsk) (own : Nat → Prop) (w' : World) : Prop :=
  ∃ own', DiskAt w' B D S own' ∧ Out own w w' ∧ ∀ k, own' k → own k ∨ w.heap.size ≤ k
theorem DPost.same {w w' : World} {B D : Nat} {S : Dsk} {own : Nat → Prop} (h : DiskAt w' B D S own) (ho : Out own w w') : DPost w B D S own w' := ⟨own, h, ho, fun _ h => .inl h⟩
theorem DPost.trans {w w1 w2 : World} {B D : Nat} {S S' : Dsk} {own : Nat → Prop} (h : DPost w B D S own w1) (k : ∀ own', DiskAt w1 B D S own' → DPost w1 B D S' own' w2) : DPost w B D S' own w2 := by
  obtain ⟨own', h1, h2, h3⟩ := h
  obtain ⟨own2, k1, k2, k3⟩ := k own' h1
  refine ⟨own2, k1, h2.trans' k2 h3, fun j hj => ?_⟩
  rcases k3 j hj with h | h
  · exact h3 j h
  · exact .inr (Nat.le_trans h2.size h)

section
variable {w : World} {B D : Nat} {S : Dsk} {own : Nat → Prop}
theorem on_any (h : DiskAt w B D S own) : Calls Try.prog 11 #[.pointer (some ⟨D, 0, none⟩)] w fun e w' => e = .returned (.bool S.on) ∧ w = w' := by
  obtain ⟨g, Pv, h⟩ := h
  obtain ⟨c0, c1, c2, c3⟩ := h.blk.four
  clear h
  go_enter Try.func11, Try.ntmps11
  go_wp2
  go_ret
  exact ⟨rfl, rfl⟩
theorem on_nil (w : World) : Calls Try.prog 11 #[.pointer none] w fun e w' => e = .returned (.bool false) ∧ w = w' := by
  go_enter Try.func11, Try.ntmps11
  go_wp2
  go_ret
  exact ⟨rfl, rfl⟩
theorem count_any (h : DiskAt w B D S own) : Calls Try.prog 13 #[.pointer (some ⟨D, 0, none⟩)] w fun e w' => e = .returned (.int .i64 (S.stored.length : Int)) ∧ w = w' := by
  obtain ⟨g, Pv, h⟩ := h
  obtain ⟨c0, c1, c2, c3⟩ := h.blk.four
  obtain ⟨-, -, -, hn, -, -⟩ := h.good
  clear h
  go_enter Try.func13, Try.ntmps13
  go_wp2
  go_ret
  exact ⟨rfl, rfl⟩
theorem count_nil (w : World) : Calls Try.prog 13 #[.pointer none] w fun e w' => e = .returned (.int .i64 0) ∧ w = w' := by
  go_enter Try.func13, Try.ntmps13
  go_wp2
  go_ret
  exact ⟨rfl, rfl⟩
theorem waiting_any (h : DiskAt w B D S own) : Calls Try.prog 12 #[.pointer (some ⟨D, 0, none⟩)] w fun e w' => e = .returned (.int .i64 (S.pend.length : Int)) ∧ w = w' := by
  obtain ⟨g, Pv, h⟩ := h
  obtain ⟨c0, c1, c2, c3⟩ := h.blk.four
  obtain ⟨A, c, rfl, -⟩ := own_slice' h.pend
  clear h
  go_enter Try.func12, Try.ntmps12
  go_wp2
  go_ret
  exact ⟨rfl, rfl⟩
theorem waiting_nil (w : World) : Calls Try.prog 12 #[.pointer none] w fun e w' => e = .returned (.int .i64 0) ∧ w = w' := by
  go_enter Try.func12, Try.ntmps12
  go_wp2
  go_ret
  exact ⟨rfl, rfl⟩
/-- Whether there is such a block. -/
def hasB (n : Nat) (i : Int) : Bool := decide (0 ≤ i) && decide (i < n)
set_option maxRecDepth 100000 in
theorem has_any (h : DiskAt w B D S own) (i : Int) : Calls Try.prog 27 #[.pointer (some ⟨D, 0, none⟩), .int .i64 i] w fun e w' => e = .returned (.bool (hasB S.stored.length i)) ∧ w = w' := by
  have HC := Lib.hid (count_any h)
  obtain ⟨n, hn⟩ : ∃ n, n = S.stored.length := ⟨_, rfl⟩
  rw [← hn] at HC ⊢
  clear h hn
  unfold hasB
  by_cases h0 : 0 ≤ i
  · have d0 : decide (0 ≤ i) = true := by simp; omega
    rw [d0, Bool.true_and]
    by_cases h1 : i < n
    · have d1 : decide (i < (n : Int)) = true := by simp; omega
      go_enter Try.func27, Try.ntmps27
      go_wp2_with (go_at_call 13; refine HC.out.mono ?_; rintro e w' ⟨rfl, rfl⟩)
      go_ret
      exact ⟨by rw [d1]; rfl, rfl⟩
    · have d1 : decide (i < (n : Int)) = false := by simp; omega
      go_enter Try.func27, Try.ntmps27
      go_wp2_with (go_at_call 13; refine HC.out.mono ?_; rintro e w' ⟨rfl, rfl⟩)
      go_ret
      exact ⟨by rw [d1]; rfl, rfl⟩
  · have d0 : decide (0 ≤ i) = false := by simp; omega
    rw [d0, Bool.false_and]
    go_enter Try.func27, Try.ntmps27
    go_wp2
    go_ret
    exact ⟨rfl, rfl⟩
set_option maxRecDepth 100000 in
theorem has_nil (w : World) (i : Int) : Calls Try.prog 27 #[.pointer none, .int .i64 i] w fun e w' => e = .returned (.bool false) ∧ w = w' := by
  by_cases h0 : 0 ≤ i
  · have d0 : decide (0 ≤ i) = true := by simp; omega
    have d1 : decide (i < 0) = false := by simp; omega
    go_enter Try.func27, Try.ntmps27
    go_wp2_with (go_at_call 13; refine (count_nil _).mono ?_; rintro e w' ⟨rfl, rfl⟩)
    go_ret
    exact ⟨rfl, rfl⟩
  · have d0 : decide (0 ≤ i) = false := by simp; omega
    go_enter Try.func27, Try.ntmps27
    go_wp2
    go_ret
    exact ⟨rfl, rfl⟩
end
end Go.Proofs.Ytpdhnkmihlgdjaa
