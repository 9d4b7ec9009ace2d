/- A disk's small methods that write: its fuse, its switch, an operation's power; a new disk. -/
import Derived.Test.YtpdhnkmihlgdjaaDskM
namespace Go.Proofs.Ytpdhnkmihlgdjaa
open Go.RowKit Me Rw Ds

section
variable {w w' : World} {B D g : Nat} {Pv : Value} {S : Dsk} {own T : Nat → Prop}
theorem Laid.setOther (h : Laid w B D g Pv S own) (i : Nat) (v : Value) : Blk (w.setCell ⟨D, i, none⟩ v) g (Rw.rows cellsOf S.stored) ∧ (w.setCell ⟨D, i, none⟩ v).ownsRow B 69 129 Pv S.pend.length (Rw.rows wrCells S.pend) :=
  ⟨h.rows.other (p := ⟨D, i, none⟩) h.dg v, own_out (S := fun k => k = D) h.pend ((Out.refl (fun k => k = D) _).setCell (p := ⟨D, i, none⟩) (.inl rfl) v) fun k hk e => h.pd (by rw [hk, e])⟩
theorem Laid.setOn (h : Laid w B D g Pv S own) (b : Bool) : Laid (w.setCell ⟨D, 2, none⟩ (.bool b)) B D g Pv { S with on := b } own :=
  ⟨h.blk.set 2 _, (h.setOther 2 _).1, (h.setOther 2 _).2, h.dg, h.pd, h.pg, h.ld, h.lg, h.own, h.good⟩
theorem Laid.setFuse (h : Laid w B D g Pv S own) {f : Int} (h1 : -1 ≤ f) (h2 : f ≤ 9223372036854775807) : Laid (w.setCell ⟨D, 3, none⟩ (.int .i64 f)) B D g Pv { S with fuse := f } own :=
  ⟨h.blk.set 3 _, (h.setOther 3 _).1, (h.setOther 3 _).2, h.dg, h.pd, h.pg, h.ld, h.lg, h.own, ⟨h.good.1, h.good.2.1, h.good.2.2.1, h.good.2.2.2.1, h1, h2⟩⟩
theorem out_self (h : Laid w B D g Pv S own) (i : Nat) (v : Value) : Out own w (w.setCell ⟨D, i, none⟩ v) :=
  (Out.refl _ _).setCell (p := ⟨D, i, none⟩) (.inl ((h.own _).2 (.inl rfl))) v

set_option maxRecDepth 100000 in
theorem fuse_any (h : DiskAt w B D S own) (n : Int) (hn : n ≤ 9223372036854775807) : Calls Try.prog 20 #[.pointer (some ⟨D, 0, none⟩), .int .i64 n] w fun e w' => e = .returned (.tuple #[]) ∧ DPost w B D { S with fuse := max n (-1) } own w' := by
  obtain ⟨g, Pv, h⟩ := h
  obtain ⟨c0, c1, c2, c3⟩ := h.blk.four
  obtain ⟨f0, f1, f2, f3⟩ := h.blk.four_free
  have HL := Lib.hid h
  clear h
  go_enter Try.func20, Try.ntmps20
  go_wp2
  · go_end0
    refine ⟨rfl, .same ⟨g, Pv, ?_⟩ (out_self HL.out 3 _)⟩
    have := HL.out.setFuse (f := -1) (by omega) (by omega)
    rwa [show max n (-1) = -1 by omega]
  · go_end0
    refine ⟨rfl, .same ⟨g, Pv, ?_⟩ (out_self HL.out 3 _)⟩
    have := HL.out.setFuse (f := n) (by omega) (by omega)
    rwa [show max n (-1) = n by omega]
set_option maxRecDepth 100000 in
theorem fuse_nil (w : World) (n : Int) : Calls Try.prog 20 #[.pointer none, .int .i64 n] w fun e w' => e = .returned (.tuple #[]) ∧ w = w' := by
  go_enter Try.func20, Try.ntmps20
  go_wp2
  go_end0
  exact ⟨rfl, rfl⟩
set_option maxRecDepth 100000 in
theorem off_any (h : DiskAt w B D S own) : Calls Try.prog 21 #[.pointer (some ⟨D, 0, none⟩)] w fun e w' => e = .returned (.tuple #[]) ∧ DPost w B D { S with on := false } own w' := by
  obtain ⟨g, Pv, h⟩ := h
  obtain ⟨c0, c1, c2, c3⟩ := h.blk.four
  obtain ⟨f0, f1, f2, f3⟩ := h.blk.four_free
  have HL := Lib.hid h
  clear h
  go_enter Try.func21, Try.ntmps21
  go_wp2
  go_end0
  exact ⟨rfl, .same ⟨g, Pv, HL.out.setOn false⟩ (out_self HL.out 2 _)⟩
set_option maxRecDepth 100000 in
theorem off_nil (w : World) : Calls Try.prog 21 #[.pointer none] w fun e w' => e = .returned (.tuple #[]) ∧ w = w' := by
  go_enter Try.func21, Try.ntmps21
  go_wp2
  go_end0
  exact ⟨rfl, rfl⟩
/-- An operation's power: whether there is, the fuse behind it. -/
def power (S : Dsk) : Dsk := if S.fuse = 0 then { S with on := false } else if 0 < S.fuse then { S with fuse := S.fuse - 1 } else S
theorem power_zero {S : Dsk} (h : S.fuse = 0) : power S = { S with on := false } := by unfold power; rw [if_pos h]
theorem power_pos {S : Dsk} (h : 0 < S.fuse) : power S = { S with fuse := S.fuse - 1 } := by unfold power; rw [if_neg (by omega), if_pos h]
theorem power_neg {S : Dsk} (h : S.fuse < 0) : power S = S := by unfold power; rw [if_neg (by omega), if_neg (by omega)]
set_option maxRecDepth 100000 in
theorem powered_any (h : DiskAt w B D S own) : Calls Try.prog 31 #[.pointer (some ⟨D, 0, none⟩)] w fun e w' => e = .returned (.bool (power S).on) ∧ DPost w B D (power S) own w' := by
  obtain ⟨g, Pv, h⟩ := h
  obtain ⟨c0, c1, c2, c3⟩ := h.blk.four
  obtain ⟨f0, f1, f2, f3⟩ := h.blk.four_free
  have hf := h.good.2.2.2.2
  have HL := Lib.hid h
  obtain ⟨R, hR⟩ : ∃ R, R = power S := ⟨_, rfl⟩
  rw [← hR]
  obtain ⟨f, hff⟩ : ∃ f, f = S.fuse := ⟨_, rfl⟩
  obtain ⟨o, ho⟩ : ∃ o, o = S.on := ⟨_, rfl⟩
  rw [← hff] at hf c3
  rw [← ho] at c2
  have HF := Lib.hid hff
  have HO := Lib.hid ho
  have HE := Lib.hid hR
  clear h hR hff ho
  by_cases h0 : f = 0
  · subst h0
    go_enter Try.func31, Try.ntmps31
    go_wp2
    go_ret
    have e := HE.out.trans (power_zero HF.out.symm)
    subst e
    exact ⟨rfl, .same ⟨g, Pv, HL.out.setOn false⟩ (out_self HL.out 2 _)⟩
  · by_cases h1 : 0 < f
    · have d1 : (f == 0) = false := by rw [beq_eq_false_iff_ne]; exact h0
      go_enter Try.func31, Try.ntmps31
      go_wp2
      go_ret
      have e := HE.out.trans (power_pos (by rw [← HF.out]; exact h1))
      subst e
      have e2 := HF.out
      have e3 := HO.out
      subst e2 e3
      exact ⟨rfl, .same ⟨g, Pv, HL.out.setFuse (by omega) (by omega)⟩ (out_self HL.out 3 _)⟩
    · have d1 : (f == 0) = false := by rw [beq_eq_false_iff_ne]; exact h0
      go_enter Try.func31, Try.ntmps31
      go_wp2
      go_ret
      have e := HE.out.trans (power_neg (by rw [← HF.out]; omega))
      have e3 := HO.out
      subst e e3
      exact ⟨rfl, .same ⟨g, Pv, HL.out⟩ (Out.refl _ _)⟩
end
end Go.Proofs.Ytpdhnkmihlgdjaa
