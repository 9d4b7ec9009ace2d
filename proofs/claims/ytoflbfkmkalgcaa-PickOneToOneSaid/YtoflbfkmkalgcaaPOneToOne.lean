/- PickOneToOne: by the table that is built each draw is mapped to a number below Total, from which it is told back, and which comes by intervals to the neighbour to which the draw comes by the table; for up to 100 arcs, beyond these only the example is asked. No condition on the input. -/
import Derived.Test.YtoflbfkmkalgcaaPiZ
namespace Go.Proofs.Ytoflbfkmkalgcaa
open Go.RowKit Me Va Al

open Go.ChangeShapes Go.WideShapes Go.ChangeAt Go.Joins
set_option maxRecDepth 100000 in
theorem pickOneToOne_lifted (os : Os) (started : os.Started) (H : Type) (enc : TypeId × Value → H) :
    ReturnsInHanded {} Try.checked os 4 .any (Rows.pickOneToOneSpec.pre6 enc Try.prog Try.f4 Rows.pickOneToOneRow.domain false) (Rows.pickOneToOneSpec.post enc Try.prog Try.f4 false true false false) := by
  refine returnsInHanded_of_change (C := Try.checked) own started (by kernel_rfl) Try.func4
    (ChangeSpec.witness6 (enc := enc) (C := Try.checked) false ⟨#[], #[.slice none 0 0, .int .u64 0], []⟩ 8 (by kernel_rfl) (by kernel_rfl) (by kernel_rfl) (by kernel_rfl)) ?_
  intro W base args ds gs before hval0 hW hcnd _
  have hval : ∀ (j : Nat) t v, Try.f4.params[j]? = some t → args[j]? = some v → Value.okWide Try.prog W .any base t v := hval0
  have hW' := hW
  obtain ⟨p, q, hA0, hV, rfl, hfz, hnd⟩ := hW
  have hA : DataW.TrodAll enc Try.prog W 0 (fun _ => true) true Try.f4.params.toList args.toList ds p := hA0
  rw [Try.params4] at hA hval
  obtain ⟨v0, v1, d0, d1, p0, p1, rfl, rfl, rfl, h0, h1⟩ := trodAll_two hA
  obtain ⟨A0, n0, c0, l0, rfl, hl0, hn0, hc0, hr0⟩ := open_arcs Try.underlying22 Try.underlying44 (by kernel_rfl) (by kernel_rfl) rfl rfl Try.underlying42 (hval 0 22 v0 rfl rfl) h0
  obtain ⟨z1, rfl, -, -, w1⟩ := open_int Try.underlying24 (hval 1 24 v1 rfl rfl) h1
  have hz1 : 0 ≤ z1 ∧ z1 < 18446744073709551616 := by simp [Lit.wf, IntKind.min, IntKind.max, IntKind.bits, IntKind.signed] at w1; omega
  obtain ⟨x1, rfl⟩ : ∃ m : Nat, z1 = (m : Int) := ⟨z1.toNat, by omega⟩
  have hx1 : x1 < 18446744073709551616 := by omega
  have hwalk : Calls Try.prog 4 #[.slice A0 n0 c0, .int .u64 (x1 : Int)] W fun e w' => e = .returned (.bool true) ∧ Below W.heap.size W w' := by
    exact pickOneToOne_law A0 n0 c0 l0 x1 W hl0 hn0 hr0 hx1
  refine hwalk.mono fun e W' ⟨he, hb⟩ => ?_
  subst he
  exact ⟨_, rfl, Lw.post_true laidOut (by kernel_rfl) rfl rfl rfl rfl (by kernel_rfl) Try.underlying4 hW' hb⟩

/-- PickOneToOne: by the table that is built each draw is mapped to a number below Total, from which it is told back, and which comes by intervals to the neighbour to which the draw comes by the table; for up to 100 arcs, beyond these only the example is asked. -/
theorem pickOneToOne_holds : Rows.PickOneToOneSaid :=
  OpenClaim.holds_of_wide 4 Try.f4 rfl rfl rfl rfl rfl rfl rfl ⟨rfl, rfl, rfl, rfl, rfl⟩ rfl rfl rfl rfl rfl (by kernel_rfl) Try.func4 (by kernel_rfl)
    (of_decide_eq_true (by kernel_rfl)) (by unfold Func.isWrapper; first | (rw [if_pos (by decide +kernel)]; kernel_rfl) | (rw [if_neg (by decide +kernel)]; exact ⟨rfl, rfl⟩))
    (fun os started H enc _ => pickOneToOne_lifted os started H enc)
#print axioms pickOneToOne_holds
end Go.Proofs.Ytoflbfkmkalgcaa
