/- PickOnto: each number below Total is a draw's, by any table that is right; for up to 100 arcs and cells, beyond these only the example is asked. No condition on the input. -/
import Derived.Test.YtoflbfkmkalgcaaPiY
import Derived.Test.YtoflbfkmkalgcaaAlK
namespace Go.Proofs.Ytoflbfkmkalgcaa
open Go.RowKit Me Va Al

open Go.ChangeShapes Go.WideShapes Go.ChangeAt Go.Joins
set_option maxRecDepth 100000 in
theorem pickOnto_lifted (os : Os) (started : os.Started) (H : Type) (enc : TypeId × Value → H) :
    ReturnsInHanded {} Try.checked os 5 .any (Rows.pickOntoSpec.pre6 enc Try.prog Try.f5 Rows.pickOntoRow.domain false) (Rows.pickOntoSpec.post enc Try.prog Try.f5 false true false false) := by
  refine returnsInHanded_of_change (C := Try.checked) own started (by kernel_rfl) Try.func5
    (ChangeSpec.witness6 (enc := enc) (C := Try.checked) false ⟨#[], #[.slice none 0 0, .slice none 0 0, .int .u64 0], []⟩ 8 (by kernel_rfl) (by kernel_rfl) (by kernel_rfl) (by kernel_rfl)) ?_
  intro W base args ds gs before hval0 hW hcnd _
  have hval : ∀ (j : Nat) t v, Try.f5.params[j]? = some t → args[j]? = some v → Value.okWide Try.prog W .any base t v := hval0
  have hW' := hW
  obtain ⟨p, q, hA0, hV, rfl, hfz, hnd⟩ := hW
  have hA : DataW.TrodAll enc Try.prog W 0 (fun _ => true) true Try.f5.params.toList args.toList ds p := hA0
  rw [Try.params5] at hA hval
  obtain ⟨v0, v1, v2, d0, d1, d2, p0, p1, p2, rfl, rfl, rfl, h0, h1, h2⟩ := trodAll_three hA
  obtain ⟨A0, n0, c0, l0, rfl, hl0, hn0, hc0, hr0⟩ := open_arcs Try.underlying22 Try.underlying44 (by kernel_rfl) (by kernel_rfl) rfl rfl Try.underlying42 (hval 0 22 v0 rfl rfl) h0
  obtain ⟨A1, n1, c1, l1, rfl, hl1, hn1, hc1, hr1⟩ := open_cels Try.underlying23 Try.underlying46 (by kernel_rfl) (by kernel_rfl) rfl rfl Try.underlying24 Try.underlying42 (hval 1 23 v1 rfl rfl) h1
  obtain ⟨z2, rfl, -, -, w2⟩ := open_int Try.underlying24 (hval 2 24 v2 rfl rfl) h2
  have hz2 : 0 ≤ z2 ∧ z2 < 18446744073709551616 := by simp [Lit.wf, IntKind.min, IntKind.max, IntKind.bits, IntKind.signed] at w2; omega
  obtain ⟨x2, rfl⟩ : ∃ m : Nat, z2 = (m : Int) := ⟨z2.toNat, by omega⟩
  have hx2 : x2 < 18446744073709551616 := by omega
  have hwalk : Calls Try.prog 5 #[.slice A0 n0 c0, .slice A1 n1 c1, .int .u64 (x2 : Int)] W fun e w' => e = .returned (.bool true) ∧ Below W.heap.size W w' := by
    exact pickOnto_law A0 n0 c0 l0 A1 n1 c1 l1 x2 W hl0 hn0 hr0 hl1 hr1 hx2
  refine hwalk.mono fun e W' ⟨he, hb⟩ => ?_
  subst he
  exact ⟨_, rfl, Lw.post_true laidOut (by kernel_rfl) rfl rfl rfl rfl (by kernel_rfl) Try.underlying4 hW' hb⟩

/-- PickOnto: each number below Total is a draw's, by any table that is right; for up to 100 arcs and cells, beyond these only the example is asked. -/
theorem pickOnto_holds : Rows.PickOntoSaid :=
  OpenClaim.holds_of_wide 5 Try.f5 rfl rfl rfl rfl rfl rfl rfl ⟨rfl, rfl, rfl, rfl, rfl⟩ rfl rfl rfl rfl rfl (by kernel_rfl) Try.func5 (by kernel_rfl)
    (of_decide_eq_true (by kernel_rfl)) (by unfold Func.isWrapper; first | (rw [if_pos (by decide +kernel)]; kernel_rfl) | (rw [if_neg (by decide +kernel)]; exact ⟨rfl, rfl⟩))
    (fun os started H enc _ => pickOnto_lifted os started H enc)
#print axioms pickOnto_holds
end Go.Proofs.Ytoflbfkmkalgcaa
