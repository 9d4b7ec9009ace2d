/- PickRises: of two draws that come to the same neighbour the lower one is mapped to the lower number; for up to 100 arcs and cells, beyond these only the example is asked. No condition on the input. -/
import Derived.Test.YtoflbfkmkalgcaaPiV
import Derived.Test.YtoflbfkmkalgcaaAlK
namespace Go.Proofs.Ytoflbfkmkalgcaa
open Go.RowKit Me Va Al

open Go.ChangeShapes Go.WideShapes Go.ChangeAt Go.Joins
set_option maxRecDepth 100000 in
theorem pickRises_lifted (os : Os) (started : os.Started) (H : Type) (enc : TypeId × Value → H) :
    ReturnsInHanded {} Try.checked os 6 .any (Rows.pickRisesSpec.pre6 enc Try.prog Try.f6 Rows.pickRisesRow.domain false) (Rows.pickRisesSpec.post enc Try.prog Try.f6 false true false false) := by
  refine returnsInHanded_of_change (C := Try.checked) own started (by kernel_rfl) Try.func6
    (ChangeSpec.witness6 (enc := enc) (C := Try.checked) false ⟨#[], #[.slice none 0 0, .slice none 0 0, .int .u64 0, .int .u64 0], []⟩ 8 (by kernel_rfl) (by kernel_rfl) (by kernel_rfl) (by kernel_rfl)) ?_
  intro W base args ds gs before hval0 hW hcnd _
  have hval : ∀ (j : Nat) t v, Try.f6.params[j]? = some t → args[j]? = some v → Value.okWide Try.prog W .any base t v := hval0
  have hW' := hW
  obtain ⟨p, q, hA0, hV, rfl, hfz, hnd⟩ := hW
  have hA : DataW.TrodAll enc Try.prog W 0 (fun _ => true) true Try.f6.params.toList args.toList ds p := hA0
  rw [Try.params6] at hA hval
  obtain ⟨v0, v1, v2, v3, d0, d1, d2, d3, p0, p1, p2, p3, rfl, rfl, rfl, h0, h1, h2, h3⟩ := trodAll_four hA
  obtain ⟨A0, n0, c0, l0, rfl, hl0, hn0, hc0, hr0⟩ := open_arcs Try.underlying22 Try.underlying44 (by kernel_rfl) (by kernel_rfl) rfl rfl Try.underlying42 (hval 0 22 v0 rfl rfl) h0
  obtain ⟨A1, n1, c1, l1, rfl, hl1, hn1, hc1, hr1⟩ := open_cels Try.underlying23 Try.underlying46 (by kernel_rfl) (by kernel_rfl) rfl rfl Try.underlying24 Try.underlying42 (hval 1 23 v1 rfl rfl) h1
  obtain ⟨z2, rfl, -, -, w2⟩ := open_int Try.underlying24 (hval 2 24 v2 rfl rfl) h2
  have hz2 : 0 ≤ z2 ∧ z2 < 18446744073709551616 := by simp [Lit.wf, IntKind.min, IntKind.max, IntKind.bits, IntKind.signed] at w2; omega
  obtain ⟨x2, rfl⟩ : ∃ m : Nat, z2 = (m : Int) := ⟨z2.toNat, by omega⟩
  have hx2 : x2 < 18446744073709551616 := by omega
  obtain ⟨z3, rfl, -, -, w3⟩ := open_int Try.underlying24 (hval 3 24 v3 rfl rfl) h3
  have hz3 : 0 ≤ z3 ∧ z3 < 18446744073709551616 := by simp [Lit.wf, IntKind.min, IntKind.max, IntKind.bits, IntKind.signed] at w3; omega
  obtain ⟨x3, rfl⟩ : ∃ m : Nat, z3 = (m : Int) := ⟨z3.toNat, by omega⟩
  have hx3 : x3 < 18446744073709551616 := by omega
  have hwalk : Calls Try.prog 6 #[.slice A0 n0 c0, .slice A1 n1 c1, .int .u64 (x2 : Int), .int .u64 (x3 : Int)] W fun e w' => e = .returned (.bool true) ∧ Below W.heap.size W w' := by
    exact pickRises_law A0 n0 c0 l0 A1 n1 c1 l1 x2 x3 W hl0 hn0 hr0 hl1 hr1 hx2 hx3
  refine hwalk.mono fun e W' ⟨he, hb⟩ => ?_
  subst he
  exact ⟨_, rfl, Lw.post_true laidOut (by kernel_rfl) rfl rfl rfl rfl (by kernel_rfl) Try.underlying4 hW' hb⟩

/-- PickRises: of two draws that come to the same neighbour the lower one is mapped to the lower number; for up to 100 arcs and cells, beyond these only the example is asked. -/
theorem pickRises_holds : Rows.PickRisesSaid :=
  OpenClaim.holds_of_wide 6 Try.f6 rfl rfl rfl rfl rfl rfl rfl ⟨rfl, rfl, rfl, rfl, rfl⟩ rfl rfl rfl rfl rfl (by kernel_rfl) Try.func6 (by kernel_rfl)
    (of_decide_eq_true (by kernel_rfl)) (by unfold Func.isWrapper; first | (rw [if_pos (by decide +kernel)]; kernel_rfl) | (rw [if_neg (by decide +kernel)]; exact ⟨rfl, rfl⟩))
    (fun os started H enc _ => pickRises_lifted os started H enc)
#print axioms pickRises_holds
end Go.Proofs.Ytoflbfkmkalgcaa
