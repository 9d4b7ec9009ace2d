/- GraphNew: what is handed in is made anew, and so is what is handed out. No condition on the input. -/
import Derived.Test.YteaibgnelnblnaaKG28
import Derived.Test.YteaibgnelnblnaaKG7
namespace Go.Proofs.Yteaibgnelnblnaa
open Go.RowKit Me Tx Ed Mg Va

open Go.ChangeShapes Go.WideShapes Go.ChangeAt Go.Joins
set_option maxRecDepth 100000 in
theorem graphNew_lifted (os : Os) (started : os.Started) (H : Type) (enc : TypeId × Value → H) :
    ReturnsInHanded {} Try.checked os 4 .any (Rows.graphNewSpec.pre6 enc Try.prog Try.f4 Rows.graphNewRow.domain false) (Rows.graphNewSpec.post enc Try.prog Try.f4 false true false false) := by
  refine returnsInHanded_of_change (C := Try.checked) own started (by kernel_rfl) Try.func4
    (ChangeSpec.witness6 (enc := enc) (C := Try.checked) false ⟨#[], #[.slice none 0 0, .int .u32 0], []⟩ 8 (by kernel_rfl) (by kernel_rfl) (by kernel_rfl) (by kernel_rfl)) ?_
  intro W base args ds gs before hval0 hW hcnd _
  have hval : ∀ (j : Nat) t v, Try.f4.params[j]? = some t → args[j]? = some v → Value.okWide Try.prog W .any base t v := hval0
  have hW' := hW
  obtain ⟨p, q, hA0, hV, rfl, hfz, hnd⟩ := hW
  have hA : DataW.TrodAll enc Try.prog W 0 (fun _ => true) true Try.f4.params.toList args.toList ds p := hA0
  rw [Try.params4] at hA hval
  obtain ⟨v0, v1, d0, d1, p0, p1, rfl, rfl, rfl, h0, h1⟩ := trodAll_two hA
  obtain ⟨A0, n0, c0, l0, rfl, hl0, hn0, hc0, hr0⟩ := open_rows Try.underlying29 Try.underlying51 (by kernel_rfl) (by kernel_rfl) rfl rfl Try.underlying23 Try.underlying36 Try.underlying55 (by kernel_rfl) (by kernel_rfl) rfl rfl (hval 0 29 v0 rfl rfl) h0
  obtain ⟨z1, rfl, -, -, w1⟩ := open_int Try.underlying23 (hval 1 23 v1 rfl rfl) h1
  have hz1 : 0 ≤ z1 ∧ z1 < 4294967296 := by simp [Lit.wf, IntKind.min, IntKind.max, IntKind.bits, IntKind.signed] at w1; omega
  obtain ⟨x1, rfl⟩ : ∃ m : Nat, z1 = (m : Int) := ⟨z1.toNat, by omega⟩
  have hx1 : x1 < 4294967296 := by omega
  have hwalk : Calls Try.prog 4 #[.slice A0 n0 c0, .int .u32 (x1 : Int)] W fun e w' => e = .returned (.bool true) ∧ Below W.heap.size W w' := by
    exact graphNew_law A0 n0 c0 l0 x1 W hl0 hr0
  refine hwalk.mono fun e W' ⟨he, hb⟩ => ?_
  subst he
  exact ⟨_, rfl, Lw.post_true laidOut (by kernel_rfl) rfl rfl rfl rfl (by kernel_rfl) Try.underlying4 hW' hb⟩

/-- GraphNew: what is handed in is made anew, and so is what is handed out. -/
theorem graphNew_holds : Rows.GraphNewSaid :=
  OpenClaim.holds_of_wide 4 Try.f4 rfl rfl rfl rfl rfl rfl rfl ⟨rfl, rfl, rfl, rfl, rfl⟩ rfl rfl rfl rfl rfl (by kernel_rfl) Try.func4 (by kernel_rfl)
    (of_decide_eq_true (by kernel_rfl)) (by unfold Func.isWrapper; first | (rw [if_pos (by decide +kernel)]; kernel_rfl) | (rw [if_neg (by decide +kernel)]; exact ⟨rfl, rfl⟩))
    (fun os started H enc _ => graphNew_lifted os started H enc)
#print axioms graphNew_holds
end Go.Proofs.Yteaibgnelnblnaa
