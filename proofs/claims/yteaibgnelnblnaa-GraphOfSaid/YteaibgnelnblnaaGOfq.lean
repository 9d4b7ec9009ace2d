/- GraphOf: the graph of any edges, or the error, is the document's: its rows, edges, vertices, each vertex's arcs, and whether there is an arc. No condition on the input. -/
import Derived.Test.YteaibgnelnblnaaKQ27
import Derived.Test.YteaibgnelnblnaaKQ28
namespace Go.Proofs.Yteaibgnelnblnaa
open Go.RowKit Me Tx Ed Mg Va

open Go.ChangeShapes Go.WideShapes Go.ChangeAt Go.Joins
set_option maxRecDepth 100000 in
theorem graphOf_lifted (os : Os) (started : os.Started) (H : Type) (enc : TypeId × Value → H) :
    ReturnsInHanded {} Try.checked os 3 .any (Rows.graphOfSpec.pre6 enc Try.prog Try.f3 Rows.graphOfRow.domain false) (Rows.graphOfSpec.post enc Try.prog Try.f3 false true false false) := by
  refine returnsInHanded_of_change (C := Try.checked) own started (by kernel_rfl) Try.func3
    (ChangeSpec.witness6 (enc := enc) (C := Try.checked) false ⟨#[], #[.slice none 0 0, .int .u32 0, .int .u32 0], []⟩ 8 (by kernel_rfl) (by kernel_rfl) (by kernel_rfl) (by kernel_rfl)) ?_
  intro W base args ds gs before hval0 hW hcnd _
  have hval : ∀ (j : Nat) t v, Try.f3.params[j]? = some t → args[j]? = some v → Value.okWide Try.prog W .any base t v := hval0
  have hW' := hW
  obtain ⟨p, q, hA0, hV, rfl, hfz, hnd⟩ := hW
  have hA : DataW.TrodAll enc Try.prog W 0 (fun _ => true) true Try.f3.params.toList args.toList ds p := hA0
  rw [Try.params3] at hA hval
  obtain ⟨v0, v1, v2, d0, d1, d2, p0, p1, p2, rfl, rfl, rfl, h0, h1, h2⟩ := trodAll_three hA
  obtain ⟨A0, n0, c0, l0, rfl, hl0, hn0, hc0, hr0⟩ := open_eds Try.underlying22 Try.underlying58 (by kernel_rfl) (by kernel_rfl) rfl rfl rfl Try.underlying23 (hval 0 22 v0 rfl rfl) h0
  obtain ⟨z1, rfl, -, -, w1⟩ := open_int Try.underlying23 (hval 1 23 v1 rfl rfl) h1
  have hz1 : 0 ≤ z1 ∧ z1 < 4294967296 := by simp [Lit.wf, IntKind.min, IntKind.max, IntKind.bits, IntKind.signed] at w1; omega
  obtain ⟨x1, rfl⟩ : ∃ m : Nat, z1 = (m : Int) := ⟨z1.toNat, by omega⟩
  have hx1 : x1 < 4294967296 := by omega
  obtain ⟨z2, rfl, -, -, w2⟩ := open_int Try.underlying23 (hval 2 23 v2 rfl rfl) h2
  have hz2 : 0 ≤ z2 ∧ z2 < 4294967296 := by simp [Lit.wf, IntKind.min, IntKind.max, IntKind.bits, IntKind.signed] at w2; omega
  obtain ⟨x2, rfl⟩ : ∃ m : Nat, z2 = (m : Int) := ⟨z2.toNat, by omega⟩
  have hx2 : x2 < 4294967296 := by omega
  have hwalk : Calls Try.prog 3 #[.slice A0 n0 c0, .int .u32 (x1 : Int), .int .u32 (x2 : Int)] W fun e w' => e = .returned (.bool true) ∧ Below W.heap.size W w' := by
    exact graphOf_law A0 n0 c0 l0 x1 x2 W hl0 hr0.1 hr0.2 (fun m hm => sorts_any (by omega))
  refine hwalk.mono fun e W' ⟨he, hb⟩ => ?_
  subst he
  exact ⟨_, rfl, Lw.post_true laidOut (by kernel_rfl) rfl rfl rfl rfl (by kernel_rfl) Try.underlying4 hW' hb⟩

/-- GraphOf: the graph of any edges, or the error, is the document's: its rows, edges, vertices, each vertex's arcs, and whether there is an arc. -/
theorem graphOf_holds : Rows.GraphOfSaid :=
  OpenClaim.holds_of_wide 3 Try.f3 rfl rfl rfl rfl rfl rfl rfl ⟨rfl, rfl, rfl, rfl, rfl⟩ rfl rfl rfl rfl rfl (by kernel_rfl) Try.func3 (by kernel_rfl)
    (of_decide_eq_true (by kernel_rfl)) (by unfold Func.isWrapper; first | (rw [if_pos (by decide +kernel)]; kernel_rfl) | (rw [if_neg (by decide +kernel)]; exact ⟨rfl, rfl⟩))
    (fun os started H enc _ => graphOf_lifted os started H enc)
#print axioms graphOf_holds
end Go.Proofs.Yteaibgnelnblnaa
