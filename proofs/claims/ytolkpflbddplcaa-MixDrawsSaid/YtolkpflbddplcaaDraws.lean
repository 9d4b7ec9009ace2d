/- MixDraws is proved: any number mixed, and any tape's draw, are the document's; for every input, no conditions. -/
import Derived.Test.YtolkpflbddplcaaWalk
namespace Go.Proofs.Ytolkpflbddplcaa
open Go.RowKit Mx
set_option maxHeartbeats 400000 in
theorem mixDraws_walk (n s k t a : Int) (w : World) :
    Calls Try.prog 3 #[.int .u64 n, .agg #[.int .u64 s, .int .u64 k, .int .u64 t, .int .u64 a]] w fun e w' => e = .returned (.bool true) ∧ Below w.heap.size w w' := by
  go_enter Try.func3, Try.ntmps3
  go_wp2_with fail
  go_region_held3 (fun w' => w'.cell? ⟨w.heap.size, 0, none⟩ = some (.int .u64 s) ∧ w'.cell? ⟨w.heap.size, 1, none⟩ = some (.int .u64 k) ∧ w'.cell? ⟨w.heap.size, 2, none⟩ = some (.int .u64 t) ∧ w'.cell? ⟨w.heap.size, 3, none⟩ = some (.int .u64 a) ∧ Below w.heap.size w w')
    (first | assumption | exact ⟨by go_keep, by go_keep, by go_keep, by go_keep, ((Below.refl _ _).alloc (Nat.le_refl _) _).drew⟩
           | exact keep4 (by assumption) (by assumption))
    (first | (go_at_call 8; refine (mix_any _ _).mono ?_; rintro e w' ⟨rfl, rfl⟩)
           | (go_at_call 9; refine (ref_mix_any _ _).mono ?_; rintro e w' ⟨rfl, rfl⟩)
           | (go_at_call 10; refine (draw_any _ _ _ _ _).mono ?_; rintro e w' ⟨rfl, hb⟩)
           | (go_at_call 11; refine (ref_draw_any _ _ _ _ _).mono ?_; rintro e w' ⟨rfl, hb⟩)
           | (go_at_call 12; refine (awake_any _).mono ?_; rintro e w' ⟨rfl, rfl⟩))
  all_goals (go_wp2; go_ret; exact ⟨by simp, held4 (by assumption)⟩)

open Go.ChangeShapes Go.WideShapes Go.ChangeAt Go.Joins
set_option maxRecDepth 100000 in
theorem mixDraws_lifted (os : Os) (started : os.Started) (H : Type) (enc : TypeId × Value → H) :
    ReturnsInHanded {} Try.checked os 3 .any (Rows.mixDrawsSpec.pre6 enc Try.prog Try.f3 Rows.mixDrawsRow.domain false) (Rows.mixDrawsSpec.post enc Try.prog Try.f3 false true false false) := by
  refine returnsInHanded_of_change (C := Try.checked) own started (by kernel_rfl) Try.func3
    (ChangeSpec.witness6 (enc := enc) (C := Try.checked) false ⟨#[], #[.int .u64 0, .agg #[.int .u64 0, .int .u64 0, .int .u64 0, .int .u64 0]], []⟩ 8 (by kernel_rfl) (by kernel_rfl) (by kernel_rfl) (by kernel_rfl)) ?_
  intro W base args ds gs before hval0 hW hcnd _
  have hval : ∀ (j : Nat) t v, Try.f3.params[j]? = some t → args[j]? = some v → Value.okWide Try.prog W .any base t v := hval0
  have hW' := hW
  obtain ⟨p, q, hA0, hV, rfl, hfz, hnd⟩ := hW
  have hA : DataW.TrodAll enc Try.prog W 0 (fun _ => true) true Try.f3.params.toList args.toList ds p := hA0
  rw [Try.params3] at hA hval
  obtain ⟨v0, v1, d0, d1, p0, p1, rfl, rfl, rfl, h0, h1⟩ := trodAll_two hA
  obtain ⟨n, rfl, -, -, -⟩ := open_int Try.underlying22 (hval 0 22 v0 rfl rfl) h0
  obtain ⟨s, k, t, a, rfl, -, -, -, -⟩ := open_tape (hval 1 24 v1 rfl rfl) h1
  refine (mixDraws_walk n s k t a W).mono fun e W' ⟨he, hb⟩ => ?_
  subst he
  exact ⟨_, rfl, Lw.post_true laidOut (by kernel_rfl) rfl rfl rfl rfl (by kernel_rfl) Try.underlying4 hW' hb⟩

/-- MixDraws: any number mixed, and any tape's draw, are the document's. -/
theorem mixDraws_holds : Rows.MixDrawsSaid :=
  OpenClaim.holds_of_wide 3 Try.f3 rfl rfl rfl rfl rfl rfl rfl ⟨rfl, rfl, rfl, rfl, rfl⟩ rfl rfl rfl rfl rfl (by kernel_rfl) Try.func3 (by kernel_rfl)
    (of_decide_eq_true (by kernel_rfl)) (by unfold Func.isWrapper; rw [if_neg (of_decide_eq_false (by kernel_rfl))]; exact ⟨rfl, rfl⟩)
    (fun os started H enc _ => mixDraws_lifted os started H enc)
#print axioms mixDraws_holds
end Go.Proofs.Ytolkpflbddplcaa
