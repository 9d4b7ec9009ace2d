/- MixBelow is proved: any tape's draw below any number is the document's, and below it; for every input, no conditions. -/
import Derived.Test.YtolkpflbddplcaaBelow
namespace Go.Proofs.Ytolkpflbddplcaa
open Go.RowKit Mx
theorem belowI_lt (d n : Int) (h1 : 1 ≤ n) : ∀ f i, 0 ≤ belowI d n f i ∧ belowI d n f i < n
  | 0, i => ⟨Int.emod_nonneg _ (by omega), Int.emod_lt_of_pos _ (by omega)⟩
  | f + 1, i => by
    unfold belowI
    split
    · exact ⟨Int.emod_nonneg _ (by omega), Int.emod_lt_of_pos _ (by omega)⟩
    · exact belowI_lt d n h1 f (i + 1)
theorem mixBelow_zero (s k t a : Int) (w : World) :
    Calls Try.prog 4 #[.agg #[.int .u64 s, .int .u64 k, .int .u64 t, .int .u64 a], .int .u64 0] w fun e w' => e = .returned (.bool true) ∧ Below w.heap.size w w' := by
  have K := Lib.hid (cells4 w (.int .u64 s) (.int .u64 k) (.int .u64 t) (.int .u64 a) 24)
  go_enter Try.func4, Try.ntmps4
  go_wp2_with ((first | (go_at_call 13; refine (below_zero _ _ _ _ _).mono ?_; rintro e w1 ⟨rfl, hb1⟩; have g0 := bcell hb1 K.out.1; have g1 := bcell hb1 K.out.2.1; have g2 := bcell hb1 K.out.2.2.1; have g3 := bcell hb1 K.out.2.2.2)
                      | (go_at_call 14; refine (ref_below_zero _ _ _ _ _).mono ?_; rintro e w2 ⟨rfl, hb2⟩)
                      | (go_at_call 12; refine (awake_any _).mono ?_; rintro e w3 ⟨rfl, rfl⟩)))
  go_ret
  exact ⟨by simp, btrans ((Below.refl _ _).alloc (Nat.le_refl _) _) (btrans hb1 hb2)⟩
theorem mixBelow_some (s k t a n : Int) (h1 : 1 ≤ n) (hn : U64 n) (w : World) :
    Calls Try.prog 4 #[.agg #[.int .u64 s, .int .u64 k, .int .u64 t, .int .u64 a], .int .u64 n] w fun e w' => e = .returned (.bool true) ∧ Below w.heap.size w w' := by
  have HN := Lib.hid hn
  have hlt := (belowI_lt (drawI s k t a) n h1 127 0).2
  have hn0 : (n == 0) = false := by simp; omega
  clear hn
  have K := Lib.hid (cells4 w (.int .u64 s) (.int .u64 k) (.int .u64 t) (.int .u64 a) 24)
  go_enter Try.func4, Try.ntmps4
  go_wp2_with ((first | (go_at_call 13; refine (below_some _ _ _ _ _ h1 HN.out _).mono ?_; rintro e w1 ⟨rfl, hb1⟩; have g0 := bcell hb1 K.out.1; have g1 := bcell hb1 K.out.2.1; have g2 := bcell hb1 K.out.2.2.1; have g3 := bcell hb1 K.out.2.2.2)
                      | (go_at_call 14; refine (ref_below_some _ _ _ _ _ h1 HN.out _).mono ?_; rintro e w2 ⟨rfl, hb2⟩)
                      | (go_at_call 12; refine (awake_any _).mono ?_; rintro e w3 ⟨rfl, rfl⟩)))
  go_ret
  exact ⟨by simp, btrans ((Below.refl _ _).alloc (Nat.le_refl _) _) (btrans hb1 hb2)⟩
open Go.ChangeShapes Go.WideShapes Go.ChangeAt Go.Joins
set_option maxRecDepth 100000 in
theorem mixBelow_lifted (os : Os) (started : os.Started) (H : Type) (enc : TypeId × Value → H) :
    ReturnsInHanded {} Try.checked os 4 .any (Rows.mixBelowSpec.pre6 enc Try.prog Try.f4 Rows.mixBelowRow.domain false) (Rows.mixBelowSpec.post enc Try.prog Try.f4 false true false false) := by
  refine returnsInHanded_of_change (C := Try.checked) own started (by kernel_rfl) Try.func4
    (ChangeSpec.witness6 (enc := enc) (C := Try.checked) false ⟨#[], #[.agg #[.int .u64 0, .int .u64 0, .int .u64 0, .int .u64 0], .int .u64 0], []⟩ 8 (by kernel_rfl) (by kernel_rfl) (by kernel_rfl) (by kernel_rfl)) ?_
  intro W base args ds gs before hval0 hW hcnd _
  have hval : ∀ (j : Nat) t v, Try.f4.params[j]? = some t → args[j]? = some v → Value.okWide Try.prog W .any base t v := hval0
  have hW' := hW
  obtain ⟨p, q, hA0, hV, rfl, hfz, hnd⟩ := hW
  have hA : DataW.TrodAll enc Try.prog W 0 (fun _ => true) true Try.f4.params.toList args.toList ds p := hA0
  rw [Try.params4] at hA hval
  obtain ⟨v0, v1, d0, d1, p0, p1, rfl, rfl, rfl, h0, h1⟩ := trodAll_two hA
  obtain ⟨s, k, t, a, rfl, -, -, -, -⟩ := open_tape (hval 0 24 v0 rfl rfl) h0
  obtain ⟨n, rfl, -, -, wn⟩ := open_int Try.underlying22 (hval 1 22 v1 rfl rfl) h1
  have hn := wf_U64 wn
  have hwalk : Calls Try.prog 4 #[.agg #[.int .u64 s, .int .u64 k, .int .u64 t, .int .u64 a], .int .u64 n] W fun e w' => e = .returned (.bool true) ∧ Below W.heap.size W w' := by
    by_cases h : n = 0
    · subst h; exact mixBelow_zero s k t a W
    · exact mixBelow_some s k t a n (by unfold U64 at hn; omega) hn W
  refine hwalk.mono fun e W' ⟨he, hb⟩ => ?_
  subst he
  exact ⟨_, rfl, Lw.post_true laidOut (by kernel_rfl) rfl rfl rfl rfl (by kernel_rfl) Try.underlying4 hW' hb⟩

/-- MixBelow: any tape's draw below any number is the document's, and below it. -/
theorem mixBelow_holds : Rows.MixBelowSaid :=
  OpenClaim.holds_of_wide 4 Try.f4 rfl rfl rfl rfl rfl rfl rfl ⟨rfl, rfl, rfl, rfl, rfl⟩ rfl rfl rfl rfl rfl (by kernel_rfl) Try.func4 (by kernel_rfl)
    (of_decide_eq_true (by kernel_rfl)) (by unfold Func.isWrapper; rw [if_neg (of_decide_eq_false (by kernel_rfl))]; exact ⟨rfl, rfl⟩)
    (fun os started H enc _ => mixBelow_lifted os started H enc)
#print axioms mixBelow_holds
end Go.Proofs.Ytolkpflbddplcaa
