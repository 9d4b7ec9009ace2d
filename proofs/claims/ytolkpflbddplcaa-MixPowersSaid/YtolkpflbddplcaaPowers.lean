/- MixPowers is proved: a draw below a power of two is the draw's lowest bits; for every input, no conditions. -/
import Derived.Test.YtolkpflbddplcaaBelow
namespace Go.Proofs.Ytolkpflbddplcaa
open Go.RowKit Mx
/-- A power of two that fits 64 bits divides 2^64, so no number is passed over. -/
theorem belowI_pow {d : Int} (hd : U64 d) (j : Nat) (hj : j ≤ 63) : belowI d (2 ^ j) 127 0 = d % 2 ^ j := by
  have e : (18446744073709551616 : Int) % 2 ^ j = 0 := by
    have : (18446744073709551616 : Int) = 2 ^ j * 2 ^ (64 - j) := by
      rw [← Int.pow_add, show j + (64 - j) = 64 by omega]; rfl
    rw [this]; exact Int.mul_emod_right _ _
  have h : rowI d 0 ≤ lastI (2 ^ j) := by
    show d ≤ lastI (2 ^ j)
    unfold lastI; rw [e]; unfold U64 at hd; omega
  unfold belowI
  rw [if_pos h]
  rfl
theorem mixPowers_walk (s k t a x : Int) (hx : 0 ≤ x ∧ x < 256) (w : World) :
    Calls Try.prog 5 #[.agg #[.int .u64 s, .int .u64 k, .int .u64 t, .int .u64 a], .int .u8 x] w fun e w' => e = .returned (.bool true) ∧ Below w.heap.size w w' := by
  go_enter Try.func5, Try.ntmps5
  go_wp2_with fail
  obtain ⟨n, hn⟩ : ∃ n, IntKind.u64.wrap (2 ^ (x % 64).toNat) = n := ⟨_, rfl⟩
  rw [hn]
  have hj : (x % 64).toNat ≤ 63 := by omega
  have hp : (2 : Int) ^ (x % 64).toNat < 18446744073709551616 := by
    have h1 : (2 : Nat) ^ (x % 64).toNat ≤ 2 ^ 63 := Nat.pow_le_pow_right (by omega) hj
    have h2 : ((2 ^ (x % 64).toNat : Nat) : Int) ≤ ((2 ^ 63 : Nat) : Int) := Int.ofNat_le.2 h1
    simp at h2
    omega
  have hp0 : (0 : Int) < 2 ^ (x % 64).toNat := Int.pow_pos (by omega)
  have hnp : n = 2 ^ (x % 64).toNat := by
    rw [← hn]; exact U64.wrap ⟨by omega, hp⟩
  have h1 : 1 ≤ n := by omega
  have HN : Hid (U64 n) := Lib.hid (by rw [hnp]; exact ⟨by omega, hp⟩)
  have hd0 : 0 ≤ drawI s k t a := (drawI_U64 s k t a).1
  have hB : (belowI (drawI s k t a) n 127 0 == drawI s k t a % n) = true := by
    rw [hnp, belowI_pow (drawI_U64 s k t a) _ hj]; simp
  have hnz : ¬ n = 0 := by omega
  have hB2 : (belowI (drawI s k t a) n 127 0 == (drawI s k t a).tmod n) = true := by rw [Int.tmod_eq_emod_of_nonneg hd0]; exact hB
  clear hn hj hp hp0 hnp hx
  go_region_held3 (fun w' => w'.cell? ⟨w.heap.size, 0, none⟩ = some (.int .u64 s) ∧ w'.cell? ⟨w.heap.size, 1, none⟩ = some (.int .u64 k) ∧ w'.cell? ⟨w.heap.size, 2, none⟩ = some (.int .u64 t) ∧ w'.cell? ⟨w.heap.size, 3, none⟩ = some (.int .u64 a) ∧ Below w.heap.size w w')
    (first | assumption | exact ⟨by go_keep, by go_keep, by go_keep, by go_keep, ((Below.refl _ _).alloc (Nat.le_refl _) _).drew⟩
           | exact keep4 (by assumption) (by assumption))
    (first | (go_at_call 13; refine (below_some _ _ _ _ _ h1 HN.out _).mono ?_; rintro e w' ⟨rfl, hb⟩)
           | (go_at_call 10; refine (draw_any _ _ _ _ _).mono ?_; rintro e w' ⟨rfl, hb⟩)
           | (go_at_call 12; refine (awake_any _).mono ?_; rintro e w' ⟨rfl, rfl⟩))
  all_goals (go_wp2; go_ret; exact ⟨by simp, held4 (by assumption)⟩)

open Go.ChangeShapes Go.WideShapes Go.ChangeAt Go.Joins
set_option maxRecDepth 100000 in
theorem mixPowers_lifted (os : Os) (started : os.Started) (H : Type) (enc : TypeId × Value → H) :
    ReturnsInHanded {} Try.checked os 5 .any (Rows.mixPowersSpec.pre6 enc Try.prog Try.f5 Rows.mixPowersRow.domain false) (Rows.mixPowersSpec.post enc Try.prog Try.f5 false true false false) := by
  refine returnsInHanded_of_change (C := Try.checked) own started (by kernel_rfl) Try.func5
    (ChangeSpec.witness6 (enc := enc) (C := Try.checked) false ⟨#[], #[.agg #[.int .u64 0, .int .u64 0, .int .u64 0, .int .u64 0], .int .u8 0], []⟩ 8 (by kernel_rfl) (by kernel_rfl) (by kernel_rfl) (by kernel_rfl)) ?_
  intro W base args ds gs before hval0 hW hcnd _
  have hval : ∀ (j : Nat) t v, Try.f5.params[j]? = some t → args[j]? = some v → Value.okWide Try.prog W .any base t v := hval0
  have hW' := hW
  obtain ⟨p, q, hA0, hV, rfl, hfz, hnd⟩ := hW
  have hA : DataW.TrodAll enc Try.prog W 0 (fun _ => true) true Try.f5.params.toList args.toList ds p := hA0
  rw [Try.params5] at hA hval
  obtain ⟨v0, v1, d0, d1, p0, p1, rfl, rfl, rfl, h0, h1⟩ := trodAll_two hA
  obtain ⟨s, k, t, a, rfl, -, -, -, -⟩ := open_tape (hval 0 24 v0 rfl rfl) h0
  obtain ⟨x, rfl, -, -, wx⟩ := open_int Try.underlying5 (hval 1 5 v1 rfl rfl) h1
  have hx : 0 ≤ x ∧ x < 256 := by simp [Lit.wf, IntKind.min, IntKind.max, IntKind.bits, IntKind.signed] at wx; omega
  refine (mixPowers_walk s k t a x hx W).mono fun e W' ⟨he, hb⟩ => ?_
  subst he
  exact ⟨_, rfl, Lw.post_true laidOut (by kernel_rfl) rfl rfl rfl rfl (by kernel_rfl) Try.underlying4 hW' hb⟩

/-- MixPowers: a draw below a power of two is the draw's lowest bits. -/
theorem mixPowers_holds : Rows.MixPowersSaid :=
  OpenClaim.holds_of_wide 5 Try.f5 rfl rfl rfl rfl rfl rfl rfl ⟨rfl, rfl, rfl, rfl, rfl⟩ rfl rfl rfl rfl rfl (by kernel_rfl) Try.func5 (by kernel_rfl)
    (of_decide_eq_true (by kernel_rfl)) (by unfold Func.isWrapper; rw [if_neg (of_decide_eq_false (by kernel_rfl))]; exact ⟨rfl, rfl⟩)
    (fun os started H enc _ => mixPowers_lifted os started H enc)
#print axioms mixPowers_holds
end Go.Proofs.Ytolkpflbddplcaa
