/- MixApart is proved: tapes that differ by the attempt, the step, the walker or the seed alone have unlike draws; for every input, no conditions. -/
import Derived.Test.YtolkpflbddplcaaWalk
namespace Go.Proofs.Ytolkpflbddplcaa
open Go.RowKit Mx
set_option maxHeartbeats 1000000 in
theorem apart0same (s k t a x : Int) (hx : 0 ≤ x ∧ x < 256) (h40 : ((x % 4 : Int) == 0) = true)  (w : World) :
    Calls Try.prog 7 #[.agg #[.int .u64 s, .int .u64 k, .int .u64 t, .int .u64 a], .int .u8 x, .int .u64 a] w fun e w' => e = .returned (.bool true) ∧ Below w.heap.size w w' := by
  go_enter Try.func7, Try.ntmps7
  go_wp2_with fail
  go_region_held3 (fun w' => w'.cell? ⟨w.heap.size, 0, none⟩ = some (.int .u64 s) ∧ w'.cell? ⟨w.heap.size, 1, none⟩ = some (.int .u64 k) ∧ w'.cell? ⟨w.heap.size, 2, none⟩ = some (.int .u64 t) ∧ w'.cell? ⟨w.heap.size, 3, none⟩ = some (.int .u64 a)
      ∧ w'.cell? ⟨w.heap.size + 1, 0, none⟩ = some (.int .u64 s) ∧ w'.cell? ⟨w.heap.size + 1, 1, none⟩ = some (.int .u64 k) ∧ w'.cell? ⟨w.heap.size + 1, 2, none⟩ = some (.int .u64 t) ∧ w'.cell? ⟨w.heap.size + 1, 3, none⟩ = some (.int .u64 a) ∧ Below w.heap.size w w')
    (first | assumption | exact keep8 (by assumption) (by assumption)
           | exact ⟨by go_keep, by go_keep, by go_keep, by go_keep, by go_keep, by go_keep, by go_keep, by go_keep, (((Below.refl _ _).alloc (Nat.le_refl _) _).alloc (by simp) _).drew⟩)
    (first | (go_at_call 10; refine (draw_any _ _ _ _ _).mono ?_; rintro e w' ⟨rfl, hb⟩)
           | (go_at_call 12; refine (awake_any _).mono ?_; rintro e w' ⟨rfl, rfl⟩))
  all_goals (go_wp2; go_ret; exact ⟨by simp, held8 (by assumption)⟩)
set_option maxHeartbeats 1000000 in
theorem apart0other (s k t a x o : Int) (hx : 0 ≤ x ∧ x < 256) (h40 : ((x % 4 : Int) == 0) = true) (hne : (a == o) = false) (hd : (drawI s k t a == drawI s k t o) = false) (w : World) :
    Calls Try.prog 7 #[.agg #[.int .u64 s, .int .u64 k, .int .u64 t, .int .u64 a], .int .u8 x, .int .u64 o] w fun e w' => e = .returned (.bool true) ∧ Below w.heap.size w w' := by
  go_enter Try.func7, Try.ntmps7
  go_wp2_with fail
  go_region_held3 (fun w' => w'.cell? ⟨w.heap.size, 0, none⟩ = some (.int .u64 s) ∧ w'.cell? ⟨w.heap.size, 1, none⟩ = some (.int .u64 k) ∧ w'.cell? ⟨w.heap.size, 2, none⟩ = some (.int .u64 t) ∧ w'.cell? ⟨w.heap.size, 3, none⟩ = some (.int .u64 a)
      ∧ w'.cell? ⟨w.heap.size + 1, 0, none⟩ = some (.int .u64 s) ∧ w'.cell? ⟨w.heap.size + 1, 1, none⟩ = some (.int .u64 k) ∧ w'.cell? ⟨w.heap.size + 1, 2, none⟩ = some (.int .u64 t) ∧ w'.cell? ⟨w.heap.size + 1, 3, none⟩ = some (.int .u64 o) ∧ Below w.heap.size w w')
    (first | assumption | exact keep8 (by assumption) (by assumption)
           | exact ⟨by go_keep, by go_keep, by go_keep, by go_keep, by go_keep, by go_keep, by go_keep, by go_keep, (((Below.refl _ _).alloc (Nat.le_refl _) _).alloc (by simp) _).drew⟩)
    (first | (go_at_call 10; refine (draw_any _ _ _ _ _).mono ?_; rintro e w' ⟨rfl, hb⟩)
           | (go_at_call 12; refine (awake_any _).mono ?_; rintro e w' ⟨rfl, rfl⟩))
  all_goals (go_wp2; go_ret; exact ⟨by simp, held8 (by assumption)⟩)
set_option maxHeartbeats 1000000 in
theorem apart1same (s k t a x : Int) (hx : 0 ≤ x ∧ x < 256) (h40 : ((x % 4 : Int) == 0) = false) (h41 : ((x % 4 : Int) == 1) = true)  (w : World) :
    Calls Try.prog 7 #[.agg #[.int .u64 s, .int .u64 k, .int .u64 t, .int .u64 a], .int .u8 x, .int .u64 t] w fun e w' => e = .returned (.bool true) ∧ Below w.heap.size w w' := by
  go_enter Try.func7, Try.ntmps7
  go_wp2_with fail
  go_region_held3 (fun w' => w'.cell? ⟨w.heap.size, 0, none⟩ = some (.int .u64 s) ∧ w'.cell? ⟨w.heap.size, 1, none⟩ = some (.int .u64 k) ∧ w'.cell? ⟨w.heap.size, 2, none⟩ = some (.int .u64 t) ∧ w'.cell? ⟨w.heap.size, 3, none⟩ = some (.int .u64 a)
      ∧ w'.cell? ⟨w.heap.size + 1, 0, none⟩ = some (.int .u64 s) ∧ w'.cell? ⟨w.heap.size + 1, 1, none⟩ = some (.int .u64 k) ∧ w'.cell? ⟨w.heap.size + 1, 2, none⟩ = some (.int .u64 t) ∧ w'.cell? ⟨w.heap.size + 1, 3, none⟩ = some (.int .u64 a) ∧ Below w.heap.size w w')
    (first | assumption | exact keep8 (by assumption) (by assumption)
           | exact ⟨by go_keep, by go_keep, by go_keep, by go_keep, by go_keep, by go_keep, by go_keep, by go_keep, (((Below.refl _ _).alloc (Nat.le_refl _) _).alloc (by simp) _).drew⟩)
    (first | (go_at_call 10; refine (draw_any _ _ _ _ _).mono ?_; rintro e w' ⟨rfl, hb⟩)
           | (go_at_call 12; refine (awake_any _).mono ?_; rintro e w' ⟨rfl, rfl⟩))
  all_goals (go_wp2; go_ret; exact ⟨by simp, held8 (by assumption)⟩)
set_option maxHeartbeats 1000000 in
theorem apart1other (s k t a x o : Int) (hx : 0 ≤ x ∧ x < 256) (h40 : ((x % 4 : Int) == 0) = false) (h41 : ((x % 4 : Int) == 1) = true) (hne : (t == o) = false) (hd : (drawI s k t a == drawI s k o a) = false) (w : World) :
    Calls Try.prog 7 #[.agg #[.int .u64 s, .int .u64 k, .int .u64 t, .int .u64 a], .int .u8 x, .int .u64 o] w fun e w' => e = .returned (.bool true) ∧ Below w.heap.size w w' := by
  go_enter Try.func7, Try.ntmps7
  go_wp2_with fail
  go_region_held3 (fun w' => w'.cell? ⟨w.heap.size, 0, none⟩ = some (.int .u64 s) ∧ w'.cell? ⟨w.heap.size, 1, none⟩ = some (.int .u64 k) ∧ w'.cell? ⟨w.heap.size, 2, none⟩ = some (.int .u64 t) ∧ w'.cell? ⟨w.heap.size, 3, none⟩ = some (.int .u64 a)
      ∧ w'.cell? ⟨w.heap.size + 1, 0, none⟩ = some (.int .u64 s) ∧ w'.cell? ⟨w.heap.size + 1, 1, none⟩ = some (.int .u64 k) ∧ w'.cell? ⟨w.heap.size + 1, 2, none⟩ = some (.int .u64 o) ∧ w'.cell? ⟨w.heap.size + 1, 3, none⟩ = some (.int .u64 a) ∧ Below w.heap.size w w')
    (first | assumption | exact keep8 (by assumption) (by assumption)
           | exact ⟨by go_keep, by go_keep, by go_keep, by go_keep, by go_keep, by go_keep, by go_keep, by go_keep, (((Below.refl _ _).alloc (Nat.le_refl _) _).alloc (by simp) _).drew⟩)
    (first | (go_at_call 10; refine (draw_any _ _ _ _ _).mono ?_; rintro e w' ⟨rfl, hb⟩)
           | (go_at_call 12; refine (awake_any _).mono ?_; rintro e w' ⟨rfl, rfl⟩))
  all_goals (go_wp2; go_ret; exact ⟨by simp, held8 (by assumption)⟩)
set_option maxHeartbeats 1000000 in
theorem apart2same (s k t a x : Int) (hx : 0 ≤ x ∧ x < 256) (h40 : ((x % 4 : Int) == 0) = false) (h41 : ((x % 4 : Int) == 1) = false) (h42 : ((x % 4 : Int) == 2) = true)  (w : World) :
    Calls Try.prog 7 #[.agg #[.int .u64 s, .int .u64 k, .int .u64 t, .int .u64 a], .int .u8 x, .int .u64 k] w fun e w' => e = .returned (.bool true) ∧ Below w.heap.size w w' := by
  go_enter Try.func7, Try.ntmps7
  go_wp2_with fail
  go_region_held3 (fun w' => w'.cell? ⟨w.heap.size, 0, none⟩ = some (.int .u64 s) ∧ w'.cell? ⟨w.heap.size, 1, none⟩ = some (.int .u64 k) ∧ w'.cell? ⟨w.heap.size, 2, none⟩ = some (.int .u64 t) ∧ w'.cell? ⟨w.heap.size, 3, none⟩ = some (.int .u64 a)
      ∧ w'.cell? ⟨w.heap.size + 1, 0, none⟩ = some (.int .u64 s) ∧ w'.cell? ⟨w.heap.size + 1, 1, none⟩ = some (.int .u64 k) ∧ w'.cell? ⟨w.heap.size + 1, 2, none⟩ = some (.int .u64 t) ∧ w'.cell? ⟨w.heap.size + 1, 3, none⟩ = some (.int .u64 a) ∧ Below w.heap.size w w')
    (first | assumption | exact keep8 (by assumption) (by assumption)
           | exact ⟨by go_keep, by go_keep, by go_keep, by go_keep, by go_keep, by go_keep, by go_keep, by go_keep, (((Below.refl _ _).alloc (Nat.le_refl _) _).alloc (by simp) _).drew⟩)
    (first | (go_at_call 10; refine (draw_any _ _ _ _ _).mono ?_; rintro e w' ⟨rfl, hb⟩)
           | (go_at_call 12; refine (awake_any _).mono ?_; rintro e w' ⟨rfl, rfl⟩))
  all_goals (go_wp2; go_ret; exact ⟨by simp, held8 (by assumption)⟩)
set_option maxHeartbeats 1000000 in
theorem apart2other (s k t a x o : Int) (hx : 0 ≤ x ∧ x < 256) (h40 : ((x % 4 : Int) == 0) = false) (h41 : ((x % 4 : Int) == 1) = false) (h42 : ((x % 4 : Int) == 2) = true) (hne : (k == o) = false) (hd : (drawI s k t a == drawI s o t a) = false) (w : World) :
    Calls Try.prog 7 #[.agg #[.int .u64 s, .int .u64 k, .int .u64 t, .int .u64 a], .int .u8 x, .int .u64 o] w fun e w' => e = .returned (.bool true) ∧ Below w.heap.size w w' := by
  go_enter Try.func7, Try.ntmps7
  go_wp2_with fail
  go_region_held3 (fun w' => w'.cell? ⟨w.heap.size, 0, none⟩ = some (.int .u64 s) ∧ w'.cell? ⟨w.heap.size, 1, none⟩ = some (.int .u64 k) ∧ w'.cell? ⟨w.heap.size, 2, none⟩ = some (.int .u64 t) ∧ w'.cell? ⟨w.heap.size, 3, none⟩ = some (.int .u64 a)
      ∧ w'.cell? ⟨w.heap.size + 1, 0, none⟩ = some (.int .u64 s) ∧ w'.cell? ⟨w.heap.size + 1, 1, none⟩ = some (.int .u64 o) ∧ w'.cell? ⟨w.heap.size + 1, 2, none⟩ = some (.int .u64 t) ∧ w'.cell? ⟨w.heap.size + 1, 3, none⟩ = some (.int .u64 a) ∧ Below w.heap.size w w')
    (first | assumption | exact keep8 (by assumption) (by assumption)
           | exact ⟨by go_keep, by go_keep, by go_keep, by go_keep, by go_keep, by go_keep, by go_keep, by go_keep, (((Below.refl _ _).alloc (Nat.le_refl _) _).alloc (by simp) _).drew⟩)
    (first | (go_at_call 10; refine (draw_any _ _ _ _ _).mono ?_; rintro e w' ⟨rfl, hb⟩)
           | (go_at_call 12; refine (awake_any _).mono ?_; rintro e w' ⟨rfl, rfl⟩))
  all_goals (go_wp2; go_ret; exact ⟨by simp, held8 (by assumption)⟩)
set_option maxHeartbeats 1000000 in
theorem apart3same (s k t a x : Int) (hx : 0 ≤ x ∧ x < 256) (h40 : ((x % 4 : Int) == 0) = false) (h41 : ((x % 4 : Int) == 1) = false) (h42 : ((x % 4 : Int) == 2) = false)  (w : World) :
    Calls Try.prog 7 #[.agg #[.int .u64 s, .int .u64 k, .int .u64 t, .int .u64 a], .int .u8 x, .int .u64 s] w fun e w' => e = .returned (.bool true) ∧ Below w.heap.size w w' := by
  go_enter Try.func7, Try.ntmps7
  go_wp2_with fail
  go_region_held3 (fun w' => w'.cell? ⟨w.heap.size, 0, none⟩ = some (.int .u64 s) ∧ w'.cell? ⟨w.heap.size, 1, none⟩ = some (.int .u64 k) ∧ w'.cell? ⟨w.heap.size, 2, none⟩ = some (.int .u64 t) ∧ w'.cell? ⟨w.heap.size, 3, none⟩ = some (.int .u64 a)
      ∧ w'.cell? ⟨w.heap.size + 1, 0, none⟩ = some (.int .u64 s) ∧ w'.cell? ⟨w.heap.size + 1, 1, none⟩ = some (.int .u64 k) ∧ w'.cell? ⟨w.heap.size + 1, 2, none⟩ = some (.int .u64 t) ∧ w'.cell? ⟨w.heap.size + 1, 3, none⟩ = some (.int .u64 a) ∧ Below w.heap.size w w')
    (first | assumption | exact keep8 (by assumption) (by assumption)
           | exact ⟨by go_keep, by go_keep, by go_keep, by go_keep, by go_keep, by go_keep, by go_keep, by go_keep, (((Below.refl _ _).alloc (Nat.le_refl _) _).alloc (by simp) _).drew⟩)
    (first | (go_at_call 10; refine (draw_any _ _ _ _ _).mono ?_; rintro e w' ⟨rfl, hb⟩)
           | (go_at_call 12; refine (awake_any _).mono ?_; rintro e w' ⟨rfl, rfl⟩))
  all_goals (go_wp2; go_ret; exact ⟨by simp, held8 (by assumption)⟩)
set_option maxHeartbeats 1000000 in
theorem apart3other (s k t a x o : Int) (hx : 0 ≤ x ∧ x < 256) (h40 : ((x % 4 : Int) == 0) = false) (h41 : ((x % 4 : Int) == 1) = false) (h42 : ((x % 4 : Int) == 2) = false) (hne : (s == o) = false) (hd : (drawI s k t a == drawI o k t a) = false) (w : World) :
    Calls Try.prog 7 #[.agg #[.int .u64 s, .int .u64 k, .int .u64 t, .int .u64 a], .int .u8 x, .int .u64 o] w fun e w' => e = .returned (.bool true) ∧ Below w.heap.size w w' := by
  go_enter Try.func7, Try.ntmps7
  go_wp2_with fail
  go_region_held3 (fun w' => w'.cell? ⟨w.heap.size, 0, none⟩ = some (.int .u64 s) ∧ w'.cell? ⟨w.heap.size, 1, none⟩ = some (.int .u64 k) ∧ w'.cell? ⟨w.heap.size, 2, none⟩ = some (.int .u64 t) ∧ w'.cell? ⟨w.heap.size, 3, none⟩ = some (.int .u64 a)
      ∧ w'.cell? ⟨w.heap.size + 1, 0, none⟩ = some (.int .u64 o) ∧ w'.cell? ⟨w.heap.size + 1, 1, none⟩ = some (.int .u64 k) ∧ w'.cell? ⟨w.heap.size + 1, 2, none⟩ = some (.int .u64 t) ∧ w'.cell? ⟨w.heap.size + 1, 3, none⟩ = some (.int .u64 a) ∧ Below w.heap.size w w')
    (first | assumption | exact keep8 (by assumption) (by assumption)
           | exact ⟨by go_keep, by go_keep, by go_keep, by go_keep, by go_keep, by go_keep, by go_keep, by go_keep, (((Below.refl _ _).alloc (Nat.le_refl _) _).alloc (by simp) _).drew⟩)
    (first | (go_at_call 10; refine (draw_any _ _ _ _ _).mono ?_; rintro e w' ⟨rfl, hb⟩)
           | (go_at_call 12; refine (awake_any _).mono ?_; rintro e w' ⟨rfl, rfl⟩))
  all_goals (go_wp2; go_ret; exact ⟨by simp, held8 (by assumption)⟩)

theorem beq_no {x y : Int} (h : ¬ x = y) : (x == y) = false := by simpa using h
theorem beq_yes {x y : Int} (h : x = y) : (x == y) = true := by simpa using h
/-- The law's walk, for whatever fits. -/
theorem apart_walk (s k t a x o : Int) (hs : U64 s) (hk : U64 k) (ht : U64 t) (ha : U64 a) (hx : 0 ≤ x ∧ x < 256) (ho : U64 o) (w : World) :
    Calls Try.prog 7 #[.agg #[.int .u64 s, .int .u64 k, .int .u64 t, .int .u64 a], .int .u8 x, .int .u64 o] w fun e w' => e = .returned (.bool true) ∧ Below w.heap.size w w' := by
  by_cases c0 : x % 4 = 0
  · by_cases h : a = o
    · subst h; exact apart0same s k t a x hx (beq_yes c0) w
    · exact apart0other s k t a x o hx (beq_yes c0) (beq_no h) (beq_no fun e => h ((draw_attempt ha ho).1 e)) w
  · by_cases c1 : x % 4 = 1
    · by_cases h : t = o
      · subst h; exact apart1same s k t a x hx (beq_no c0) (beq_yes c1) w
      · exact apart1other s k t a x o hx (beq_no c0) (beq_yes c1) (beq_no h) (beq_no fun e => h ((draw_step ht ho).1 e)) w
    · by_cases c2 : x % 4 = 2
      · by_cases h : k = o
        · subst h; exact apart2same s k t a x hx (beq_no c0) (beq_no c1) (beq_yes c2) w
        · exact apart2other s k t a x o hx (beq_no c0) (beq_no c1) (beq_yes c2) (beq_no h) (beq_no fun e => h ((draw_walker hk ho).1 e)) w
      · by_cases h : s = o
        · subst h; exact apart3same s k t a x hx (beq_no c0) (beq_no c1) (beq_no c2) w
        · exact apart3other s k t a x o hx (beq_no c0) (beq_no c1) (beq_no c2) (beq_no h) (beq_no fun e => h ((draw_seed hs ho).1 e)) w

open Go.ChangeShapes Go.WideShapes Go.ChangeAt Go.Joins
set_option maxRecDepth 100000 in
theorem mixApart_lifted (os : Os) (started : os.Started) (H : Type) (enc : TypeId × Value → H) :
    ReturnsInHanded {} Try.checked os 7 .any (Rows.mixApartSpec.pre6 enc Try.prog Try.f7 Rows.mixApartRow.domain false) (Rows.mixApartSpec.post enc Try.prog Try.f7 false true false false) := by
  refine returnsInHanded_of_change (C := Try.checked) own started (by kernel_rfl) Try.func7
    (ChangeSpec.witness6 (enc := enc) (C := Try.checked) false ⟨#[], #[.agg #[.int .u64 0, .int .u64 0, .int .u64 0, .int .u64 0], .int .u8 0, .int .u64 0], []⟩ 8 (by kernel_rfl) (by kernel_rfl) (by kernel_rfl) (by kernel_rfl)) ?_
  intro W base args ds gs before hval0 hW hcnd _
  have hval : ∀ (j : Nat) t v, Try.f7.params[j]? = some t → args[j]? = some v → Value.okWide Try.prog W .any base t v := hval0
  have hW' := hW
  obtain ⟨p, q, hA0, hV, rfl, hfz, hnd⟩ := hW
  have hA : DataW.TrodAll enc Try.prog W 0 (fun _ => true) true Try.f7.params.toList args.toList ds p := hA0
  rw [Try.params7] at hA hval
  obtain ⟨v0, v1, v2, d0, d1, d2, p0, p1, p2, rfl, rfl, rfl, h0, h1, h2⟩ := trodAll_three hA
  obtain ⟨s, k, t, a, rfl, hs, hk, ht, ha⟩ := open_tape (hval 0 24 v0 rfl rfl) h0
  obtain ⟨x, rfl, -, -, wx⟩ := open_int Try.underlying5 (hval 1 5 v1 rfl rfl) h1
  obtain ⟨o, rfl, -, -, wo⟩ := open_int Try.underlying22 (hval 2 22 v2 rfl rfl) h2
  have hx : 0 ≤ x ∧ x < 256 := by simp [Lit.wf, IntKind.min, IntKind.max, IntKind.bits, IntKind.signed] at wx; omega
  refine (apart_walk s k t a x o hs hk ht ha hx (wf_U64 wo) W).mono fun e W' ⟨he, hb⟩ => ?_
  subst he
  exact ⟨_, rfl, Lw.post_true laidOut (by kernel_rfl) rfl rfl rfl rfl (by kernel_rfl) Try.underlying4 hW' hb⟩

/-- MixApart: tapes that differ in one part have unlike draws. -/
theorem mixApart_holds : Rows.MixApartSaid :=
  OpenClaim.holds_of_wide 7 Try.f7 rfl rfl rfl rfl rfl rfl rfl ⟨rfl, rfl, rfl, rfl, rfl⟩ rfl rfl rfl rfl rfl (by kernel_rfl) Try.func7 (by kernel_rfl)
    (of_decide_eq_true (by kernel_rfl)) (by unfold Func.isWrapper; rw [if_neg (of_decide_eq_false (by kernel_rfl))]; exact ⟨rfl, rfl⟩)
    (fun os started H enc _ => mixApart_lifted os started H enc)
#print axioms mixApart_holds
end Go.Proofs.Ytolkpflbddplcaa
