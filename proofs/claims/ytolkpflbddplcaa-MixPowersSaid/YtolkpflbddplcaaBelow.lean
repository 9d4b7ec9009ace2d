/- A draw below a number: the program's and the document's. -/
import Derived.Test.YtolkpflbddplcaaFirst
namespace Go.Proofs.Ytolkpflbddplcaa
open Go.RowKit Mx

theorem cells4 (w : World) (a b c d : Value) (t : TypeId) :
    (w.alloc (.cells #[a, b, c, d] t)).cell? ⟨w.heap.size, 0, none⟩ = some a ∧ (w.alloc (.cells #[a, b, c, d] t)).cell? ⟨w.heap.size, 1, none⟩ = some b ∧
      (w.alloc (.cells #[a, b, c, d] t)).cell? ⟨w.heap.size, 2, none⟩ = some c ∧ (w.alloc (.cells #[a, b, c, d] t)).cell? ⟨w.heap.size, 3, none⟩ = some d := by
  have h := World.alloc_heap_new w (.cells #[a, b, c, d] t)
  refine ⟨?_, ?_, ?_, ?_⟩ <;> simp only [World.cell?, h] <;> rfl
theorem row_any (s k t a : Int) (w : World) :
    Calls Try.prog 15 #[.agg #[.int .u64 s, .int .u64 k, .int .u64 t, .int .u64 a]] w fun e w' => ∃ b, e = .returned (.func (.func 17) #[] #[.pointer (some ⟨b, 0, none⟩)]) ∧
      w'.cell? ⟨b, 0, none⟩ = some (.int .u64 s) ∧ w'.cell? ⟨b, 1, none⟩ = some (.int .u64 k) ∧ w'.cell? ⟨b, 2, none⟩ = some (.int .u64 t) ∧ w'.cell? ⟨b, 3, none⟩ = some (.int .u64 a) ∧ Below w.heap.size w w' := by
  have h := Lib.hid (cells4 w (.int .u64 s) (.int .u64 k) (.int .u64 t) (.int .u64 a) 24)
  go_enter Try.func15, Try.ntmps15
  go_wp2
  go_ret
  exact ⟨w.heap.size, rfl, h.out.1, h.out.2.1, h.out.2.2.1, h.out.2.2.2, (Below.refl _ _).alloc (Nat.le_refl _) _⟩

theorem below_zero (s k t a : Int) (w : World) :
    Calls Try.prog 13 #[.agg #[.int .u64 s, .int .u64 k, .int .u64 t, .int .u64 a], .int .u64 0] w fun e w' => e = .returned (.int .u64 0) ∧ Below w.heap.size w w' := by
  go_enter Try.func13, Try.ntmps13
  go_wp2
  go_ret
  exact ⟨rfl, (Below.refl _ _).alloc (Nat.le_refl _) _⟩

theorem below_some (s k t a n : Int) (h1 : 1 ≤ n) (hn : U64 n) (w : World) :
    Calls Try.prog 13 #[.agg #[.int .u64 s, .int .u64 k, .int .u64 t, .int .u64 a], .int .u64 n] w fun e w' => e = .returned (.int .u64 (belowI (drawI s k t a) n 127 0)) ∧ Below w.heap.size w w' := by
  have HN := Lib.hid hn
  clear hn
  go_enter Try.func13, Try.ntmps13
  go_wp2_with (go_at_call 15; refine (row_any _ _ _ _ _).mono ?_; rintro e w' ⟨b, rfl, k0, k1, k2, k3, hb⟩)
  go_wp2_with ((go_at_call 16; refine (callsIn_wide.1 (first_any _ _ _ _ _ _ h1 HN.out _ k0 k1 k2 k3)).mono ?_; rintro e w2 ⟨rfl, hb2⟩))
  go_ret
  exact ⟨rfl, btrans (((Below.refl _ _).alloc (Nat.le_refl _) _)) (btrans hb hb2)⟩
theorem ref_below_zero (s k t a : Int) (w : World) :
    Calls Try.prog 14 #[.agg #[.int .u64 s, .int .u64 k, .int .u64 t, .int .u64 a], .int .u64 0] w fun e w' => e = .returned (.int .u64 0) ∧ Below w.heap.size w w' := by
  go_enter Try.func14, Try.ntmps14
  go_wp2
  go_ret
  exact ⟨rfl, (Below.refl _ _).alloc (Nat.le_refl _) _⟩
set_option maxRecDepth 100000 in
theorem ref_below_some (s k t a n : Int) (h1 : 1 ≤ n) (hn : U64 n) (w : World) :
    Calls Try.prog 14 #[.agg #[.int .u64 s, .int .u64 k, .int .u64 t, .int .u64 a], .int .u64 n] w fun e w' => e = .returned (.int .u64 (belowI (drawI s k t a) n 127 0)) ∧ Below w.heap.size w w' := by
  have HN := Lib.hid hn
  clear hn
  go_enter Try.func14, Try.ntmps14
  go_wp2_with (go_at_call 11; refine (ref_draw_any _ _ _ _ _).mono ?_; rintro e w' ⟨rfl, hb⟩)
  have hover : ∃ o, (IntKind.u64.wrap (18446744073709551615 % n + 1)).tmod n = o ∧ 0 ≤ o ∧ o < n ∧ lastI n = 18446744073709551615 - o := by
    have hu := HN.out
    have a1 := Int.emod_nonneg 18446744073709551615 (show n ≠ 0 by omega)
    have a2 := Int.emod_lt_of_pos 18446744073709551615 (show 0 < n by omega)
    refine ⟨18446744073709551616 % n, ?_, Int.emod_nonneg _ (by omega), Int.emod_lt_of_pos _ (by omega), rfl⟩
    have e1 : IntKind.u64.wrap (18446744073709551615 % n + 1) = 18446744073709551615 % n + 1 := by
      apply U64.wrap; unfold U64 at hu ⊢; omega
    rw [e1, Int.tmod_eq_emod_of_nonneg (by omega), Int.emod_add_emod]
    rfl
  obtain ⟨o, ho, ho0, hon, hol⟩ := hover
  rw [ho]
  have HL := Lib.hid hol
  have hlt : o ≤ 18446744073709551615 := by have := HN.out; unfold U64 at this; omega
  have hd := rowI_U64 (drawI_U64 s k t a)
  have HD := Lib.hid hd
  have e0 : drawI s k t a = rowI (drawI s k t a) 0 := rfl
  rw [e0]
  obtain ⟨d, hdd⟩ : ∃ d, drawI s k t a = d := ⟨_, rfl⟩
  rw [hdd] at HD ⊢
  have HDD := Lib.hid hdd
  have found : ∀ j, j ≤ 127 → (rowI d j ≤ lastI n ∨ j = 127) → Hid (∀ m, m < j → lastI n < rowI d m) → belowI d n 127 0 = rowI d j % n := fun j hj h H => by
    have := belowI_found hj H.out h j (Nat.le_refl _)
    simpa using this
  clear ho hol hd e0 hdd
  go_loop [7, 8] (fun x i => ∃ j : Nat, j ≤ 127 ∧ i = .int .i64 (j + 1) ∧ x = .int .u64 (rowI d j) ∧ Hid (∀ m, m < j → lastI n < rowI d m)) (fun _ i => 130 - (intOf i).toNat)
  case atStart => exact ⟨0, by omega, rfl, rfl, Lib.hid (fun m h => by omega)⟩
  case round =>
    obtain ⟨j, hj, rfl, rfl, HM⟩ := hrel
    have hx0 : 0 ≤ rowI d j := (HD.out j).1
    have hn0 : 0 < n := by omega
    by_cases hj7 : j < 127
    · by_cases hc : rowI d j ≤ 18446744073709551615 - o
      · go_wp2_with (go_at_call 9; refine (ref_mix_any _ _).mono ?_; rintro e w' ⟨rfl, rfl⟩)
        go_ret
        exact ⟨by rw [HDD.out, found j hj (.inl (by rw [HL.out]; exact hc)) HM]; rfl, btrans ((Below.refl _ _).alloc (Nat.le_refl _) _) hb⟩
      · go_wp2_with (go_at_call 9; refine (ref_mix_any _ _).mono ?_; rintro e w' ⟨rfl, rfl⟩)
        go_round
        case rel => exact ⟨j + 1, by omega, by go_num, rfl, Lib.hid (fun m hm => by
            have h2 := HL.out
            by_cases e : m = j
            · subst e; omega
            · exact HM.out m (by omega))⟩
        case measure => simp [intOf]; omega
    · go_wp2
      go_ret
      exact ⟨by rw [HDD.out, found j hj (.inr (by omega)) HM]; rfl, btrans ((Below.refl _ _).alloc (Nat.le_refl _) _) hb⟩
end Go.Proofs.Ytolkpflbddplcaa
