/- The document's reader: bytes that are left, and the first error's number. -/
import Derived.Test.YtegiplfgemdgdaaRdb
import Derived.RegionTactic
namespace Go.Proofs.Ytegiplfgemdgdaa
open Go.RowKit Me Va

/-- A number and what is left are answered. -/
def Tells (w : World) (B : Nat) (v : Value) (l : List UInt8) (x : Int) (e : Ending) (w' : World) : Prop :=
  Below w.heap.size w w' ∧ ∃ A n c, e = .returned (.tuple #[v, .agg #[.slice A n c, .int .i64 x]]) ∧ l.length = n ∧ n ≤ c ∧ Rd w B A l
theorem tells_of {w w' : World} {B n c : Nat} {A : Option Addr} {v : Value} {l : List UInt8} {x : Int} (hb : Below w.heap.size w w') (hl : l.length = n) (hc : n ≤ c) (hr : Rd w B A l) :
    Tells w B v l x (.returned (.tuple #[v, .agg #[.slice A n c, .int .i64 x]])) w' := ⟨hb, A, n, c, rfl, hl, hc, hr⟩
theorem two_new (w : World) (o o' : Obj) : Below w.heap.size w ((w.alloc o).alloc o') := ((Below.refl _ _).alloc (Nat.le_refl _) _).alloc (by simp) _
theorem two_new_drew (w : World) (o o' : Obj) : Below w.heap.size w ((w.alloc o).alloc o').drew := (two_new w o o').drew
set_option maxRecDepth 100000 in
set_option maxHeartbeats 1000000 in
theorem rnum_any (A : Option Addr) (n c : Nat) (l : List UInt8) (x : Int) (most : Nat) (w : World) (B : Nat) (hl : l.length = n) (hc : n ≤ c) (hn : n ≤ 70368744177664) (hr : Rd w B A l) (hB : B ≤ w.heap.size) :
    Calls Try.prog 29 #[.agg #[.slice A n c, .int .i64 x], .int .u64 (most : Int)] w (Tells w B (.int .u64 ((numOf l x most).1 : Int)) (numOf l x most).2.1 (numOf l x most).2.2) := by
  have HL := Lib.hid hl
  have HR := Lib.hid hr
  have HBW := Lib.hid (fun (v : Value) (y : Int) => ((Below.refl w.heap.size w).alloc (Nat.le_refl _) (.cells #[v, .int .i64 y] 40)).alloc (by simp) (.cells #[.slice none 0 0, .int .i64 0] 40))
  have HRW := Lib.hid (fun (v : Value) (y : Int) => hr.below ((HBW.out v y).mono hB))
  clear hl hr
  by_cases hx : x = 0
  · have d1 : (x != 0) = false := by rw [hx]; rfl
    have HX := Lib.hid hx
    clear hx
    go_enter Try.func29, Try.ntmps29
    go_wp2
    go_loop [6, 7, 17] (fun a s i => ∃ k : Nat, k ≤ n ∧ i = .int .i64 k ∧ ∃ acc : Nat, Hid (At l k acc) ∧ a = .int .u64 acc ∧ ∃ sc : Nat, sc < 18446744073709551616 ∧ Hid (k ≤ 9 → sc = 128 ^ k) ∧ s = .int .u64 sc) (fun _ _ i => n - (intOf i).toNat)
    case atStart => exact ⟨0, Nat.zero_le _, rfl, 0, Lib.hid (At.start l), rfl, 1, by decide, Lib.hid (fun _ => rfl), rfl⟩
    case round =>
      obtain ⟨k, hk, rfl, acc, HA, rfl, sc, hsc, HSC, rfl⟩ := hrel
      have hacc := HA.out.fits
      have hten := HA.out.few
      by_cases hlt : k < n
      · have hlt' : k < l.length := by rw [HL.out]; exact hlt
        obtain ⟨a, u, rfl, -, hu, hcell⟩ := (HRW.out (.slice A n c) x).at hlt'
        have hu256 := u.toNat_lt
        have HU := Lib.hid hu
        have hkc : k < c := by omega
        obtain ⟨m, hm⟩ : ∃ m, m = u.toNat % 128 := ⟨_, rfl⟩
        have hm1 : m < 128 := by omega
        have hmz : (u.toNat : Int) % 128 = (m : Int) := by omega
        have HM := Lib.hid hm
        clear hu hlt' hm
        cases hrf : refuses k u with
        | true =>
          have hp := Lib.hid (HA.out.refuse HU.out hrf)
          have hnum := Lib.hid (show numOf l x most = (0, [], 3) by unfold numOf; rw [if_neg (by rw [HX.out]; simp), hp.out, if_pos (by simp)])
          have hcs : (((k : Int) == 9) = true ∧ decide ((1 : Int) < (m : Int)) = true ∧ 1 < m) ∨ (9 < k ∧ decide ((9 : Int) < (k : Int)) = true ∧ ((k : Int) == 9) = false) ∨
              (k < 9 ∧ decide ((9 : Int) < (k : Int)) = false ∧ ((k : Int) == 9) = false ∧ 0 < k ∧ ((u.toNat : Int) == 0) = true) ∨
              (((k : Int) == 9) = true ∧ 9 ≤ k ∧ k ≤ 9 ∧ decide ((1 : Int) < (m : Int)) = false ∧ ¬ 1 < m ∧ ((u.toNat : Int) == 0) = true) := by
            unfold refuses at hrf
            rw [← HM.out] at hrf
            simp only [Bool.or_eq_true, Bool.and_eq_true, decide_eq_true_eq] at hrf
            simp only [beq_iff_eq, beq_eq_false_iff_ne, decide_eq_true_eq, decide_eq_false_iff_not]
            omega
          clear hrf
          rw [hnum.out]
          rcases hcs with ⟨e1, e2, e3⟩ | ⟨e1, e2, e3⟩ | ⟨e1, e2, e3, e4, e5⟩ | ⟨e1, e2, e3, e4, e5, e6⟩
          all_goals
            go_wp2
            exact bodyPost_ret (v := .tuple #[.int .u64 0, .agg #[.slice none 0 0, .int .i64 3]]) (by simp [results, Try.results29, go_sem]) rfl (tells_of (two_new _ _ _) rfl (Nat.le_refl _) Rd.empty)
        | false =>
          obtain ⟨-, hnx, hyf⟩ := HA.out.next hrf
          obtain ⟨h9, hn1, h0⟩ := nine_of hrf
          rw [← HM.out] at hnx hyf hn1
          have hs0 := HSC.out h9
          rw [← hs0] at hnx hyf
          have hcs : (¬ 0 < k ∧ k < 9 ∧ ((k : Int) == 9) = false) ∨ (0 < k ∧ k < 9 ∧ ((k : Int) == 9) = false ∧ ((u.toNat : Int) == 0) = false) ∨ (0 < k ∧ ((k : Int) == 9) = true ∧ decide ((1 : Int) < (m : Int)) = false ∧ ((u.toNat : Int) == 0) = false) := by
            simp only [beq_iff_eq, beq_eq_false_iff_ne, decide_eq_false_iff_not]
            omega
          have hg9 : decide ((9 : Int) < (k : Int)) = false := by simp; omega
          obtain ⟨y, hy⟩ : ∃ y, y = m * sc := ⟨_, rfl⟩
          rw [← hy] at hnx hyf
          have hmul : IntKind.u64.wrap ((m : Int) * (sc : Int)) = (y : Int) := by
            have : (m : Int) * (sc : Int) = (y : Int) := by rw [hy]; simp
            rw [this]
            exact IntWalk.u64_in _ (by omega)
          obtain ⟨s2, hs2⟩ : ∃ s2, s2 = sc * 128 % 18446744073709551616 := ⟨_, rfl⟩
          have hs2b : s2 < 18446744073709551616 := by rw [hs2]; exact Nat.mod_lt _ (by decide)
          have hsw : IntKind.u64.wrap ((sc : Int) * 128) = (s2 : Int) := by
            rw [IntKind.wrap_u64, hs2]
            omega
          have hs2p : k + 1 ≤ 9 → s2 = 128 ^ (k + 1) := fun h => by
            have hb : 128 ^ (k + 1) ≤ 9223372036854775808 := pow_le_63 (by omega)
            rw [hs2, hs0, ← Nat.pow_succ, Nat.mod_eq_of_lt (by omega)]
          have HS2 := Lib.hid hs2p
          have HY := Lib.hid (show u.toNat % 128 * 128 ^ k = y by rw [hy, ← HM.out, hs0])
          have HRF := Lib.hid hrf
          clear hs2p hs2 hs0 hy hrf hn1 h0
          by_cases hs : u.toNat < 128
          · have hp := HA.out.done HU.out HRF.out hs
            rw [HY.out] at hp
            have HP := Lib.hid hp
            clear hp
            by_cases hmo : most < acc + y
            · have hnum := Lib.hid (show numOf l x most = (0, [], 9) by unfold numOf; rw [if_neg (by rw [HX.out]; simp), HP.out, if_neg (by simp), if_pos hmo])
              rw [hnum.out]
              have d5 : decide ((most : Int) < (acc : Int) + (y : Int)) = true := by simp; omega
              rcases hcs with ⟨e1, e2, e3⟩ | ⟨e1, e2, e3, e4⟩ | ⟨e1, e2, e3, e4⟩
              all_goals go_wp2
              all_goals exact bodyPost_ret (v := .tuple #[.int .u64 0, .agg #[.slice none 0 0, .int .i64 9]]) (by simp [results, Try.results29, go_sem]) rfl (tells_of (two_new _ _ _) rfl (Nat.le_refl _) Rd.empty)
            · have hnum := Lib.hid (show numOf l x most = (acc + y, l.drop (k + 1), 0) by unfold numOf; rw [if_neg (by rw [HX.out]; simp), HP.out, if_neg (by simp), if_neg hmo])
              rw [hnum.out]
              have d5 : decide ((most : Int) < (acc : Int) + (y : Int)) = false := by simp; omega
              have HDR := Lib.hid (HR.out.drop (k := k + 1) (cap := c) (by have := HL.out; omega))
              have HDL := Lib.hid (show (l.drop (k + 1)).length = n - (k + 1) by rw [List.length_drop, HL.out])
              rcases hcs with ⟨e1, e2, e3⟩ | ⟨e1, e2, e3, e4⟩ | ⟨e1, e2, e3, e4⟩
              all_goals
                go_wp2
                by_cases hck : c = k + 1
                · go_region
                  all_goals
                    go_wp2
                    exact bodyPost_ret (v := .tuple #[.int .u64 ((acc + y : Nat) : Int), .agg #[.slice (some a) (n - (k + 1)) 0, .int .i64 0]]) (by simp [results, Try.results29, go_sem]) rfl (tells_of (two_new_drew _ _ _) HDL.out (by omega) (by have := HDR.out; rw [if_pos hck] at this; exact this))
                · go_region
                  all_goals
                    go_wp2
                    exact bodyPost_ret (v := .tuple #[.int .u64 ((acc + y : Nat) : Int), .agg #[.slice (some (a.add (k + 1))) (n - (k + 1)) (c - (k + 1)), .int .i64 0]]) (by simp [results, Try.results29, go_sem]) rfl (tells_of (two_new_drew _ _ _) HDL.out (by omega) (by have := HDR.out; rw [if_neg hck] at this; exact this))
          · have HA2 := Lib.hid (HA.out.step HU.out HRF.out hs)
            rcases hcs with ⟨e1, e2, e3⟩ | ⟨e1, e2, e3, e4⟩ | ⟨e1, e2, e3, e4⟩
            all_goals
              go_wp2
              go_round
              case rel => exact ⟨k + 1, by omega, by go_num, acc + y, by rw [← HY.out]; exact HA2, by go_num, s2, hs2b, HS2, rfl⟩
              case measure => simp [intOf]; omega
      · have hp := HA.out.ends (by rw [HL.out]; omega)
        have hnum := Lib.hid (show numOf l x most = (0, [], 2) by unfold numOf; rw [if_neg (by rw [HX.out]; simp), hp, if_pos (by simp)])
        clear hp
        go_wp2
        rw [hnum.out]
        exact bodyPost_ret (v := .tuple #[.int .u64 0, .agg #[.slice none 0 0, .int .i64 2]]) (by simp [results, Try.results29, go_sem]) rfl (tells_of (two_new _ _ _) rfl (Nat.le_refl _) Rd.empty)
  · have d1 : (x != 0) = true := by rw [bne_iff_ne]; exact hx
    have hp := Lib.hid (show numOf l x most = (0, l, x) by unfold numOf; rw [if_pos hx])
    rw [hp.out]
    clear hx
    go_enter Try.func29, Try.ntmps29
    go_wp2
    go_region
    all_goals
      go_wp2
      refine bodyPost_ret (v := .tuple #[.int .u64 ((0 : Nat) : Int), .agg #[.slice A n c, .int .i64 x]]) (by simp [results, Try.results29, go_sem]) rfl ⟨?_, A, n, c, rfl, HL.out, hc, ?_⟩
      · exact (((Below.refl _ _).alloc (Nat.le_refl _) _).alloc (by simp) _).drew
      · exact HR.out
end Go.Proofs.Ytegiplfgemdgdaa
