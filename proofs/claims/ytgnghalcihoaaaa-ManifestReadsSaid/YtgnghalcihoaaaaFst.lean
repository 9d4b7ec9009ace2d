/- The number in front of bytes, the program's. -/
import Derived.Test.YtgnghalcihoaaaaNum
namespace Go.Proofs.Ytgnghalcihoaaaa
open Go.RowKit Me Va

/-- Too large a byte at place k. -/
def big (k : Nat) (u : UInt8) : Bool := decide (9 < k) || (decide (k = 9) && decide (1 < u.toNat % 128))
theorem mask_u8 (u : UInt8) : bits .and .u8 (u.toNat : Int) 127 = ((u.toNat % 128 : Nat) : Int) := by
  have := u8_and_nat u.toNat 127 u.toNat_lt (by decide)
  rw [nat_mask7] at this
  exact this
theorem ret_bool {a b : Bool} (h : a = b) : Ending.returned (.bool a) = .returned (.bool b) := by rw [h]
set_option maxRecDepth 100000 in
set_option maxHeartbeats 400000 in
theorem tooLarge_any (k : Nat) (u : UInt8) (w : World) (hk : k ≤ 9223372036854775807) :
    Calls Try.prog 102 #[.int .i64 (k : Int), .int .u8 (u.toNat : Int)] w fun e w' => e = .returned (.bool (big k u)) ∧ w = w' := by
  have hu := u.toNat_lt
  have hm := mask_u8 u
  obtain ⟨m, he⟩ : ∃ m, m = u.toNat % 128 := ⟨_, rfl⟩
  rw [← he] at hm
  have hm1 : m < 128 := by omega
  have hb := Lib.hid (show big k u = (decide (9 < k) || (decide (k = 9) && decide (1 < m))) by rw [he]; rfl)
  clear he
  by_cases h10 : 9 < k
  · have d1 : decide ((10 : Int) ≤ (k : Int)) = true := by simp; omega
    go_enter Try.func102, Try.ntmps102
    go_wp2
    go_ret
    exact ⟨ret_bool (by rw [hb.out]; simp; omega), rfl⟩
  · have d1 : decide ((10 : Int) ≤ (k : Int)) = false := by simp; omega
    by_cases h9 : k = 9
    · have d2 : ((k : Int) == 9) = true := by rw [beq_iff_eq]; omega
      have H9 := Lib.hid h9
      clear h9
      go_enter Try.func102, Try.ntmps102
      go_wp2
      go_ret
      exact ⟨ret_bool (by rw [hb.out, H9.out]; simp; omega), rfl⟩
    · have d2 : ((k : Int) == 9) = false := by rw [beq_eq_false_iff_ne]; omega
      have H9 := Lib.hid h9
      clear h9
      go_enter Try.func102, Try.ntmps102
      go_wp2
      go_ret
      exact ⟨ret_bool (by rw [hb.out]; have := H9.out; simp [this]; omega), rfl⟩
/-- What is answered of the number in front. -/
def FirstPost (w : World) (l : List UInt8) (e : Ending) (w' : World) : Prop :=
  e = .returned (.tuple #[.int .u64 ((pars 0 0 l).1 : Int), .int .i64 ((pars 0 0 l).2.1 : Int), .int .i64 (pars 0 0 l).2.2]) ∧ w = w'
theorem first_post {w : World} {l : List UInt8} {x k : Nat} {e : Int} {x' k' e' : Int} (h : pars 0 0 l = (x, k, e)) (h1 : x' = x) (h2 : k' = k) (h3 : e' = e) :
    FirstPost w l (.returned (.tuple #[.int .u64 x', .int .i64 k', .int .i64 e'])) w := by
  refine ⟨?_, rfl⟩
  rw [h, h1, h2, h3]
theorem shl_any (m k y : Nat) (hy : y = m * 128 ^ k) (hf : y < 18446744073709551616) : IntKind.u64.wrap ((m : Int) * 2 ^ (7 * (k : Int)).toNat) = (y : Int) := by
  have e : (7 * (k : Int)).toNat = 7 * k := by omega
  have e2 : ((m : Int) * 2 ^ (7 * k)) = (y : Int) := by
    have e3 : (128 : Nat) ^ k = 2 ^ (7 * k) := by rw [Nat.pow_mul]
    rw [hy, e3]
    simp
  rw [e, e2]
  exact IntWalk.u64_in _ (by omega)
set_option maxRecDepth 100000 in
set_option maxHeartbeats 1000000 in
theorem first_any (A : Option Addr) (n c : Nat) (l : List UInt8) (w : World) (B : Nat) (hl : l.length = n) (hn : n ≤ 70368744177664) (hr : Rd w B A l) :
    Calls Try.prog 86 #[.slice A n c] w (FirstPost w l) := by
  have HL := Lib.hid hl
  have HR := Lib.hid hr
  clear hl hr
  go_enter Try.func86, Try.ntmps86
  go_wp2
  go_loop [5, 10] (fun x i => ∃ k : Nat, k ≤ n ∧ i = .int .i64 k ∧ ∃ acc : Nat, Hid (At l k acc) ∧ x = .int .u64 acc) (fun _ i => n - (intOf i).toNat)
  case atStart => exact ⟨0, Nat.zero_le _, rfl, 0, Lib.hid (At.start l), rfl⟩
  case round =>
    obtain ⟨k, hk, rfl, acc, HA, rfl⟩ := hrel
    have hacc := HA.out.fits
    have hten := HA.out.few
    by_cases hlt : k < n
    · have hlt' : k < l.length := by rw [HL.out]; exact hlt
      obtain ⟨a, u, rfl, -, hu, hc⟩ := HR.out.at hlt'
      have hu256 := u.toNat_lt
      have HU := Lib.hid hu
      clear hu hlt'
      by_cases h0 : 0 < k ∧ u.toNat = 0
      · have hpos : 0 < k := h0.1
        have d1 : decide ((0 : Int) < (k : Int)) = true := by simp; omega
        have d2 : ((u.toNat : Int) == 0) = true := by rw [beq_iff_eq]; omega
        have hp := Lib.hid (HA.out.refuse HU.out (by unfold refuses; simp; omega))
        clear h0
        go_wp2_with fail
        go_ret3
        exact first_post hp.out rfl rfl rfl
      · have hd : (¬ 0 < k ∧ decide ((0 : Int) < (k : Int)) = false) ∨ ((0 < k ∧ decide ((0 : Int) < (k : Int)) = true) ∧ ((u.toNat : Int) == 0) = false) := by
          by_cases hk0 : 0 < k
          · refine .inr ⟨⟨hk0, by simp; omega⟩, by rw [beq_eq_false_iff_ne]; omega⟩
          · exact .inl ⟨hk0, by simp; omega⟩
        have hz : 0 < k → 0 < u.toNat := by omega
        have HZ := Lib.hid hz
        clear h0 hz
        cases hb : big k u with
        | true =>
          have hp := Lib.hid (HA.out.refuse HU.out (by unfold refuses; unfold big at hb; rw [hb]; rfl))
          have hbz := Lib.hid hb
          clear hb
          rcases hd with ⟨d0, d1⟩ | ⟨⟨d0, d1⟩, d2⟩
          all_goals
            go_wp2_with fail
            refine (tooLarge_any k u w (by omega)).mono ?_
            rintro e w' ⟨rfl, rfl⟩
            rw [hbz.out]
            go_wp2
            go_ret3
            exact first_post hp.out rfl rfl rfl
        | false =>
          have hrf := Lib.hid (show refuses k u = false by unfold refuses; unfold big at hb; rw [hb]; simpa using fun h => by have := HZ.out h; omega)
          have hbz := Lib.hid hb
          clear hb
          obtain ⟨-, hnx, hyf⟩ := HA.out.next hrf.out
          obtain ⟨h9, -, -⟩ := nine_of hrf.out
          have hm := mask_u8 u
          obtain ⟨m, he⟩ : ∃ m, m = u.toNat % 128 := ⟨_, rfl⟩
          rw [← he] at hm hnx hyf
          have hm1 : m < 128 := by omega
          obtain ⟨y, hy⟩ : ∃ y, y = m * 128 ^ k := ⟨_, rfl⟩
          rw [← hy] at hnx hyf
          have hsh := shl_any m k y hy hyf
          have hor : bits .or .u64 (acc : Int) (y : Int) = ((acc + y : Nat) : Int) := by rw [u64_or_nat _ _ hacc hyf, hy, or_add HA.out.low]
          have HM := Lib.hid he
          have HY := Lib.hid hy
          clear he hy
          rcases hd with ⟨d0, d1⟩ | ⟨⟨d0, d1⟩, d2⟩
          all_goals
            go_wp2_with fail
            refine (tooLarge_any k u w (by omega)).mono ?_
            rintro e w' ⟨rfl, rfl⟩
            rw [hbz.out]
            by_cases hs : u.toNat < 128
            · have hp := Lib.hid (HA.out.done HU.out hrf.out hs)
              go_wp2
              go_ret3
              exact first_post hp.out (by rw [← HM.out, ← HY.out]; omega) (by omega) rfl
            · have hp := Lib.hid (HA.out.step HU.out hrf.out hs)
              go_wp2
              go_round
              case rel => exact ⟨k + 1, by omega, by go_num, acc + y, by rw [HY.out, HM.out]; exact hp, by go_num⟩
              case measure => simp [intOf]; omega
    · have hp := Lib.hid (HA.out.ends (by rw [HL.out]; omega))
      go_wp2
      go_ret3
      exact first_post hp.out rfl rfl rfl
end Go.Proofs.Ytgnghalcihoaaaa
