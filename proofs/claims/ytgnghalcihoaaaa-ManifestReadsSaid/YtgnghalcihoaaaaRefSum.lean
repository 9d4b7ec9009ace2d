/- The document's sum of bytes, bit by bit. -/
import Derived.Test.YtgnghalcihoaaaaByt
import Derived.Test.YtgnghalcihoaaaaCrc
namespace Go.Proofs.Ytgnghalcihoaaaa
open Go.RowKit Cr Me

theorem reg_lt (r : Reg) : (0 : Int) ≤ (r.toNat : Int) ∧ (r.toNat : Int) < 4294967296 := ⟨by omega, by have := r.isLt; omega⟩
theorem xor_reg (a b : Reg) : bits .xor .u32 (a.toNat : Int) (b.toNat : Int) = ((a ^^^ b).toNat : Int) := by
  rw [u32_xor_nat _ _ a.isLt b.isLt, BitVec.toNat_xor]
theorem xor_byte (a : Reg) (x : UInt8) : bits .xor .u32 (a.toNat : Int) (x.toNat : Int) = ((a ^^^ BitVec.ofNat 32 x.toNat).toNat : Int) := by
  rw [← xor_reg, BitVec.toNat_ofNat, Nat.mod_eq_of_lt (Nat.lt_trans x.toNat_lt (by decide))]
theorem not_xor (r : Reg) : r ^^^ 4294967295#32 = ~~~r := by
  have e : (4294967295#32 : Reg) = BitVec.allOnes 32 := rfl
  rw [e, BitVec.xor_allOnes]
theorem not_reg (r : Reg) : bits .xor .u32 (r.toNat : Int) 4294967295 = ((~~~r).toNat : Int) := by
  rw [← not_xor, ← xor_reg]; rfl
theorem not_reg' (r : Reg) : bits .xor .u32 4294967295 (r.toNat : Int) = ((~~~r).toNat : Int) := by
  rw [← not_xor, BitVec.xor_comm, ← xor_reg]; rfl
theorem odd_reg (r : Reg) : r.toNat % 2 = 1 ↔ r.getLsbD 0 = true := by
  show _ ↔ r.toNat.testBit 0 = true
  rw [Nat.testBit_zero]
  simp
theorem sh_odd (r : Reg) (h : r.toNat % 2 = 1) : bits .xor .u32 ((r.toNat : Int) / 2) 3988292384 = ((sh r).toNat : Int) := by
  unfold sh
  rw [if_pos ((odd_reg r).1 h), ← xor_reg, BitVec.toNat_ushiftRight, Nat.shiftRight_eq_div_pow]
  rfl
theorem sh_even (r : Reg) (h : ¬ r.toNat % 2 = 1) : (r.toNat : Int) / 2 = ((sh r).toNat : Int) := by
  unfold sh
  rw [if_neg (fun e => h ((odd_reg r).2 e)), BitVec.xor_zero, BitVec.toNat_ushiftRight, Nat.shiftRight_eq_div_pow]
  rfl

set_option maxRecDepth 100000 in
set_option maxHeartbeats 400000 in
theorem ref_sum_any (A : Option Addr) (n c : Nat) (l : List UInt8) (w : World) (B : Nat) (hl : l.length = n) (hn : n ≤ 9223372036854775807) (hr : Rd w B A l) :
    Calls Try.prog 103 #[.slice A n c] w fun e w' => e = .returned (.int .u32 ((crc l).toNat : Int)) ∧ w = w' := by
  have HL := Lib.hid hl
  have HR := Lib.hid hr
  clear hl hr
  go_enter Try.func103, Try.ntmps103
  go_wp2
  go_loop [3, 8] (fun x i => ∃ k : Nat, k ≤ n ∧ i = .int .i64 k ∧ ∃ r : Reg, Hid (r = crcReg (l.take k)) ∧ x = .int .u32 (r.toNat : Int)) (fun _ i => n - (intOf i).toNat)
  case atStart => exact ⟨0, Nat.zero_le _, rfl, 4294967295#32, Lib.hid rfl, rfl⟩
  case round =>
    obtain ⟨k, hk, rfl, r, H, rfl⟩ := hrel
    by_cases hlt : k < n
    · have hlt' : k < l.length := by rw [HL.out]; exact hlt
      obtain ⟨a, u, rfl, -, hu, hc⟩ := HR.out.at hlt'
      have HU := Lib.hid (take_snoc hu)
      clear hu hlt'
      have hu256 := u.toNat_lt
      have hr1 := reg_lt r
      go_wp2_with fail
      rw [xor_byte]
      obtain ⟨r0, hr0⟩ : ∃ r0, r0 = r ^^^ BitVec.ofNat 32 u.toNat := ⟨_, rfl⟩
      rw [← hr0]
      have HR0 := Lib.hid hr0
      clear hr0
      go_loop [3, 5] (fun x i => ∃ j : Nat, j ≤ 8 ∧ i = .int .i64 j ∧ ∃ s : Reg, Hid (s = shN j r0) ∧ x = .int .u32 (s.toNat : Int)) (fun _ i => 8 - (intOf i).toNat)
      case atStart => exact ⟨0, by omega, rfl, r0, Lib.hid rfl, rfl⟩
      case round =>
        obtain ⟨j, hj, rfl, s, HS, rfl⟩ := hrel
        have hs1 := reg_lt s
        by_cases hj8 : j < 8
        · by_cases hodd : s.toNat % 2 = 1
          · have ho : ((s.toNat : Int) % 2 == 1) = true := by rw [beq_iff_eq]; omega
            have HO := Lib.hid hodd
            clear hodd
            go_wp2
            go_round
            case rel => exact ⟨j + 1, by omega, by go_num, sh s, Lib.hid (by rw [shN_succ', HS.out]), by rw [sh_odd s HO.out]⟩
            case measure => simp [intOf]; omega
          · have ho : ((s.toNat : Int) % 2 == 1) = false := by rw [beq_eq_false_iff_ne]; omega
            have HO := Lib.hid hodd
            clear hodd
            go_wp2
            go_round
            case rel => exact ⟨j + 1, by omega, by go_num, sh s, Lib.hid (by rw [shN_succ', HS.out]), by rw [sh_even s HO.out]⟩
            case measure => simp [intOf]; omega
        · go_wp2
          go_round
          case rel => exact ⟨k + 1, by omega, by go_num, s, Lib.hid (by rw [HU.out, crcReg_snoc, ← H.out, upd, ← HR0.out, HS.out, show j = 8 by omega]), rfl⟩
          case measure => simp [intOf]; omega
    · go_wp2
      go_ret
      refine ⟨ret_int ?_, rfl⟩
      have hk' : k = l.length := by rw [HL.out]; omega
      rw [not_reg, crc, H.out, hk', List.take_length]
end Go.Proofs.Ytgnghalcihoaaaa
