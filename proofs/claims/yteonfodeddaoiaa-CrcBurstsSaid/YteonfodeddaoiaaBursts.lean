/- CrcBursts is proved: bytes with their sum, of which some bits within 32 are turned, don't fit; for every input, no conditions. -/
import Derived.Test.YteonfodeddaoiaaOwn
import Derived.Test.YteonfodeddaoiaaBits
namespace Go.Proofs.Yteonfodeddaoiaa
open Go.RowKit Cr Me

/-- The marked bytes, so many bits turned; nothing else has. -/
def Bst (w0 w : World) (base : Nat) (v : Value) (n : Nat) (l : List UInt8) (p : Nat) (b : Reg) (i : Nat) : Prop :=
  w.ownsRow base 5 1 v n (cellsOf (flips l p b i)) ∧ w0.grownBy w v.ownBlock
theorem bit_int (b : Reg) (k : Nat) : ((b.toNat : Int) / 2 ^ k).tmod 2 = if b.getLsbD k = true then 1 else 0 := by
  have e : (b.toNat : Int) / 2 ^ k = ((b.toNat / 2 ^ k : Nat) : Int) := by simp
  rw [e]
  have h : b.getLsbD k = decide (b.toNat / 2 ^ k % 2 = 1) := by
    show b.toNat.testBit k = _
    rw [Nat.testBit_eq_decide_div_mod_eq]
  have e2 : ((b.toNat / 2 ^ k : Nat) : Int).tmod 2 = ((b.toNat / 2 ^ k % 2 : Nat) : Int) := rfl
  rw [e2, h]
  by_cases h1 : b.toNat / 2 ^ k % 2 = 1
  · simp [h1]
  · have : b.toNat / 2 ^ k % 2 = 0 := by omega
    simp [this]
theorem turned_int (u : UInt8) (r : Nat) : bits .xor .u8 (u.toNat : Int) (2 ^ r % 256) = ((u ^^^ UInt8.ofNat (2 ^ r)).toNat : Int) := by
  rw [← xor_u8]
  congr 1
theorem bst_step {w1 wr : World} {base gm n cm : Nat} {m : List UInt8} {p k j r : Nat} {b : Reg} {u : UInt8} (h : Bst w1 wr base (.slice (some ⟨gm, 0, none⟩) n cm) n m p b k) (hbit : b.getLsbD k = true) (hj : j = (p + k) / 8) (hr : r = (p + k) % 8)
    (hu : (flips m p b k)[j]? = some u) : Bst w1 (wr.setCell ⟨gm, j, none⟩ (.int .u8 ((u ^^^ UInt8.ofNat (2 ^ r)).toNat : Int))).drew base (.slice (some ⟨gm, 0, none⟩) n cm) n m p b (k + 1) := by
  obtain ⟨ho, hg⟩ := h
  obtain ⟨a1, a2⟩ := own_set ho j (u ^^^ UInt8.ofNat (2 ^ r))
  have e : flips m p b (k + 1) = (flips m p b k).set j (u ^^^ UInt8.ofNat (2 ^ r)) := by
    rw [flips, if_pos hbit]
    unfold turn
    rw [← hj, ← hr, List.getD_eq_getElem?_getD, hu]
    rfl
  have hgg := hg.trans a2
  refine ⟨?_, ⟨hgg.os, hgg.tape, hgg.output, hgg.size, hgg.block⟩⟩
  rw [e]
  exact a1
set_option maxHeartbeats 1000000 in
theorem burst_law (A : Option Addr) (n c p : Nat) (l : List UInt8) (b : Reg) (w : World) (hl : l.length = n) (hn : n ≤ 1000) (hr : Rd w w.heap.size A l) (hb : b ≠ 0#32) (hp : p + 32 ≤ 8 * (n + 4)) :
    Calls Try.prog 5 #[.slice A n c, .int .i64 (p : Int), .int .u32 (b.toNat : Int)] w fun e w' => e = .returned (.bool true) ∧ Below w.heap.size w w' := by
  have d1 : decide ((1000 : Int) < (n : Int)) = false := by simp; omega
  have d2 : ((b.toNat : Int) == 0) = false := by
    rw [beq_eq_false_iff_ne]
    intro h
    exact hb (BitVec.eq_of_toNat_eq (by have : b.toNat = 0 := by omega
                                        rw [this]; rfl))
  have d3 : decide ((p : Int) < 0) = false := by simp
  have d4 : decide (8 * ((n : Int) + 4) - 32 < (p : Int)) = false := by simp; omega
  have hb1 := reg_lt b
  have HL := Lib.hid hl
  have HR := Lib.hid hr
  have HBZ := Lib.hid hb
  clear hl hr hb
  go_enter Try.func5, Try.ntmps5
  go_wp2_with fail
  refine (mark_any A n c l w HL.out (by omega) HR.out).mono ?_
  rintro e w1 ⟨v1, rfl, ho1, hb1'⟩
  obtain ⟨gm, cm, rfl, hgm1, hgm2⟩ := ho1.form (by omega)
  have hcm : n + 4 ≤ cm := own_cap ho1 (by omega)
  have HM := Lib.hid ho1
  have HB1 := Lib.hid hb1'
  have HMl := Lib.hid ((mark_length l).trans (by rw [HL.out]))
  clear ho1 hb1' hgm2
  go_wp2_with fail
  go_loopw [8] (fun i wr => ∃ k : Nat, k ≤ 32 ∧ i = .int .i64 k ∧ Hid (Bst w1 wr w.heap.size (.slice (some ⟨gm, 0, none⟩) (n + 4) cm) (n + 4) (Cr.mark l) p b k)) (fun i _ => 32 - (intOf i).toNat)
  case atStart => exact ⟨0, Nat.zero_le _, rfl, Lib.hid ⟨HM.out, World.grownBy.refl _ _⟩⟩
  case round =>
    obtain ⟨k, hk, rfl, HT⟩ := hrel
    by_cases hlt : k < 32
    · by_cases hbit : b.getLsbD k = true
      · have hbv := bit_int b k
        rw [hbit, if_pos rfl] at hbv
        have hk0 : (0 : Int) ≤ (k : Int) := by omega
        have hp0 : (0 : Int) ≤ (p : Int) := by omega
        have hpk : (p : Int) + (k : Int) < 8 * ((n : Int) + 4) := by omega
        have hn1 : (n : Int) ≤ 1000 := by omega
        obtain ⟨j, hj⟩ : ∃ j, j = (p + k) / 8 := ⟨_, rfl⟩
        obtain ⟨r, hr⟩ : ∃ r, r = (p + k) % 8 := ⟨_, rfl⟩
        have hjn : j < n + 4 := by omega
        have hr8 : r < 8 := by omega
        have t1 : ((p : Int) + (k : Int)).tdiv 8 = (j : Int) := by rw [hj, Int.tdiv_eq_ediv_of_nonneg (by omega)]; omega
        have t2 : ((p : Int) + (k : Int)).tmod 8 = (r : Int) := by rw [hr, Int.tmod_eq_emod_of_nonneg (by omega)]; omega
        have t3 : IntKind.i64.wrap (j : Int) = (j : Int) := by rw [IntKind.wrap_i64]; omega
        have t4 : IntKind.i64.wrap (r : Int) = (r : Int) := by rw [IntKind.wrap_i64]; omega
        have j0 : (0 : Int) ≤ (j : Int) := by omega
        have j1 : (j : Int) < (n : Int) + 4 := by omega
        have r0 : (0 : Int) ≤ (r : Int) := by omega
        have r1 : (r : Int) < 8 := by omega
        obtain ⟨u, hu, hcell, hfr⟩ := own_at HT.out.1 hjn
        have hu256 := u.toNat_lt
        have HJ := Lib.hid hj
        have HRr := Lib.hid hr
        have HU := Lib.hid hu
        clear hj hr hu
        go_wp2_with fail
        go_region
        clear t1 t2 t3 t4
        go_wp2
        go_roundw
        case rel => exact ⟨k + 1, by omega, by go_num, Lib.hid (by
          rw [turned_int]
          exact bst_step HT.out hbit HJ.out HRr.out HU.out)⟩
        case measure => simp [intOf]; omega
      · have hbv := bit_int b k
        rw [if_neg hbit] at hbv
        go_wp2
        go_roundw
        case rel => exact ⟨k + 1, by omega, by go_num, Lib.hid (by
          have h := HT.out
          unfold Bst at h ⊢
          rw [flips, if_neg hbit]
          exact h)⟩
        case measure => simp [intOf]; omega
    · have hk32 : k = 32 := by omega
      subst hk32
      obtain ⟨ho, hg⟩ := HT.out
      have hp2 : p + 32 ≤ 8 * (Cr.mark l).length := by rw [HMl.out]; exact hp
      have hlen : (flips (Cr.mark l) p b 32).length = n + 4 := (flips_length _ _ _ _).trans HMl.out
      have hfb : fitB (flips (Cr.mark l) p b 32) = false := by
        rw [fitB_of hlen, beq_eq_false_iff_ne]
        exact flips_unfit HBZ.out hp2 _
      have hfl : fitL (flips (Cr.mark l) p b 32) = [] := by unfold fitL; rw [hfb]; rfl
      have hfc : fitC (flips (Cr.mark l) p b 32) = 5 := by unfold fitC; rw [hfb, hlen, if_neg (by omega)]; rfl
      have hbel : Below w.heap.size w wr := HB1.out.grown hg HB1.out.size (fun g hgg => by have := (World.ownsRow.lt ho g hgg).1; omega)
      have HRd := Lib.hid (Rd.of_own ho)
      have HLen := Lib.hid hlen
      have HFL := Lib.hid hfl
      have HFC := Lib.hid hfc
      have HBel := Lib.hid hbel
      clear ho hg hp2 hlen hfb hfl hfc hbel
      go_wp2_with fail
      refine (fits_all (some ⟨gm, 0, none⟩) (n + 4) cm (flips (Cr.mark l) p b 32) wr HLen.out hcm (by omega) HRd.out).mono ?_
      rw [HFL.out, HFC.out]
      rintro e w3 ⟨hb3, X, n3, c3, rfl, hx3, -, -⟩
      have hn3 : n3 = 0 := by simpa using hx3.symm
      subst hn3
      have HB3 := Lib.hid (HBel.out.trans (hb3.mono HBel.out.size))
      clear hb3 hx3
      go_wp2_with (go_at_call 7; refine (awake_any _).mono ?_; rintro e w8 ⟨rfl, hb8⟩)
      go_ret
      exact ⟨rfl, HB3.out.trans (hb8.mono HB3.out.size)⟩
theorem burst_long_law (A : Option Addr) (n c : Nat) (at_ bits_ : Int) (w : World) (hn : 1000 < n) :
    Calls Try.prog 5 #[.slice A n c, .int .i64 at_, .int .u32 bits_] w fun e w' => e = .returned (.bool true) ∧ Below w.heap.size w w' := by
  have h1 : decide ((1000 : Int) < (n : Int)) = true := by simp; omega
  go_enter Try.func5, Try.ntmps5
  go_wp2_with (go_at_call 7; refine (awake_any _).mono ?_; rintro e w8 ⟨rfl, hb8⟩)
  go_ret
  exact ⟨rfl, hb8⟩
theorem burst_none_law (A : Option Addr) (n c : Nat) (at_ : Int) (w : World) (hn : n ≤ 1000) :
    Calls Try.prog 5 #[.slice A n c, .int .i64 at_, .int .u32 0] w fun e w' => e = .returned (.bool true) ∧ Below w.heap.size w w' := by
  have h1 : decide ((1000 : Int) < (n : Int)) = false := by simp; omega
  go_enter Try.func5, Try.ntmps5
  go_wp2_with (go_at_call 7; refine (awake_any _).mono ?_; rintro e w8 ⟨rfl, hb8⟩)
  go_ret
  exact ⟨rfl, hb8⟩
set_option maxHeartbeats 1000000 in
theorem burst_out_law (A : Option Addr) (n c : Nat) (at_ bits_ : Int) (l : List UInt8) (w : World) (hl : l.length = n) (hn : n ≤ 1000) (hr : Rd w w.heap.size A l) (hb : bits_ ≠ 0) (ho : at_ < 0 ∨ 8 * ((n : Int) + 4) - 32 < at_) :
    Calls Try.prog 5 #[.slice A n c, .int .i64 at_, .int .u32 bits_] w fun e w' => e = .returned (.bool true) ∧ Below w.heap.size w w' := by
  have d1 : decide ((1000 : Int) < (n : Int)) = false := by simp; omega
  have d2 : (bits_ == 0) = false := by rw [beq_eq_false_iff_ne]; exact hb
  have HL := Lib.hid hl
  have HR := Lib.hid hr
  clear hl hr hb
  by_cases h0 : at_ < 0
  · have d3 : decide (at_ < 0) = true := by simp; omega
    clear ho
    go_enter Try.func5, Try.ntmps5
    go_wp2_with fail
    refine (mark_any A n c l w HL.out (by omega) HR.out).mono ?_
    rintro e w1 ⟨v1, rfl, ho1, hb1⟩
    obtain ⟨gm, cm, rfl, -, -⟩ := ho1.form (by omega)
    have HB1 := Lib.hid hb1
    clear ho1 hb1
    go_wp2_with (go_at_call 7; refine (awake_any _).mono ?_; rintro e w8 ⟨rfl, hb8⟩)
    go_ret
    exact ⟨rfl, HB1.out.trans (hb8.mono HB1.out.size)⟩
  · have d3 : decide (at_ < 0) = false := by simp; omega
    have d4 : decide (8 * ((n : Int) + 4) - 32 < at_) = true := by simp; omega
    clear ho
    go_enter Try.func5, Try.ntmps5
    go_wp2_with fail
    refine (mark_any A n c l w HL.out (by omega) HR.out).mono ?_
    rintro e w1 ⟨v1, rfl, ho1, hb1⟩
    obtain ⟨gm, cm, rfl, -, -⟩ := ho1.form (by omega)
    have HB1 := Lib.hid hb1
    clear ho1 hb1
    go_wp2_with (go_at_call 7; refine (awake_any _).mono ?_; rintro e w8 ⟨rfl, hb8⟩)
    go_ret
    exact ⟨rfl, HB1.out.trans (hb8.mono HB1.out.size)⟩
open Go.ChangeShapes Go.WideShapes Go.ChangeAt Go.Joins
set_option maxRecDepth 100000 in
theorem crcBursts_lifted (os : Os) (started : os.Started) (H : Type) (enc : TypeId × Value → H) :
    ReturnsInHanded {} Try.checked os 5 .any (Rows.crcBurstsSpec.pre6 enc Try.prog Try.f5 Rows.crcBurstsRow.domain false) (Rows.crcBurstsSpec.post enc Try.prog Try.f5 false true false false) := by
  refine returnsInHanded_of_change (C := Try.checked) own started (by kernel_rfl) Try.func5
    (ChangeSpec.witness6 (enc := enc) (C := Try.checked) false ⟨#[], #[.slice none 0 0, .int .i64 0, .int .u32 0], []⟩ 8 (by kernel_rfl) (by kernel_rfl) (by kernel_rfl) (by kernel_rfl)) ?_
  intro W base args ds gs before hval0 hW hcnd _
  have hval : ∀ (j : Nat) t v, Try.f5.params[j]? = some t → args[j]? = some v → Value.okWide Try.prog W .any base t v := hval0
  have hW' := hW
  obtain ⟨p, q, hA0, hV, rfl, hfz, hnd⟩ := hW
  have hA : DataW.TrodAll enc Try.prog W 0 (fun _ => true) true Try.f5.params.toList args.toList ds p := hA0
  rw [Try.params5] at hA hval
  obtain ⟨v0, v1, v2, d0, d1, d2, p0, p1, p2, rfl, rfl, rfl, h0, h1, h2⟩ := trodAll_three hA
  obtain ⟨A, n, c, l, rfl, hl, hc, hc63, hr⟩ := open_bytes Try.underlying22 Try.underlying5 cells_u8 (hval 0 22 v0 rfl rfl) h0
  obtain ⟨at_, rfl, -, -, -⟩ := open_int Try.underlying3 (hval 1 3 v1 rfl rfl) h1
  obtain ⟨bits_, rfl, -, -, wb⟩ := open_int Try.underlying24 (hval 2 24 v2 rfl rfl) h2
  have hy : 0 ≤ bits_ ∧ bits_ < 4294967296 := by simp [Lit.wf, IntKind.min, IntKind.max, IntKind.bits, IntKind.signed] at wb; omega
  have hwalk : Calls Try.prog 5 #[.slice A n c, .int .i64 at_, .int .u32 bits_] W fun e w' => e = .returned (.bool true) ∧ Below W.heap.size W w' := by
    by_cases h : 1000 < n
    · exact burst_long_law A n c at_ bits_ W h
    · by_cases hb : bits_ = 0
      · subst hb; exact burst_none_law A n c at_ W (by omega)
      · by_cases ho : at_ < 0 ∨ 8 * ((n : Int) + 4) - 32 < at_
        · exact burst_out_law A n c at_ bits_ l W hl (by omega) hr hb ho
        · obtain ⟨k, rfl⟩ := Int.eq_ofNat_of_zero_le (show 0 ≤ at_ by omega)
          have hbb : bits_ = (((BitVec.ofInt 32 bits_).toNat : Nat) : Int) := by rw [BitVec.toNat_ofInt]; omega
          have hne : BitVec.ofInt 32 bits_ ≠ 0#32 := fun e => hb (by rw [hbb, e]; rfl)
          rw [hbb]
          exact burst_law A n c k l _ W hl (by omega) hr hne (by omega)
  refine hwalk.mono fun e W' ⟨he, hb⟩ => ?_
  subst he
  exact ⟨_, rfl, Lw.post_true laidOut (by kernel_rfl) rfl rfl rfl rfl (by kernel_rfl) Try.underlying4 hW' hb⟩

/-- CrcBursts: bytes with their sum, of which some bits within 32 are turned, don't fit. -/
theorem crcBursts_holds : Rows.CrcBurstsSaid :=
  OpenClaim.holds_of_wide 5 Try.f5 rfl rfl rfl rfl rfl rfl rfl ⟨rfl, rfl, rfl, rfl, rfl⟩ rfl rfl rfl rfl rfl (by kernel_rfl) Try.func5 (by kernel_rfl)
    (of_decide_eq_true (by kernel_rfl)) (by unfold Func.isWrapper; rw [if_neg (of_decide_eq_false (by kernel_rfl))]; exact ⟨rfl, rfl⟩)
    (fun os started H enc _ => crcBursts_lifted os started H enc)
#print axioms crcBursts_holds
end Go.Proofs.Yteonfodeddaoiaa
