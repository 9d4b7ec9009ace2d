/- A manifest is written: to the slot of its version, then to the other one. -/
import Derived.Test.YtcnmamdfiicdaaaWSlot
import Derived.Test.YtcnmamdfiicdaaaMfP
namespace Go.Proofs.Ytcnmamdfiicdaaa
open Go.RowKit Me Mf Rw Ds

/-- The disk behind so many slots, the error. -/
def wmD (S : Dsk) (m : ManD) : Nat → Dsk × Int
  | 0 => (S, 0)
  | k + 1 => if (wmD S m k).2 = 0 then wslotD (wmD S m k).1 ((m.version + k) % 2) (slotOf m) else wmD S m k
theorem syncD_pend (S : Dsk) : (syncD S).1.pend.length ≤ S.pend.length := by
  unfold syncD
  repeat' split
  all_goals simp [(power_pend S).1]
theorem wslotD_pend (S : Dsk) (n : Nat) (l : List UInt8) : (wslotD S n l).1.pend.length ≤ S.pend.length + 16 := by
  have h := stD_pend S n l 16
  unfold wslotD
  split
  · exact Nat.le_trans (syncD_pend _) h
  · exact h
theorem wmD_pend (S : Dsk) (m : ManD) : ∀ k, (wmD S m k).1.pend.length ≤ S.pend.length + 16 * k
  | 0 => Nat.le_refl _
  | k + 1 => by
    have h := wmD_pend S m k
    rw [wmD]
    split
    · have := wslotD_pend (wmD S m k).1 ((m.version + k) % 2) (slotOf m)
      omega
    · omega
theorem wmD_stuck {S : Dsk} {m : ManD} {k : Nat} (h : (wmD S m k).2 ≠ 0) : ∀ j, k ≤ j → wmD S m j = wmD S m k := by
  intro j hj
  induction j with
  | zero => rw [show k = 0 by omega]
  | succ j ih =>
    by_cases e : k = j + 1
    · rw [e]
    · have := ih (by omega)
      rw [wmD, this, if_neg h]
set_option maxRecDepth 100000 in
set_option maxHeartbeats 2000000 in
theorem mwrite_any {w : World} {B D : Nat} {S : Dsk} {own : Nat → Prop} (h : DiskAt w B D S own) (A : Option Addr) (n c : Nat) (m : ManD) (hm : ManAt w w.heap.size A n c m) (hs : Small m) (hf : Fit m) (hp : S.pend.length + 32 ≤ 1073741824) :
    Calls Try.prog 16 #[.pointer (some ⟨D, 0, none⟩), mval m.version m.next A n c] w fun e w' => e = .returned (.int .i64 (wmD S m 2).2) ∧ DPost w B D (wmD S m 2).1 own w' := by
  obtain ⟨H, hH⟩ : ∃ H, H = w.heap.size := ⟨_, rfl⟩
  obtain ⟨v, hv⟩ : ∃ v, v = m.version := ⟨_, rfl⟩
  obtain ⟨w0, hw0⟩ : ∃ w0, w0 = w.alloc (.cells #[.int .u64 (v : Int), .int .u32 (m.next : Int), .slice A n c] 28) := ⟨_, rfl⟩
  have HW0 := Lib.hid hw0
  have hb0 : Below w.heap.size w w0 := by rw [hw0]; exact (Below.refl _ _).alloc (Nat.le_refl _) _
  have BX0 := Lib.hid (show Blk w0 H [.int .u64 (v : Int), .int .u32 (m.next : Int), .slice A n c] by rw [hw0, hH]; exact Blk.new w [.int .u64 (v : Int), .int .u32 (m.next : Int), .slice A n c] _)
  have HB0 := Lib.hid hb0
  have HM0 := Lib.hid (mput_any A n c m w0 hs (hm.past hb0))
  rw [← hv] at HM0
  have HD := Lib.hid h
  have HF := Lib.hid hf
  have HV := Lib.hid hv
  have HH := Lib.hid hH
  have hv64 : v < 18446744073709551616 := by rw [hv]; exact hm.wf.version
  have i0 := BX0.out.cell (i := 0) rfl
  have i1 := BX0.out.cell (i := 1) rfl
  have i2 := BX0.out.cell (i := 2) rfl
  rw [hw0] at i0 i1 i2
  rw [← hv]
  clear h hw0 hb0 hm hf hs hH hv
  go_enter Try.func16, Try.ntmps16
  go_wp2_with fail
  rw [← HW0.out, ← HH.out]
  refine HM0.out.mono ?_
  rintro e w1 ⟨hb1, h1⟩
  rcases h1 with ⟨-, vv, rfl, ho⟩ | ⟨hno, -⟩
  rotate_left
  · exact absurd HF.out hno
  obtain ⟨g, cap, rfl, hg1, hg2⟩ := ho.form (by omega)
  have hcap : 2048 ≤ cap ∧ cap ≤ 9223372036854775807 := by
    obtain ⟨-, ⟨e, -⟩ | ⟨g', cap', cur, e, -, -, h1, h2, -⟩⟩ := ho
    · cases e
    · injection e with _ _ e; subst e; exact ⟨h1, h2⟩
  have HO := Lib.hid ho
  have HB1 := Lib.hid (HB0.out.trans (hb1.mono HB0.out.size))
  have BX1 := Lib.hid (BX0.out.past hb1)
  have HD1 := Lib.hid (HD.out.past HB1.out)
  have hs0 : H < w0.heap.size := BX0.out.lt
  have hs1 := hb1.size
  obtain ⟨l, hl⟩ : ∃ l, l = slotOf m := ⟨_, rfl⟩
  rw [← hl] at HO
  have HLL := Lib.hid (show l.length = 2048 by rw [hl]; exact slotOf_length HF.out)
  have HL := Lib.hid hl
  clear hb1 ho hl HW0 i0 i1 i2 HM0
  go_wp2_with fail
  go_loopw [17] (fun i wr => ∃ (k : Nat) (own' : Nat → Prop), k ≤ 2 ∧ i = .int .u64 (k : Int) ∧ Hid ((wmD S m k).2 = 0) ∧ Hid (DiskAt wr B D (wmD S m k).1 own') ∧ Hid (∀ j, own' j → own j ∨ w1.heap.size ≤ j) ∧ Hid (Out own w wr) ∧ Hid (Blk wr H [.int .u64 (v : Int), .int .u32 (m.next : Int), .slice A n c]) ∧ Hid (wr.ownsRow w0.heap.size 5 1 (.slice (some ⟨g, 0, none⟩) 2048 cap) 2048 (cellsOf l)) ∧ Hid (w1.heap.size ≤ wr.heap.size)) (fun i _ => 2 - (intOf i).toNat)
  case atStart => exact ⟨0, own, by omega, rfl, Lib.hid rfl, HD1, Lib.hid (fun j h => .inl h), Lib.hid (.of_below HB1.out), BX1, HO, Lib.hid (Nat.le_refl _)⟩
  case round =>
    clear BX1 HO HD1
    obtain ⟨k, own', hk, rfl, HZ, HD2, HN, HOU, BX, O, HSZ⟩ := hrel
    have i0 := BX.out.cell (i := 0) rfl
    by_cases hlt : k < 2
    · have hpen := wmD_pend S m k
      obtain ⟨p, hp⟩ : ∃ p : Nat, p = (v + k) % 2 := ⟨_, rfl⟩
      obtain ⟨y, hy⟩ : ∃ y : Nat, y = (v + k) % 18446744073709551616 := ⟨_, rfl⟩
      have e1 : IntKind.u64.wrap ((v : Int) + (k : Int)) = (y : Int) := by
        simp [IntKind.wrap, IntKind.bits, IntKind.signed]
        omega
      have e2 : (y : Int).tmod 2 = (p : Int) := by
        rw [Int.tmod_eq_emod_of_nonneg (by omega)]; omega
      have hp1 : p ≤ 1 := by omega
      have hy64 : y < 18446744073709551616 := by omega
      have HP := Lib.hid (show p = (m.version + k) % 2 by rw [hp, HV.out])
      have hcz : Cz wr own' (some ⟨g, 0, none⟩) (cellsOf l) := fun hn => by
        obtain ⟨a, e, q1, q2⟩ := Cs.of_own O.out hn
        injection e with e
        subst e
        refine ⟨_, rfl, q1, fun h => ?_, q2⟩
        have e0 := HH.out
        rcases HN.out g h with h | h
        · have := (HD.out.lt h).2; omega
        · omega
      have HWS := Lib.hid (wslot_any HD2.out p hp1 g cap l HLL.out hcap.1 hcap.2 hcz (by omega))
      clear hp hy hcz hpen
      go_wp2_with fail
      refine HWS.out.mono ?_
      rintro e w2 ⟨rfl, own2, hd2, ho2, hn2⟩
      have hE : wslotD (wmD S m k).1 p l = wmD S m (k + 1) := by
        rw [wmD, if_pos HZ.out, ← HP.out, HL.out]
      rw [hE] at hd2 ⊢
      have HD3 := Lib.hid hd2
      have HN3 := Lib.hid (show ∀ j, own2 j → own j ∨ w1.heap.size ≤ j from fun j hj => by
        rcases hn2 j hj with h | h
        · exact HN.out j h
        · exact .inr (Nat.le_trans HSZ.out h))
      have hnH : ¬ own' H := fun h => by
        have e0 := HH.out
        rcases HN.out H h with h | h
        · have := (HD.out.lt h).2; omega
        · omega
      have hng : ¬ own' g := fun h => by
        have e0 := HH.out
        rcases HN.out g h with h | h
        · have := (HD.out.lt h).2; omega
        · omega
      have BX3 := Lib.hid (BX.out.out ho2 hnH)
      have O3 := Lib.hid (own_out O.out ho2 fun j e hj => by
        have e' : some g = some j := e
        injection e' with e'
        subst e'
        exact hng hj)
      have HOU3 := Lib.hid (HOU.out.trans' ho2 fun j hj => by
        rcases HN.out j hj with h | h
        · exact .inl h
        · right; have := HB1.out.size; omega)
      have HSZ3 := Lib.hid (Nat.le_trans HSZ.out ho2.size)
      have HWE := Lib.hid (wmD_stuck (S := S) (m := m) (k := k + 1))
      obtain ⟨r, hr⟩ : ∃ r, r = (wmD S m (k + 1)).2 := ⟨_, rfl⟩
      rw [← hr]
      have HR := Lib.hid hr
      clear hd2 ho2 hn2 hnH hng hE hr i0
      by_cases hr0 : r = 0
      · subst hr0
        go_wp2
        go_roundw
        case rel => exact ⟨k + 1, own2, by omega, by go_num, Lib.hid HR.out.symm, HD3, HN3, HOU3, BX3, O3, HSZ3⟩
        case measure => simp [intOf]; omega
      · have d1 : (r != 0) = true := by rw [bne_iff_ne]; exact hr0
        go_wp2
        go_ret
        have e2 := HWE.out (by rw [← HR.out]; exact hr0) 2 (by omega)
        rw [e2]
        exact ⟨ret_int HR.out, own2, HD3.out, HOU3.out, fun j hj => by
          rcases HN3.out j hj with h | h
          · exact .inl h
          · right; have := HB1.out.size; omega⟩
    · have hk2 : k = 2 := by omega
      subst hk2
      go_wp2
      go_ret
      exact ⟨ret_int HZ.out.symm, own', HD2.out, HOU.out, fun j hj => by
        rcases HN.out j hj with h | h
        · exact .inl h
        · right; have := HB1.out.size; omega⟩
end Go.Proofs.Ytcnmamdfiicdaaa
