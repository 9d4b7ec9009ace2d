/- A slot's bytes, as the document puts them. -/
import Derived.Test.YtcnmamdfiicdaaaMfS
import Derived.Test.YtcnmamdfiicdaaaMfP
import Derived.Test.YtcnmamdfiicdaaaFrms
namespace Go.Proofs.Ytcnmamdfiicdaaa
open Go.RowKit Me Mf Fr

set_option maxRecDepth 100000 in
set_option maxHeartbeats 1000000 in
theorem rputm_any (A : Option Addr) (n c : Nat) (m : ManD) (w : World) (hf : Fit m) (h : ManAt w w.heap.size A n c m) :
    Calls Try.prog 52 #[mval m.version m.next A n c] w fun e w' => ∃ v, e = .returned v ∧ w'.ownsRow w.heap.size 5 1 v 2048 (cellsOf (slotOf m)) ∧ Below w.heap.size w w' := by
  obtain ⟨i0, hi0, hz0, hz1, hz2⟩ := info_parts u8_info
  have hb := hf.2
  have hpos := good_pos hf.1
  obtain ⟨s, hs⟩ : ∃ s, s = encS (secOf m) := ⟨_, rfl⟩
  obtain ⟨t, ht⟩ : ∃ t, t = s.length := ⟨_, rfl⟩
  have ht1 : t ≤ 2048 := by rw [ht, hs, secOf_length]; omega
  have HSL := Lib.hid (show slotOf m = s ++ List.replicate (2048 - t) 0 by unfold slotOf; rw [ht, hs])
  have HS := Lib.hid hs
  have HT := Lib.hid ht
  obtain ⟨w0, hw0⟩ : ∃ w0, w0 = w.alloc (.cells #[.int .u64 (m.version : Int), .int .u32 (m.next : Int), .slice A n c] 28) := ⟨_, rfl⟩
  have HW0 := Lib.hid hw0
  have hb0 : Below w.heap.size w w0 := by rw [hw0]; exact (Below.refl _ _).alloc (Nat.le_refl _) _
  have HB0 := Lib.hid hb0
  have HBD := Lib.hid (rbody_any A n c m w0 hpos (by omega) (h.past hb0))
  have q := Blk.new w [.int .u64 (m.version : Int), .int .u32 (m.next : Int), .slice A n c] 28
  have q0 := q.cell (i := 0) rfl
  have q1 := q.cell (i := 1) rfl
  have q2 := q.cell (i := 2) rfl
  clear hw0 hb0 q h hs ht hf hpos
  go_enter Try.func52, Try.ntmps52
  go_wp2_with fail
  rw [← HW0.out]
  refine HBD.out.mono ?_
  rintro e w1 hnews
  obtain ⟨A1, n1, c1, rfl, hl1, hc1, -, hr1, hb1⟩ := hnews.open
  have HB1 := Lib.hid (HB0.out.trans (hb1.mono HB0.out.size))
  have HP := Lib.hid (ref_fput_any A1 n1 c1 (secOf m) w1 hl1 (by rw [← hl1]; show (body m).length ≤ 1048576; omega) hr1)
  clear hnews hb1 hl1 hr1 q0 q1 q2 HW0
  go_wp2_with fail
  refine HP.out.mono ?_
  rintro e w2 ⟨v2, n2, rfl, ho2, hb2⟩
  have hn2 : n2 = t := by have := ho2.1; rw [cellsOf_length, Nat.mul_one] at this; rw [← this, HT.out, HS.out]
  subst hn2
  have HB2 := Lib.hid (HB1.out.trans (hb2.mono HB1.out.size))
  have O2 := Lib.hid (show w2.ownsRow w1.heap.size 5 1 v2 (n2 + 0) (cellsOf (s ++ List.replicate 0 0)) by rw [HS.out]; simpa using ho2)
  have hs12 := hb2.size
  clear ho2 hb2 HP
  go_wp2_with fail
  go_loopw [3] (fun v wr => ∃ k : Nat, n2 + k ≤ 2048 ∧ Hid (wr.ownsRow w1.heap.size 5 1 v (n2 + k) (cellsOf (s ++ List.replicate k 0))) ∧ Hid (Below w.heap.size w wr) ∧ Hid (w1.heap.size ≤ wr.heap.size)) (fun v _ => 2048 - sliceLen v)
  case atStart => exact ⟨0, by omega, O2, HB2, Lib.hid hs12⟩
  case round =>
    clear O2 HB2
    obtain ⟨k, hk, O, HB, HSZ⟩ := hrel
    obtain ⟨A3, c3, e3, hc3⟩ := own_slice' O.out
    subst e3
    by_cases hlt : n2 + k < 2048
    · go_wp2_with (at_builtin
                   refine wpList_app rfl (.tmp 11) (.tmp 12) 22 rfl w1.heap.size 5 i0 _ Try.underlying22 hi0 hz0 hz1 hz2 rfl (.slice A3 (n2 + k) c3) (n2 + k) _ rfl (O.out.alloc _) (wr.heap.size + 1) (some ⟨wr.heap.size, 0, none⟩) 1 1 [0] rfl rfl (Rd.lit wr #[.int .u8 0] 5 [0] rfl) (by omega) (by have := HSZ.out; simp; omega) ?_
                   intro v4 w4 ho4 hg4 _
                   have O4 := Lib.hid (show w4.ownsRow w1.heap.size 5 1 v4 (n2 + (k + 1)) (cellsOf (s ++ List.replicate (k + 1) 0)) by
                     rw [List.append_assoc, ← List.replicate_succ'] at ho4
                     exact ho4)
                   have HB4 := Lib.hid (HB.out.trans (((Below.refl w.heap.size wr).alloc HB.out.size _).grown hg4 (by simp; have := HB.out.size; omega) (fun j hj => by have := (O.out.lt j hj).1; have := HB1.out.size; omega)))
                   have HSZ4 := Lib.hid (show w1.heap.size ≤ w4.heap.size by have := hg4.size; have := HSZ.out; simp at *; omega)
                   obtain ⟨A5, c5, e5, -⟩ := own_slice' ho4
                   subst e5
                   clear ho4 hg4)
      go_roundw
      case rel => exact ⟨k + 1, by omega, O4, HB4, HSZ4⟩
      case measure => simp [sliceLen]; omega
    · have hk2 : k = 2048 - n2 := by omega
      have h2048 : n2 + k = 2048 := by omega
      have HO := Lib.hid (show wr.ownsRow w1.heap.size 5 1 (.slice A3 2048 c3) 2048 (cellsOf (slotOf m)) by rw [HSL.out, ← hk2]; rw [h2048] at O; exact O.out)
      rw [h2048]
      clear hk2 hlt O
      go_wp2
      go_ret
      exact ⟨_, rfl, own_more HO.out HB1.out.size, HB.out⟩
end Go.Proofs.Ytcnmamdfiicdaaa
