/- A page's block, the document's. -/
import Derived.Test.YtledmlndlpmgdaaPg
import Derived.Test.YtledmlndlpmgdaaCel
namespace Go.Proofs.Ytledmlndlpmgdaa
open Go.RowKit Cr Me Pg

theorem zeros_snoc (k : Nat) : Pg.zeros k ++ [0] = Pg.zeros (k + 1) := by
  unfold Pg.zeros
  rw [List.replicate_succ']
def RefPRel (w : World) (f p : Reg) (b : List UInt8) (q : Nat) (v : Value) (wr : World) : Prop :=
  wr.ownsRow w.heap.size 5 1 v q (cellsOf (four f ++ four p ++ four (BitVec.ofNat 32 b.length) ++ b ++ Pg.zeros (q - 12 - b.length))) ∧ Below w.heap.size w wr
set_option maxRecDepth 100000 in
set_option maxHeartbeats 1000000 in
theorem ref_pput_any (f p : Reg) (A : Option Addr) (n c : Nat) (b : List UInt8) (w : World) (hb : b.length = n) (hn : n ≤ 112) (hr : Rd w w.heap.size A b) :
    Calls Try.prog 9 #[.int .u32 (f.toNat : Int), .int .u32 (p.toNat : Int), .slice A n c] w (News w (enc f p b)) := by
  obtain ⟨i0, hi0, hz0, hz1, hz2⟩ := info_parts u8_info
  have hw : IntKind.u32.wrap (n : Int) = (n : Int) := by rw [IntKind.wrap_u32]; omega
  have HN := Lib.hid (show (BitVec.ofNat 32 n).toNat = n by rw [BitVec.toNat_ofNat]; omega)
  have hb0 : Below w.heap.size w (w.alloc (.cells #[] 5)) := (Below.refl _ _).alloc (Nat.le_refl _) _
  have HB := Lib.hid hb
  have HR := Lib.hid hr
  have HB0 := Lib.hid hb0
  have HO0 := Lib.hid (own_empty w w.heap.size 5 (Nat.le_refl _))
  clear hb hr hb0
  go_enter Try.func9, Try.ntmps9
  go_wp2_with fail
  refine (ref_four_any f _).mono ?_
  rintro e w1 ⟨rfl, hr1, hb1⟩
  rw [World.size_alloc] at hr1
  have HR1 := Lib.hid hr1
  have HB1 := Lib.hid (HB0.out.trans (hb1.mono HB0.out.size))
  have HO1 := Lib.hid (own_below HO0.out hb1)
  clear hr1 hb1
  go_wp2_with (at_builtin
               refine wpList_app rfl (.tmp 8) (.tmp 10) 23 rfl w.heap.size 5 i0 _ Try.underlying23 hi0 hz0 hz1 hz2 rfl _ 0 [] rfl HO1.out w1.heap.size _ 4 4 (four f) rfl rfl HR1.out (by omega) HB1.out.size ?_
               intro v2 w2 hown2 hg2 _
               have HB2 := Lib.hid (below_app HB1.out HO1.out (Nat.le_refl _) HB1.out.size hg2)
               have HO2 := Lib.hid hown2
               clear hown2 hg2)
  refine (ref_four_any p _).mono ?_
  rintro e w3 ⟨rfl, hr3, hb3⟩
  have HR3 := Lib.hid hr3
  have HB3 := Lib.hid (HB2.out.trans (hb3.mono HB2.out.size))
  have HO3 := Lib.hid (own_below HO2.out hb3)
  clear hr3 hb3 HR1 HB1 HO1 HB0 HO0
  go_wp2_with (at_builtin
               refine wpList_app rfl (.tmp 12) (.tmp 14) 23 rfl w.heap.size 5 i0 _ Try.underlying23 hi0 hz0 hz1 hz2 rfl _ (0 + 4) _ rfl HO3.out w3.heap.size _ 4 4 (four p) rfl rfl HR3.out (by omega) HB3.out.size ?_
               intro v4 w4 hown4 hg4 _
               have HB4 := Lib.hid (below_app HB3.out HO3.out (Nat.le_refl _) HB3.out.size hg4)
               have HO4 := Lib.hid hown4
               clear hown4 hg4)
  rw [show (Value.int .u32 (n : Int)) = .int .u32 (((BitVec.ofNat 32 n).toNat : Nat) : Int) by rw [HN.out]]
  refine (ref_four_any (BitVec.ofNat 32 n) _).mono ?_
  rintro e w5 ⟨rfl, hr5, hb5⟩
  have HR5 := Lib.hid hr5
  have HB5 := Lib.hid (HB4.out.trans (hb5.mono HB4.out.size))
  have HO5 := Lib.hid (own_below HO4.out hb5)
  clear hr5 hb5 HR3 HB3 HO3 HB2 HO2
  rw [HN.out]
  go_wp2_with (first
    | (at_builtin
       refine wpList_app rfl (.tmp 16) (.tmp 20) 23 rfl w.heap.size 5 i0 _ Try.underlying23 hi0 hz0 hz1 hz2 rfl _ (0 + 4 + 4) _ rfl HO5.out w5.heap.size _ 4 4 (four (BitVec.ofNat 32 n)) rfl rfl HR5.out (by omega) HB5.out.size ?_
       intro v6 w6 hown6 hg6 _
       have HB6 := Lib.hid (below_app HB5.out HO5.out (Nat.le_refl _) HB5.out.size hg6)
       have HO6 := Lib.hid hown6
       clear hown6 hg6)
    | (at_builtin
       refine wpList_app rfl (.tmp 22) (.tmp 23) 23 rfl w.heap.size 5 i0 _ Try.underlying23 hi0 hz0 hz1 hz2 rfl _ (0 + 4 + 4 + 4) _ rfl HO6.out w.heap.size A n c b rfl HB.out (HR.out.below HB6.out) (by omega) HB6.out.size ?_
       intro v7 w7 hown7 hg7 _
       have HREL := Lib.hid (show RefPRel w f p b (12 + n) v7 w7 from ⟨by
         rw [HB.out, show 12 + n - 12 - n = 0 by omega]
         have := hown7
         simpa [Pg.zeros, Nat.add_comm, Nat.add_assoc] using this, below_app HB6.out HO6.out (Nat.le_refl _) HB6.out.size hg7⟩)
       clear hown7 hg7))
  clear HB6 HO6 HB5 HO5 HR5 HB4 HO4
  go_loopw [7] (fun v wr => ∃ q : Nat, 12 + n ≤ q ∧ q ≤ 124 ∧ sliceLen v = q ∧ Hid (RefPRel w f p b q v wr)) (fun v _ => 124 - sliceLen v)
  case atStart => 
    obtain ⟨A7, c7, h7⟩ := own_slice HREL.out.1
    exact ⟨12 + n, Nat.le_refl _, by omega, by rw [h7]; rfl, HREL⟩
  case round =>
    clear HREL
    obtain ⟨q, hq1, hq2, hq3, HP⟩ := hrel
    obtain ⟨ho, hb⟩ := HP.out
    obtain ⟨Aq, cq, rfl⟩ := own_slice ho
    have HO := Lib.hid ho
    have HBq := Lib.hid hb
    have hsz := hb.size
    clear ho hb HP hq3
    by_cases hlt : q < 124
    · go_wp2_with (at_builtin
                   refine wpList_app rfl (.tmp 28) (.tmp 29) 23 rfl w.heap.size 5 i0 _ Try.underlying23 hi0 hz0 hz1 hz2 rfl _ q _ rfl (HO.out.alloc _) (wr.heap.size + 1) (some ⟨wr.heap.size, 0, none⟩) 1 1 [0] rfl rfl (Rd.lit wr _ _ _ rfl) (by omega) (by simp; omega) ?_
                   intro v5 w5 hown5 hg5 _
                   have HREL := Lib.hid (show RefPRel w f p b (q + 1) v5 w5 from ⟨by
                     rw [HB.out, show q + 1 - 12 - n = q - 12 - n + 1 by omega, ← zeros_snoc, ← List.append_assoc]
                     have := hown5
                     rwa [HB.out] at this, below_app (HBq.out.alloc hsz _) (HO.out.alloc _) (Nat.le_refl _) (by simp; omega) hg5⟩)
                   clear hown5 hg5)
      obtain ⟨A5, c5, rfl⟩ := own_slice HREL.out.1
      go_roundw
      case rel => exact ⟨q + 1, by omega, by omega, rfl, HREL⟩
      case measure => simp [sliceLen]; omega
    · have hq : q = 124 := by omega
      subst hq
      have HRD := Lib.hid (show Rd wr wr.heap.size Aq (raw f p b) from by
        have := Rd.of_own HO.out
        have e : four f ++ four p ++ four (BitVec.ofNat 32 b.length) ++ b ++ Pg.zeros (124 - 12 - b.length) = raw f p b := by
          unfold raw
          simp only [List.append_assoc]
        rwa [e] at this)
      go_wp2_with fail
      refine (ref_mark_news Aq 124 cq (raw f p b) wr (raw_length (by rw [HB.out]; exact hn)) (by omega) HRD.out).mono ?_
      rintro e w6 ⟨v, m, rfl, ho6, hb6⟩
      have HO6 := Lib.hid (own_more ho6 hsz)
      have HB6 := Lib.hid (HBq.out.trans (hb6.mono hsz))
      clear ho6 hb6
      go_wp2
      go_ret
      exact ⟨v, m, rfl, HO6.out, HB6.out⟩
end Go.Proofs.Ytledmlndlpmgdaa
