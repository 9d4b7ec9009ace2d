/- A page's block, the program's. -/
import Derived.Test.YtledmlndlpmgdaaPEnc
import Derived.Test.YtledmlndlpmgdaaCopy
namespace Go.Proofs.Ytledmlndlpmgdaa
open Go.RowKit Cr Me Pg

theorem pput_long (f p : Int) (A : Option Addr) (n c : Nat) (w : World) (hn : 112 < n) :
    Calls Try.prog 7 #[.int .u32 f, .int .u32 p, .slice A n c] w fun e w' => e = .returned (.tuple #[.slice none 0 0, .int .i64 4]) ∧ w = w' := by
  have h1 : decide ((112 : Int) < (n : Int)) = true := by simp; omega
  go_enter Try.func7, Try.ntmps7
  go_wp2
  go_ret2
  exact ⟨rfl, rfl⟩
theorem u8_size : (Try.prog.info? 5).map (·.size) = some 1 := by kernel_rfl
theorem raw_made {f p : Reg} {b : List UInt8} {n : Nat} (hb : b.length = n) {x : List UInt8} (hx : x = [f, p, BitVec.ofNat 32 n].flatMap four) :
    ((List.replicate 124 (0 : UInt8)).take 0 ++ x ++ (List.replicate 124 (0 : UInt8)).drop (0 + 12)).take 12 ++ b ++ ((List.replicate 124 (0 : UInt8)).take 0 ++ x ++ (List.replicate 124 (0 : UInt8)).drop (0 + 12)).drop (12 + n) = raw f p b := by
  have hxl : x.length = 12 := by rw [hx]; rfl
  rw [List.take_zero, List.nil_append, List.drop_replicate, List.take_left' hxl, ← List.drop_drop, List.drop_left' hxl, List.drop_replicate, hx]
  unfold raw zeros
  rw [hb]
  simp only [List.flatMap_cons, List.flatMap_nil, List.append_nil, List.append_assoc]
set_option maxRecDepth 100000 in
set_option maxHeartbeats 1000000 in
theorem pput_good (f p : Reg) (A : Option Addr) (n c : Nat) (b : List UInt8) (w : World) (hb : b.length = n) (hn : n ≤ 112) (hr : Rd w w.heap.size A b) :
    Calls Try.prog 7 #[.int .u32 (f.toNat : Int), .int .u32 (p.toNat : Int), .slice A n c] w (PutPost w (enc f p b) 0) := by
  obtain ⟨i0, hi0, hz0, hz1, hz2⟩ := info_parts u8_info
  have h1 : decide ((112 : Int) < (n : Int)) = false := by simp; omega
  have hw : IntKind.u32.wrap (n : Int) = (n : Int) := by rw [IntKind.wrap_u32]; omega
  have HN := Lib.hid (show (BitVec.ofNat 32 n).toNat = n by rw [BitVec.toNat_ofNat]; omega)
  have HB := Lib.hid hb
  have HR := Lib.hid hr
  clear hb hr
  go_enter Try.func7, Try.ntmps7
  go_wp2_with (refine wpList_make_full w rfl _ _ 23 rfl w.heap.size 5 i0 _ 1 Try.underlying23 hi0 hz0 hz1 .i64 .i64 _ _ 124 rfl rfl rfl rfl (by rw [hz2]; omega) (by unfold maxLen; omega) (Nat.le_refl _) ?_
               intro w1 ho1 hg1
               rw [made_zero] at ho1
               have HB1 := Lib.hid (show Below w.heap.size w w1 from (Below.refl _ _).grown hg1 (Nat.le_refl _) (fun k e => by cases e))
               have HO1 := Lib.hid ho1
               clear ho1 hg1)
  have HC := Lib.hid (show Cs (w1.alloc (.cells #[.int .u32 (f.toNat : Int), .int .u32 (p.toNat : Int), .int .u32 (n : Int)] 22)) (w1.alloc (.cells #[.int .u32 (f.toNat : Int), .int .u32 (p.toNat : Int), .int .u32 (n : Int)] 22)).heap.size (some ⟨w1.heap.size, 0, none⟩) (regs [f, p, BitVec.ofNat 32 n]) from by
    have := Cs.lit w1 #[.int .u32 (f.toNat : Int), .int .u32 (p.toNat : Int), .int .u32 (n : Int)] 22
    unfold regs
    simp only [List.map_cons, List.map_nil, HN.out]
    simpa using this)
  have HB2 := Lib.hid (HB1.out.alloc HB1.out.size (.cells #[.int .u32 (f.toNat : Int), .int .u32 (p.toNat : Int), .int .u32 (n : Int)] 22))
  have HO2 := Lib.hid (HO1.out.alloc (.cells #[.int .u32 (f.toNat : Int), .int .u32 (p.toNat : Int), .int .u32 (n : Int)] 22))
  refine (encoded_any _ 3 3 [f, p, BitVec.ofNat 32 n] _ rfl (by omega) HC.out).mono ?_
  intro e w3 h
  obtain ⟨A3, n3, c3, rfl, hl3, hc3, -, hr3, hb3⟩ := h.open
  have hn3 : n3 = 12 := by rw [← hl3]; rfl
  subst hn3
  obtain ⟨x, hx⟩ : ∃ x, x = [f, p, BitVec.ofNat 32 n].flatMap four := ⟨_, rfl⟩
  rw [← hx] at hl3 hr3
  have HX := Lib.hid hx
  have HL3 := Lib.hid hl3
  have HR3 := Lib.hid hr3
  have HB3 := Lib.hid (HB2.out.trans (hb3.mono HB2.out.size))
  have HO3 := Lib.hid (own_below HO2.out hb3)
  clear hx hl3 hr3 hb3 h HC HO1 HO2 HB1 HB2
  go_wp2_with (first
    | (with_reducible show wpList _ _ _ _ _ _
       refine wpList_copy_bytes (o := ⟨some 21, _, _, _, _, _⟩) rfl (.tmp 13) (.tmp 20) 23 rfl 5 Try.underlying23 u8_size w.heap.size w.heap.size 124 0 124 124 _ HO3.out rfl w3.heap.size A3 12 c3 x rfl HL3.out HR3.out (by omega) (by omega) w HB3.out ?_
       intro w4 ho4 hb4
       have HO4 := Lib.hid ho4
       have HB4 := Lib.hid hb4
       clear ho4 hb4)
    | (with_reducible show wpList _ _ _ _ _ _
       refine wpList_copy_bytes (o := ⟨some 25, _, _, _, _, _⟩) rfl (.tmp 23) (.tmp 24) 23 rfl 5 Try.underlying23 u8_size w.heap.size w.heap.size 124 12 112 112 _ HO4.out rfl w.heap.size A n c b rfl HB.out (HR.out.below HB4.out) hn (by omega) w HB4.out ?_
       intro w5 ho5 hb5
       have HO5 := Lib.hid ho5
       have HB5 := Lib.hid hb5
       clear ho5 hb5))
  have ho := HO5.out
  rw [raw_made HB.out HX.out] at ho
  have HRW := Lib.hid (Rd.of_own ho)
  clear ho
  refine (mark_news (some ⟨w.heap.size, 0, none⟩) 124 124 (raw f p b) w5 (raw_length (by rw [HB.out]; exact hn)) (by omega) HRW.out).mono ?_
  rintro e w6 ⟨v, m, rfl, ho6, hb6⟩
  have HO6 := Lib.hid (own_more ho6 HB5.out.size)
  have HB6 := Lib.hid (HB5.out.trans (hb6.mono HB5.out.size))
  clear ho6 hb6
  go_wp2
  go_ret2
  exact ⟨v, m, rfl, HO6.out, HB6.out⟩
end Go.Proofs.Ytledmlndlpmgdaa
