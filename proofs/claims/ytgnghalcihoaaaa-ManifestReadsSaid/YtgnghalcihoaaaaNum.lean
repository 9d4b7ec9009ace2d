/- Numbers put behind bytes: the program's and the document's. -/
import Derived.Test.YtgnghalcihoaaaaByt
import Derived.Test.YtgnghalcihoaaaaVar
namespace Go.Proofs.Ytgnghalcihoaaaa
open Go.RowKit Me Va

theorem mask7 (n : Nat) (h : n < 18446744073709551616) : bits .and .u64 (n : Int) 127 = ((n % 128 : Nat) : Int) := by
  have := u64_and_nat n 127 h (by decide)
  rw [nat_mask7] at this
  exact this
theorem or128 (m : Nat) (h : m < 128) : bits .or .u8 128 (m : Int) = ((m + 128 : Nat) : Int) := by
  have h1 := u8_or_nat 128 m (by decide) (by omega)
  have h2 : 128 ||| m = m + 128 := by
    have := Nat.two_pow_add_eq_or_of_lt (i := 7) (b := m) h 1
    rw [show (2 : Nat) ^ 7 * 1 = 128 from rfl] at this
    omega
  rw [h2] at h1
  exact h1
theorem lit_one (n : Nat) (h : n < 256) : (#[.int .u8 (n : Int)] : Array Value).toList = cellsOf [UInt8.ofNat n] := by
  simp only [cellsOf, List.map_cons, List.map_nil, u8_ofNat h]
theorem lit_two (q : Nat) (h : q < 128) : (#[.int .u8 ((q : Int) + 128)] : Array Value).toList = cellsOf [UInt8.ofNat (q + 128)] := lit_one (q + 128) (by omega)
/-- What stands behind some rounds: the bytes so far, and the number that is left. -/
def PutRel (w : World) (l : List UInt8) (m n r : Nat) (v : Value) (wr : World) : Prop :=
  ∃ pre, pre ++ enc r = enc m ∧ wr.ownsRow w.heap.size 5 1 v (n + pre.length) (cellsOf (l ++ pre)) ∧ Below w.heap.size w wr
set_option maxRecDepth 100000 in
set_option maxHeartbeats 400000 in
theorem put_any (A : Option Addr) (n c m : Nat) (l : List UInt8) (w : World) (hl : l.length = n) (hn : n ≤ 70368744177664) (hr : Rd w w.heap.size A l) (hm : m < 18446744073709551616) :
    Calls Try.prog 100 #[.slice A n c, .int .u64 (m : Int)] w (News w (l ++ enc m)) := by
  obtain ⟨i0, hi0, hz0, hz1, hz2⟩ := info_parts u8_info
  have HL := Lib.hid hl
  have HR := Lib.hid hr
  have hten := enc_ten hm
  clear hl hr
  go_enter Try.func100, Try.ntmps100
  go_wp2_with (first
    | (refine wpList_make_own w rfl _ _ 22 rfl w.heap.size 5 i0 _ 1 Try.underlying22 hi0 hz0 hz1 .i64 .i64 ((n : Int) + 10) (n + 10) rfl rfl (by omega) (by rw [hz2]; omega) (by unfold maxLen; omega) (Nat.le_refl _) ?_
       intro w1 hown1 hg1
       have HB1 := Lib.hid ((Below.refl w.heap.size w).grown hg1 (Nat.le_refl _) (by simp))
       have HW1 := Lib.hid hown1
       clear hown1 hg1)
    | (at_builtin
       refine wpList_app rfl (.tmp 10) (.tmp 11) 22 rfl w.heap.size 5 i0 _ Try.underlying22 hi0 hz0 hz1 hz2 rfl (.slice (some ⟨w.heap.size, 0, none⟩) 0 (n + 10)) 0 [] rfl HW1.out w.heap.size A n c l rfl HL.out (HR.out.below HB1.out) (by omega) HB1.out.size ?_
       intro v2 w2 hown2 hg2 hat2
       have HB2 := Lib.hid (below_app HB1.out HW1.out (Nat.le_refl _) HB1.out.size hg2)
       have HW2 := Lib.hid hown2
       clear hat2 hg2 hown2))
  have hrel0 : PutRel w l m n m v2 w2 := ⟨[], rfl, by have := HW2.out; simpa using this, HB2.out⟩
  have HREL := Lib.hid hrel0
  clear hrel0 HW2 HB2
  go_loopw [1, 5] (fun x v wr => ∃ r : Nat, r < 18446744073709551616 ∧ x = .int .u64 r ∧ Hid (PutRel w l m n r v wr)) (fun x _ _ => (intOf x).toNat)
  case atStart => exact ⟨m, hm, rfl, HREL⟩
  case round =>
    clear HREL
    obtain ⟨r, hr, rfl, HP⟩ := hrel
    obtain ⟨pre, hpre, hown, hb⟩ := HP.out
    have hlen : pre.length + (enc r).length = (enc m).length := by rw [← hpre, List.length_append]
    have hpos := enc_pos r
    have HPRE := Lib.hid hpre
    have HW := Lib.hid hown
    have HB := Lib.hid hb
    have hsz := hb.size
    clear hpre hown hb HP
    by_cases hlt : 127 < r
    · have hmask := mask7 r hr
      obtain ⟨q, hq⟩ : ∃ q, q = r % 128 := ⟨_, rfl⟩
      rw [← hq] at hmask
      have hq1 : q < 128 := by omega
      have hor := or128 q hq1
      have HQ := Lib.hid hq
      clear hq
      go_wp2_with (at_builtin
                   refine wpList_app rfl (.tmp 15) (.tmp 20) 22 rfl w.heap.size 5 i0 _ Try.underlying22 hi0 hz0 hz1 hz2 rfl u5 (n + pre.length) (l ++ pre) rfl (HW.out.alloc _) (wr.heap.size + 1) (some ⟨wr.heap.size, 0, none⟩) 1 1 [UInt8.ofNat (q + 128)] rfl rfl (Rd.lit wr _ _ _ (lit_two q hq1)) (by omega) (by simp; omega) ?_
                   intro v3 w3 hown3 hg3 hat3)
      have hb3 := below_app (HB.out.alloc hsz _) (HW.out.alloc _) (Nat.le_refl _) (by simp; omega) hg3
      have hrel3 : PutRel w l m n (r / 128) v3 w3 := by
        have hq := HQ.out
        refine ⟨pre ++ [UInt8.ofNat (q + 128)], ?_, ?_, hb3⟩
        · rw [List.append_assoc, List.singleton_append, hq, ← enc_large (by omega)]
          exact HPRE.out
        · have := hown3
          rw [List.append_assoc] at this
          simpa [Nat.add_assoc] using this
      have HREL := Lib.hid hrel3
      clear hrel3 hb3 hown3 hg3 hat3 hor hmask
      go_roundw
      case rel => exact ⟨r / 128, by omega, by go_num, HREL⟩
      case measure => simp [intOf]; omega
    · have hr128 : r < 256 := by omega
      have hlit := Lib.hid (lit_one r hr128)
      go_wp2_with (at_builtin
                   refine wpList_app rfl (.tmp 24) (.tmp 27) 22 rfl w.heap.size 5 i0 _ Try.underlying22 hi0 hz0 hz1 hz2 rfl u5 (n + pre.length) (l ++ pre) rfl (HW.out.alloc _) (wr.heap.size + 1) (some ⟨wr.heap.size, 0, none⟩) 1 1 [UInt8.ofNat r] rfl rfl (Rd.lit wr _ _ _ hlit.out) (by omega) (by simp; omega) ?_
                   intro v3 w3 hown3 hg3 hat3)
      have hb3 := Lib.hid (below_app (HB.out.alloc hsz _) (HW.out.alloc _) (Nat.le_refl _) (by simp; omega) hg3)
      have hw3 := Lib.hid hown3
      clear hown3 hg3 hat3
      have hw4 : w3.ownsRow w.heap.size 5 1 v3 (n + pre.length + 1) (cellsOf (l ++ enc m)) := by
        have h3 := hw3.out
        rw [List.append_assoc, ← enc_small (by omega : r < 128), HPRE.out] at h3
        exact h3
      have HW4 := Lib.hid hw4
      clear hw4 hw3
      go_ret
      exact ⟨v3, _, rfl, HW4.out, hb3.out⟩

/-- The document's bytes of a number: it calls itself. -/
theorem ref_num_any : ∀ (m : Nat) (w : World), m < 18446744073709551616 → Calls Try.prog 70 #[.int .u64 (m : Int)] w (News w (enc m)) := by
  intro m
  induction m using Nat.strongRecOn with
  | _ m ih =>
    intro w hm
    obtain ⟨i0, hi0, hz0, hz1, hz2⟩ := info_parts u8_info
    by_cases hs : m < 128
    · have hlit := Lib.hid (Rd.lit w _ 5 _ (lit_one m (by omega)))
      have hown : (w.alloc (.cells #[.int .u8 (m : Int)] 5)).ownsRow w.heap.size 5 1 (.slice (some ⟨w.heap.size, 0, none⟩) 1 1) 1 (cellsOf (enc m)) := by
        rw [enc_small hs, ← lit_one m (by omega)]
        exact World.ownsRow_lit w #[.int .u8 (m : Int)] 1 (Nat.le_refl _) (by unfold maxLen; omega) rfl
      have HO := Lib.hid hown
      clear hown ih
      have hd : decide ((m : Int) < 128) = true := by simp; omega
      go_enter Try.func70, Try.ntmps70
      go_wp2
      go_ret
      exact ⟨_, _, rfl, HO.out, (Below.refl _ _).alloc (Nat.le_refl _) _⟩
    · have hd : decide ((m : Int) < 128) = false := by simp; omega
      obtain ⟨q, hq⟩ : ∃ q, q = m % 128 := ⟨_, rfl⟩
      obtain ⟨p, hp⟩ : ∃ p, p = m / 128 := ⟨_, rfl⟩
      have hih := Lib.hid (fun w => ih p (by omega) w (by omega))
      have hq1 : q < 128 := by omega
      have hqz : (m : Int) % 128 = (q : Int) := by omega
      have hpz : (m : Int) / 128 = (p : Int) := by omega
      have henc := Lib.hid (enc_large hs)
      have HQ := Lib.hid hq
      have HP := Lib.hid hp
      clear ih hq hp
      have hown : (w.alloc (.cells #[.int .u8 ((q : Int) + 128)] 5)).ownsRow w.heap.size 5 1 (.slice (some ⟨w.heap.size, 0, none⟩) 1 1) 1 (cellsOf [UInt8.ofNat (q + 128)]) := by
        rw [← lit_two q hq1]
        exact World.ownsRow_lit w #[.int .u8 ((q : Int) + 128)] 1 (Nat.le_refl _) (by unfold maxLen; omega) rfl
      have HO := Lib.hid hown
      clear hown
      have HB0 := Lib.hid ((Below.refl w.heap.size w).alloc (Nat.le_refl _) (.cells #[.int .u8 ((q : Int) + 128)] 5))
      go_enter Try.func70, Try.ntmps70
      go_wp2_with fail
      refine (hih.out _).mono ?_
      intro e w1 h1
      obtain ⟨A, n, c, rfl, hl1, hc1, ho1, hr1, hb1⟩ := h1.open
      have hten := enc_ten (show p < 18446744073709551616 by omega)
      have HL1 := Lib.hid hl1
      have HR1 := Lib.hid hr1
      have HO1 := Lib.hid (own_below HO.out hb1)
      have HB1 := Lib.hid (HB0.out.trans (hb1.mono HB0.out.size))
      clear hl1 hr1 ho1 hb1 h1
      go_wp2_with (at_builtin
                   refine wpList_app rfl (.tmp 12) (.tmp 15) 22 rfl w.heap.size 5 i0 _ Try.underlying22 hi0 hz0 hz1 hz2 rfl (.slice (some ⟨w.heap.size, 0, none⟩) 1 1) 1 [UInt8.ofNat (q + 128)] rfl HO1.out w1.heap.size A n c (enc p) rfl HL1.out HR1.out (by have := HL1.out; omega) HB1.out.size ?_
                   intro v3 w3 hown3 hg3 hat3)
      have hb3 := Lib.hid (below_app HB1.out HO1.out (Nat.le_refl _) HB1.out.size hg3)
      have hw3 := hown3
      rw [List.singleton_append, HQ.out, HP.out, ← henc.out] at hw3
      have HW3 := Lib.hid hw3
      clear hown3 hg3 hat3 hw3
      go_ret
      exact ⟨v3, _, rfl, HW3.out, hb3.out⟩
end Go.Proofs.Ytgnghalcihoaaaa
