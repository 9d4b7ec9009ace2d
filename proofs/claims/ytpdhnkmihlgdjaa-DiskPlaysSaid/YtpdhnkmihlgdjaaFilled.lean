/- A block of a byte; the example. -/
import Derived.Test.YtpdhnkmihlgdjaaDRead
import Derived.Test.YtpdhnkmihlgdjaaLaw
namespace Go.Proofs.Ytpdhnkmihlgdjaa
open Go.RowKit Me Rw Ds

/-- A byte of a block that is filled. -/
def fillU (c : UInt8) (k : Nat) : UInt8 := c + UInt8.ofNat (k / 64)
def fillTo (c : UInt8) (n : Nat) : List UInt8 := (List.range n).map (fillU c)
theorem fillTo_succ (c : UInt8) (n : Nat) : fillTo c (n + 1) = fillTo c n ++ [fillU c n] := by simp [fillTo, List.range_succ]
theorem fillTo_length (c : UInt8) (n : Nat) : (fillTo c n).length = n := by simp [fillTo]
theorem fillTo_take (c : UInt8) {m n : Nat} (h : m ≤ n) : (fillTo c n).take m = fillTo c m := by
  unfold fillTo
  rw [← List.map_take, List.take_range, Nat.min_eq_left h]
/-- How many bytes. -/
def fillN (short : Bool) : Nat := if short then 127 else 128
theorem own_front {w : World} {base : Nat} {e : TypeId} {g n m cap : Nat} {l : List UInt8} (h : w.ownsRow base e 1 (.slice (some ⟨g, 0, none⟩) n cap) n (cellsOf l)) (hm : m ≤ n) : w.ownsRow base e 1 (.slice (some ⟨g, 0, none⟩) m cap) m (cellsOf (l.take m)) := by
  obtain ⟨h1, h2⟩ := h
  rcases h2 with ⟨h, -⟩ | ⟨g', cap', cur, hv, hb, hg, h3, h4, h5, h6⟩
  · cases h
  · injection hv with e1 e2 e3
    subst e3
    refine ⟨?_, .inr ⟨g', cap, cur, by rw [e1], hb, hg, by omega, h4, h5, ?_⟩⟩
    · rw [cellsOf_length, List.length_take]
      rw [cellsOf_length] at h1
      omega
    · have : cellsOf (l.take m) = (cellsOf l).take m := by simp [cellsOf, List.map_take]
      rw [this, ← h6, List.take_take]
      congr 1
      omega
set_option maxRecDepth 100000 in
set_option maxHeartbeats 1000000 in
theorem filled_any (c : UInt8) (short : Bool) (w : World) : Calls Try.prog 17 #[.int .u8 (c.toNat : Int), .bool short] w (News w (fillTo c (fillN short))) := by
  obtain ⟨i0, hi0, hz0, hz1, hz2⟩ := info_parts u8_info
  have hc8 := c.toNat_lt
  have HOW0 := Lib.hid (own_empty w w.heap.size 5 (Nat.le_refl _))
  have HB0 := Lib.hid (show Below w.heap.size w (w.alloc (.cells #[] 5)) from (Below.refl _ _).alloc (Nat.le_refl _) _)
  go_enter Try.func17, Try.ntmps17
  go_wp2
  go_loopw [5, 6] (fun v i wr => ∃ k : Nat, k ≤ 128 ∧ i = .int .i64 k ∧ Hid (wr.ownsRow w.heap.size 5 1 v k (cellsOf (fillTo c k))) ∧ Hid (Below w.heap.size w wr)) (fun _ i _ => 128 - (intOf i).toNat)
  case atStart => exact ⟨0, Nat.zero_le _, rfl, HOW0, HB0⟩
  case round =>
    obtain ⟨k, hk, rfl, HW, HB⟩ := hrel
    obtain ⟨A, cap, rfl⟩ := own_slice HW.out
    by_cases hlt : k < 128
    · obtain ⟨q, hq⟩ : ∃ q, q = k / 64 := ⟨_, rfl⟩
      have t1 : (k : Int).tdiv 64 = (q : Int) := by rw [Int.tdiv_eq_ediv_of_nonneg (by omega)]; omega
      have hq2 : q < 2 := by omega
      have t2 : IntKind.u8.wrap (q : Int) = (q : Int) := by simp [IntKind.wrap, IntKind.bits, IntKind.signed]; omega
      obtain ⟨x, hx⟩ : ∃ x, x = fillU c k := ⟨_, rfl⟩
      have t3 : IntKind.u8.wrap ((c.toNat : Int) + (q : Int)) = (x.toNat : Int) := by
        rw [hx]
        unfold fillU
        rw [← hq, UInt8.toNat_add, UInt8.toNat_ofNat']
        simp [IntKind.wrap, IntKind.bits, IntKind.signed]
      have hx8 := x.toNat_lt
      have HX := Lib.hid (show fillTo c (k + 1) = fillTo c k ++ [x] by rw [fillTo_succ, hx])
      have HR := Lib.hid (Rd.lit wr #[.int .u8 (x.toNat : Int)] 5 [x] rfl)
      have hk1 : (k + 1 : Int) ≤ 128 := by omega
      have hsz := HB.out.size
      clear hq hx
      go_wp2_with (at_builtin
                   refine wpList_app rfl (.tmp 12) (.tmp 18) 38 rfl w.heap.size 5 i0 _ Try.underlying38 hi0 hz0 hz1 hz2 rfl (.slice A k cap) k (fillTo c k) rfl (HW.out.alloc _) (wr.heap.size + 1) (some ⟨wr.heap.size, 0, none⟩) 1 1 [x] rfl rfl HR.out (by omega) (by simp; omega) ?_
                   intro v1 w1 hown1 hg1 hat1
                   have HB1 := Lib.hid (below_app (HB.out.alloc hsz _) (HW.out.alloc _) (Nat.le_refl _) (by simp; omega) hg1)
                   have HW1 := Lib.hid hown1
                   clear hat1 hg1 hown1)
      go_roundw
      case rel => exact ⟨k + 1, by omega, by go_num, by rw [HX.out]; exact HW1, HB1⟩
      case measure => simp [intOf]; omega
    · have hkk : k = 128 := by omega
      subst hkk
      obtain ⟨g, cap', hv, -, -⟩ := HW.out.form (by omega)
      injection hv with hA _ hcap
      subst hA hcap
      have h127 := Lib.hid (own_front (m := 127) HW.out (by omega))
      have hcap := own_cap HW.out (by omega)
      cases short with
      | true =>
        have q1 : (127 : Int) ≤ (cap : Int) := by omega
        go_wp2
        go_ret
        refine ⟨_, 127, rfl, ?_, HB.out⟩
        have := h127.out
        rw [fillTo_take c (by omega)] at this
        exact this
      | false =>
        go_wp2
        go_ret
        exact ⟨_, 128, rfl, HW.out, HB.out⟩
end Go.Proofs.Ytpdhnkmihlgdjaa
