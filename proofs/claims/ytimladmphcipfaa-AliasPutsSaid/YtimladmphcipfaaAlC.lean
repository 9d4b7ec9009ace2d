/- How many of the draws select a neighbour: Count, the program's and the document's. -/
import Derived.Test.YtimladmphcipfaaAlA
import Derived.RegionTactic
namespace Go.Proofs.Ytimladmphcipfaa
open Go.RowKit Me Va Al

theorem shares_any (cut oth w : Nat) (hc : cut < 18446744073709551616) (hw : w < 18446744073709551616) (W : World) :
    Calls Try.prog 31 #[.agg #[.int .u64 (cut : Int), .int .u32 (oth : Int)], .int .u64 (w : Int)] W fun e W' => e = .returned (.tuple #[.int .u64 ((min cut w : Nat) : Int), .int .u64 ((w - min cut w : Nat) : Int)]) ∧ Below W.heap.size W W' := by
  obtain ⟨m, hm⟩ : ∃ m, m = min cut w := ⟨_, rfl⟩
  obtain ⟨r, hr⟩ : ∃ r, r = w - m := ⟨_, rfl⟩
  rw [← hm, ← hr]
  have e1 : (w : Int) - (m : Int) = (r : Int) := by omega
  have hr2 : r < 18446744073709551616 := by omega
  have HB := Lib.hid (show Below W.heap.size W (W.alloc (.cells #[.int .u64 (cut : Int), .int .u32 (oth : Int)] 40)) from (Below.refl _ _).alloc (Nat.le_refl _) _)
  have hmm : min (cut : Int) (w : Int) = (m : Int) := by omega
  clear hr
  by_cases h : cut ≤ w
  · have h2 : (cut : Int) ≤ (w : Int) := by omega
    have h3 : m = cut := by omega
    subst h3
    have h4 : ¬ (w : Int) < (m : Int) := by omega
    clear hm
    go_enter Try.func31, Try.ntmps31
    go_wp2
    go_ret2
    exact ⟨rfl, HB.out⟩
  · have h2 : ¬ (cut : Int) ≤ (w : Int) := by omega
    have h3 : m = w := by omega
    subst h3
    have h4 : (m : Int) < (cut : Int) := by omega
    clear hm
    go_enter Try.func31, Try.ntmps31
    go_wp2
    go_ret2
    exact ⟨rfl, HB.out⟩
/-- The remainder modulo 2^64. -/
def wr64 (x : Nat) : Nat := x % 18446744073709551616
theorem wr64_lt (x : Nat) : wr64 x < 18446744073709551616 := Nat.mod_lt _ (by decide)
theorem wr64_add (x y : Nat) : IntKind.u64.wrap ((wr64 x : Int) + (y : Int)) = (wr64 (x + y) : Int) := by
  rw [IntKind.wrap_u64]
  unfold wr64
  omega
theorem wr64_id {x : Nat} (h : x < 18446744073709551616) : wr64 x = x := Nat.mod_eq_of_lt h
/-- How many of the draws select the neighbour with this number; it may be any. -/
def cntZ (w : Nat) (to : Int) (T : List CelD) : Nat := if 0 ≤ to then Al.cnt w to.toNat T else 0
theorem cntZ_take {w : Nat} {to : Int} {T : List CelD} {i : Nat} {c : CelD} (h : T[i]? = some c) :
    cntZ w to (T.take (i + 1)) = cntZ w to (T.take i) + ((if (i : Int) = to then min c.cut w else 0) + if (c.oth : Int) = to then w - min c.cut w else 0) := by
  unfold cntZ
  by_cases h0 : 0 ≤ to
  · rw [if_pos h0, if_pos h0, cnt_take h]
    unfold share
    have e1 : (i = to.toNat) ↔ ((i : Int) = to) := by omega
    have e2 : (c.oth = to.toNat) ↔ ((c.oth : Int) = to) := by omega
    simp only [e1, e2]
  · rw [if_neg h0, if_neg h0, if_neg (by omega), if_neg (by omega)]
theorem cntZ_nat (w k : Nat) (T : List CelD) : cntZ w (k : Int) T = Al.cnt w k T := by unfold cntZ; rw [if_pos (by omega)]; rfl
set_option maxRecDepth 100000 in
set_option maxHeartbeats 2000000 in
theorem count_any (A : Option Addr) (n c : Nat) (T : List CelD) (w : Nat) (to : Int) (W : World) (hl : T.length = n) (hn : n ≤ 1000000) (hw : w < 18446744073709551616) (hr : Cels W W.heap.size A T) (hto : -9223372036854775808 ≤ to ∧ to ≤ 9223372036854775807) :
    Calls Try.prog 17 #[.slice A n c, .int .u64 (w : Int), .int .i64 to] W fun e W' => e = .returned (.int .u64 (wr64 (cntZ w to T) : Int)) ∧ Below W.heap.size W W' := by
  have HL := Lib.hid hl
  have HR := Lib.hid hr
  have HS := Lib.hid (fun cut oth hc W => shares_any cut oth w hc hw W)
  clear hl hr
  go_enter Try.func17, Try.ntmps17
  go_wp2
  go_loopw [7, 13] (fun x i wr => ∃ k y : Nat, k ≤ n ∧ i = .int .i64 k ∧ x = .int .u64 (y : Int) ∧ y < 18446744073709551616 ∧ Hid (y = wr64 (cntZ w to (T.take k))) ∧ Hid (Below W.heap.size W wr)) (fun _ i _ => n - (intOf i).toNat)
  case atStart => exact ⟨0, 0, Nat.zero_le _, rfl, rfl, by omega, Lib.hid (by unfold cntZ; rw [List.take_zero]; split <;> rfl), Lib.hid (Below.refl _ _)⟩
  case round =>
    obtain ⟨k, y, hk, rfl, rfl, hy, HE, HB⟩ := hrel
    by_cases hlt : k < n
    · have hlt' : k < T.length := by rw [HL.out]; exact hlt
      have hsz := HB.out.size
      obtain ⟨a, p, rfl, hp, ha, h0, h1, h2, h3⟩ := (HR.out.below HB.out).at hlt'
      have HST := Lib.hid (cntZ_take (w := w) (to := to) hp)
      obtain ⟨m, hm⟩ : ∃ m, m = min p.cut w := ⟨_, rfl⟩
      obtain ⟨r, hr⟩ : ∃ r, r = w - m := ⟨_, rfl⟩
      have HMR := Lib.hid (And.intro hm hr)
      have HSH := Lib.hid (fun W => HS.out p.cut p.oth h2 W)
      rw [← hm, ← hr] at HSH
      rw [← hm, ← hr] at HST
      have hab : a.block < wr.heap.size := by omega
      clear hp hlt' hm hr
      have HCF := Lib.hid (show ∀ W2, Below wr.heap.size wr W2 → W2.cell? ⟨(a.add (k * 2)).block, (a.add (k * 2)).off + 1, none⟩ = some (.int .u32 (p.oth : Int)) from fun W2 hW => (hW.cell (p := ⟨(a.add (k * 2)).block, (a.add (k * 2)).off + 1, none⟩) (by show (a.add (k * 2)).block < _; rw [block_add]; exact hab)).trans h1)
      go_wp2_with fail
      refine (HSH.out wr).mono ?_
      rintro e w2 ⟨rfl, hb2⟩
      have g1 := HCF.out w2 hb2
      have HB2 := Lib.hid (HB.out.trans (hb2.mono hsz))
      clear h0 h1 hb2
      obtain ⟨y1, hy1⟩ : ∃ y1, y1 = wr64 (cntZ w to (T.take k) + if (k : Int) = to then m else 0) := ⟨_, rfl⟩
      obtain ⟨y2, hy2⟩ : ∃ y2, y2 = wr64 (cntZ w to (T.take (k + 1))) := ⟨_, rfl⟩
      have hy1l : y1 < 18446744073709551616 := by rw [hy1]; exact wr64_lt _
      have hy2l : y2 < 18446744073709551616 := by rw [hy2]; exact wr64_lt _
      have q1 : (k : Int) = to → IntKind.u64.wrap ((y : Int) + (m : Int)) = (y1 : Int) := fun e => by rw [HE.out, wr64_add, hy1, if_pos e]
      have q1' : ¬ (k : Int) = to → y1 = y := fun e => by rw [hy1, HE.out, if_neg e, Nat.add_zero]
      have q2 : (p.oth : Int) = to → IntKind.u64.wrap ((y1 : Int) + (r : Int)) = (y2 : Int) := fun e => by rw [hy1, wr64_add, hy2, HST.out, if_pos e, Nat.add_assoc]
      have q2' : ¬ (p.oth : Int) = to → y2 = y1 := fun e => by rw [hy1, hy2, HST.out, if_neg e, Nat.add_zero]
      have HY2 := Lib.hid hy2
      clear hy1 hy2
      by_cases c1 : (k : Int) = to
      · have q := q1 c1
        have d1 : ((k : Int) == to) = true := by simp [c1]
        clear q1 q1'
        by_cases c2 : (p.oth : Int) = to
        · have q3 := q2 c2
          have d2 : ((p.oth : Int) == to) = true := by simp [c2]
          clear q2 q2' c1 c2
          go_wp2
          go_roundw
          case rel => exact ⟨k + 1, y2, by omega, by go_num, rfl, hy2l, HY2, HB2⟩
          case measure => simp [intOf]; omega
        · have q3 := q2' c2
          subst q3
          have d2 : ((p.oth : Int) == to) = false := by simp [c2]
          clear q2 q2' c1 c2
          go_wp2
          go_roundw
          case rel => exact ⟨k + 1, _, by omega, by go_num, rfl, hy2l, HY2, HB2⟩
          case measure => simp [intOf]; omega
      · have q := q1' c1
        subst q
        have d1 : ((k : Int) == to) = false := by simp [c1]
        clear q1 q1'
        by_cases c2 : (p.oth : Int) = to
        · have q3 := q2 c2
          have d2 : ((p.oth : Int) == to) = true := by simp [c2]
          clear q2 q2' c1 c2
          go_wp2
          go_roundw
          case rel => exact ⟨k + 1, y2, by omega, by go_num, rfl, hy2l, HY2, HB2⟩
          case measure => simp [intOf]; omega
        · have q3 := q2' c2
          subst q3
          have d2 : ((p.oth : Int) == to) = false := by simp [c2]
          clear q2 q2' c1 c2
          go_wp2
          go_roundw
          case rel => exact ⟨k + 1, _, by omega, by go_num, rfl, hy2l, HY2, HB2⟩
          case measure => simp [intOf]; omega
    · have HE2 := Lib.hid (show y = wr64 (cntZ w to T) by rw [HE.out, List.take_of_length_le (by rw [HL.out]; omega)])
      go_wp2
      go_ret
      exact ⟨ret_int (by rw [HE2.out]), HB.out⟩
end Go.Proofs.Ytimladmphcipfaa
