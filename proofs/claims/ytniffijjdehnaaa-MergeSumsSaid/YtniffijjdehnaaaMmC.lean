/- Numbers are compared, one behind the other: slices.Compare at uint32. -/
import Derived.Test.YtniffijjdehnaaaMmB
namespace Go.Proofs.Ytniffijjdehnaaa
open Go.RowKit Me Tx Ed Mg

/-- Which of two numbers is the lower one. -/
def cmpN (a b : Nat) : Int := if a < b then -1 else if b < a then 1 else 0
def cmpL : List Nat → List Nat → Int
  | [], [] => 0
  | [], _ :: _ => -1
  | _ :: _, [] => 1
  | a :: l, b :: m => if cmpN a b = 0 then cmpL l m else cmpN a b
set_option maxRecDepth 100000 in
theorem isnan_any (a : Nat) (w : World) : Calls Try.prog 43 #[.int .u32 (a : Int)] w fun e w' => e = .returned (.bool false) ∧ w' = w := by
  have d0 : ((a : Int) != (a : Int)) = false := by simp
  go_enter Try.func43, Try.ntmps43
  go_wp2
  go_ret
  exact ⟨rfl, rfl⟩
set_option maxRecDepth 100000 in
set_option maxHeartbeats 1000000 in
theorem cmpc_any (a b : Nat) (w : World) : Calls Try.prog 40 #[.int .u32 (a : Int), .int .u32 (b : Int)] w fun e w' => e = .returned (.int .i64 (cmpN a b)) ∧ w' = w := by
  have HA := Lib.hid (isnan_any a)
  have HB := Lib.hid (isnan_any b)
  by_cases h1 : a < b
  · have h1' : (a : Int) < (b : Int) := by omega
    have HE := Lib.hid (show cmpN a b = -1 by unfold cmpN; rw [if_pos h1])
    clear h1
    go_enter Try.func40, Try.ntmps40
    go_wp2_with fail
    refine (HA.out _).mono ?_
    rintro e w1 ⟨rfl, rfl⟩
    go_wp2_with fail
    refine (HB.out _).mono ?_
    rintro e w1 ⟨rfl, rfl⟩
    go_wp2
    go_ret
    exact ⟨by rw [HE.out]; rfl, rfl⟩
  · have h1' : ¬ (a : Int) < (b : Int) := by omega
    by_cases h2 : b < a
    · have h2' : (b : Int) < (a : Int) := by omega
      have HE := Lib.hid (show cmpN a b = 1 by unfold cmpN; rw [if_neg h1, if_pos h2])
      clear h1 h2
      go_enter Try.func40, Try.ntmps40
      go_wp2_with fail
      refine (HA.out _).mono ?_
      rintro e w1 ⟨rfl, rfl⟩
      go_wp2_with fail
      refine (HB.out _).mono ?_
      rintro e w1 ⟨rfl, rfl⟩
      go_wp2
      go_ret
      exact ⟨by rw [HE.out]; rfl, rfl⟩
    · have h2' : ¬ (b : Int) < (a : Int) := by omega
      have HE := Lib.hid (show cmpN a b = 0 by unfold cmpN; rw [if_neg h1, if_neg h2])
      clear h1 h2
      go_enter Try.func40, Try.ntmps40
      go_wp2_with fail
      refine (HA.out _).mono ?_
      rintro e w1 ⟨rfl, rfl⟩
      go_wp2_with fail
      refine (HB.out _).mono ?_
      rintro e w1 ⟨rfl, rfl⟩
      go_wp2
      go_ret
      exact ⟨by rw [HE.out]; rfl, rfl⟩
/-- The cells of numbers. -/
def nCells (l : List Nat) : List Value := l.map fun (a : Nat) => .int .u32 (a : Int)
theorem cs_at {w : World} {B : Nat} {A : Option Addr} {l : List Nat} (h : Cs w B A (nCells l)) {k : Nat} (hk : k < l.length) : ∃ (a : Addr) (x : Nat), A = some a ∧ l[k]? = some x ∧ a.block < B ∧ w.cell? (a.add k) = some (.int .u32 (x : Int)) := by
  obtain ⟨a, e, hb, hc⟩ := h (by unfold nCells; rw [List.length_map]; omega)
  exact ⟨a, l[k], e, List.getElem?_eq_getElem hk, hb, hc k _ (by unfold nCells; rw [List.getElem?_map, List.getElem?_eq_getElem hk]; rfl)⟩
theorem cmpL_drop {l m : List Nat} {k a b : Nat} (ha : l[k]? = some a) (hb : m[k]? = some b) : cmpL (l.drop k) (m.drop k) = if cmpN a b = 0 then cmpL (l.drop (k + 1)) (m.drop (k + 1)) else cmpN a b := by
  obtain ⟨h1, h2⟩ := List.getElem?_eq_some_iff.1 ha
  obtain ⟨h3, h4⟩ := List.getElem?_eq_some_iff.1 hb
  rw [List.drop_eq_getElem_cons h1, List.drop_eq_getElem_cons h3, h2, h4, cmpL]
set_option maxRecDepth 100000 in
set_option maxHeartbeats 1000000 in
theorem compare_any (A A' : Option Addr) (n c c' : Nat) (l m : List Nat) (w : World) (hn : n ≤ 1000000) (hl : l.length = n) (hm : m.length = n) (h : Cs w w.heap.size A (nCells l)) (h' : Cs w w.heap.size A' (nCells m)) :
    Calls Try.prog 37 #[.slice A n c, .slice A' n c'] w fun e w' => e = .returned (.int .i64 (cmpL l m)) ∧ w' = w := by
  have HL := Lib.hid hl
  have HM := Lib.hid hm
  have HA := Lib.hid h
  have HA' := Lib.hid h'
  clear hl hm h h'
  go_enter Try.func37, Try.ntmps37
  go_wp2
  go_loopw [11] (fun i wr => ∃ k : Nat, k ≤ n ∧ i = .int .i64 (k : Int) ∧ Hid (cmpL l m = cmpL (l.drop k) (m.drop k)) ∧ wr = w) (fun i _ => n - (intOf i).toNat)
  case atStart => exact ⟨0, Nat.zero_le _, rfl, Lib.hid rfl, rfl⟩
  case round =>
    obtain ⟨k, hk, rfl, HE, rfl⟩ := hrel
    by_cases hlt : k < n
    · obtain ⟨a, x, rfl, hx, -, h1⟩ := cs_at HA.out (k := k) (by rw [HL.out]; exact hlt)
      obtain ⟨a', y, rfl, hy, -, h2⟩ := cs_at HA'.out (k := k) (by rw [HM.out]; exact hlt)
      have HS := Lib.hid (HE.out.trans (cmpL_drop hx hy))
      have HC := Lib.hid (cmpc_any x y)
      obtain ⟨z, hz⟩ : ∃ z, z = cmpN x y := ⟨_, rfl⟩
      rw [← hz] at HC HS
      clear hx hy hz
      by_cases h0 : z = 0
      · have HS2 := Lib.hid (show cmpL l m = cmpL (l.drop (k + 1)) (m.drop (k + 1)) by rw [HS.out, if_pos h0])
        have d0 : (z != 0) = false := by simp [h0]
        clear h0
        go_wp2_with fail
        refine (HC.out _).mono ?_
        rintro e w1 ⟨rfl, rfl⟩
        go_wp2
        go_roundw
        case rel => exact ⟨k + 1, by omega, by go_num, HS2, by simp⟩
        case measure => simp [intOf]; omega
      · have HS2 := Lib.hid (show cmpL l m = z by rw [HS.out, if_neg h0])
        have d0 : (z != 0) = true := by simp [h0]
        clear h0
        go_wp2_with fail
        refine (HC.out _).mono ?_
        rintro e w1 ⟨rfl, rfl⟩
        go_wp2
        go_ret
        exact ⟨by rw [HS2.out]; rfl, rfl⟩
    · obtain rfl : k = n := by omega
      have HS2 := Lib.hid (show cmpL l m = 0 by rw [HE.out, List.drop_of_length_le (Nat.le_of_eq HL.out), List.drop_of_length_le (Nat.le_of_eq HM.out)]; rfl)
      go_wp2
      go_ret
      exact ⟨by rw [HS2.out]; rfl, rfl⟩
/-- An edge's numbers. -/
def edL (x : EdD) : List Nat := [x.src, x.dst, x.wgt]
theorem cmpL_low (x y : EdD) : decide (cmpL (edL x) (edL y) < 0) = lowE x y := by
  unfold edL lowE cmpL cmpL cmpL cmpL cmpN
  rw [Bool.eq_iff_iff]
  simp only [Bool.or_eq_true, Bool.and_eq_true, decide_eq_true_eq]
  split <;> split <;> try split
  all_goals
    repeat' (first | omega | split)
    all_goals omega
end Go.Proofs.Ytniffijjdehnaaa
