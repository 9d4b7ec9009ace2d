/- The same numbers; a nil map takes none; the example. -/
import Derived.Test.YtjphjlbbeammnaaRefT
namespace Go.Proofs.Ytjphjlbbeammnaa
open Go.RowKit Me Ex

theorem same_step {l m : List Int} {j : Nat} (hl : j < l.length) (hm : j < m.length) : (l.drop j = m.drop j) ↔ (l.getD j 0 = m.getD j 0 ∧ l.drop (j + 1) = m.drop (j + 1)) := by
  rw [List.drop_eq_getElem_cons hl, List.drop_eq_getElem_cons hm, List.getD_eq_getElem?_getD, List.getD_eq_getElem?_getD, List.getElem?_eq_getElem hl, List.getElem?_eq_getElem hm]
  exact ⟨fun h => by injection h with h1 h2; exact ⟨h1, h2⟩, fun ⟨h1, h2⟩ => by rw [h2]; exact congrArg (· :: m.drop (j + 1)) h1⟩
set_option maxRecDepth 100000 in
set_option maxHeartbeats 400000 in
theorem same_any {w : World} {S S' : Nat → Prop} {A A' : Option Addr} {n n' c c' : Nat} {l m : List Int} (hl : l.length = n) (hm : m.length = n') (hn : n ≤ 9223372036854775807) (h : Cz w S A (icells l)) (h' : Cz w S' A' (icells m)) :
    Calls Try.prog 21 #[.slice A n c, .slice A' n' c'] w fun e w' => e = .returned (.bool (decide (l = m))) ∧ Below w.heap.size w w' := by
  by_cases hnn : n = n'
  · subst hnn
    have HL := Lib.hid hl
    have HM := Lib.hid hm
    have HA := Lib.hid h
    have HA' := Lib.hid h'
    have d0 : ((n : Int) != (n : Int)) = false := by simp
    obtain ⟨R, hR⟩ : ∃ R, R = decide (l = m) := ⟨_, rfl⟩
    rw [← hR]
    have HR := Lib.hid hR
    clear hl hm h h' hR
    go_enter Try.func21, Try.ntmps21
    go_wp2
    go_loopw [13] (fun i wr => ∃ k : Nat, k ≤ n ∧ i = .int .i64 k ∧ Hid (l = m ↔ l.drop k = m.drop k) ∧ Hid (Below w.heap.size w wr)) (fun i _ => n - (intOf i).toNat)
    case atStart => exact ⟨0, Nat.zero_le _, rfl, Lib.hid Iff.rfl, Lib.hid (Below.refl _ _)⟩
    case round =>
      obtain ⟨k, hk, rfl, HE, HB⟩ := hrel
      by_cases hlt : k < n
      · have h1 : k < l.length := by rw [HL.out]; exact hlt
        have h2 : k < m.length := by rw [HM.out]; exact hlt
        obtain ⟨a, rfl, e0⟩ := cz_at (HA.out.past (HB.out)) h1
        obtain ⟨a', rfl, e1⟩ := cz_at (HA'.out.past (HB.out)) h2
        have hst := same_step h1 h2
        obtain ⟨y, hy⟩ : ∃ y, y = l.getD k 0 := ⟨_, rfl⟩
        obtain ⟨z, hz⟩ : ∃ z, z = m.getD k 0 := ⟨_, rfl⟩
        rw [← hy] at e0 hst
        rw [← hz] at e1 hst
        by_cases hyz : y = z
        · subst hyz
          have d1 : (y == y) = true := by simp
          have HE2 := Lib.hid (show l = m ↔ l.drop (k + 1) = m.drop (k + 1) from HE.out.trans (hst.trans ⟨fun h => h.2, fun h => ⟨rfl, h⟩⟩))
          clear hst hy hz h1 h2
          go_wp2
          go_region
          all_goals
            go_wp2
            go_roundw
            case rel => exact ⟨k + 1, by omega, by go_num, HE2, Lib.hid HB.out.drew⟩
            case measure => simp [intOf]; omega
        · have d1 : (y == z) = false := by simp [hyz]
          have HE2 := Lib.hid (show R = false by rw [HR.out]; exact decide_eq_false fun h => hyz (hst.1 (HE.out.1 h)).1)
          clear hst hy hz h1 h2
          go_wp2
          go_region
          all_goals
            go_wp2
            go_ret
            exact ⟨by rw [HE2.out]; rfl, HB.out.drew⟩
      · have HE2 := Lib.hid (show R = true by
          rw [HR.out]
          refine decide_eq_true (HE.out.2 ?_)
          rw [List.drop_of_length_le (by rw [HL.out]; omega), List.drop_of_length_le (by rw [HM.out]; omega)])
        go_wp2
        go_ret
        exact ⟨by rw [HE2.out]; rfl, HB.out⟩
  · have d0 : ((n : Int) == (n' : Int)) = false := by simp; omega
    have HE := Lib.hid (show decide (l = m) = false from decide_eq_false fun h => hnn (by rw [← hl, ← hm, h]))
    clear hl hm h h'
    go_enter Try.func21, Try.ntmps21
    go_wp2
    go_ret
    exact ⟨by rw [HE.out]; rfl, Below.refl _ _⟩
set_option maxRecDepth 100000 in
theorem take_nil (w : World) (i : Int) : Calls Try.prog 15 #[.pointer none, .int .i64 i] w fun e w' => e = .returned (.tuple #[.slice none 0 0, .int .i64 (if i < 0 then 1 else if 0 < i then 7 else 0)]) ∧ w = w' := by
  have HF := Lib.hid (free_nil w)
  by_cases h0 : i < 0
  · have d0 : decide (i < 0) = true := by simp; omega
    rw [if_pos h0]
    go_enter Try.func15, Try.ntmps15
    go_wp2
    exact bodyPost_ret (v := .tuple #[.slice none 0 0, .int .i64 1]) (by simp [results, Try.results15, go_sem]) rfl ⟨rfl, rfl⟩
  · have d0 : decide (i < 0) = false := by simp; omega
    rw [if_neg h0]
    by_cases h1 : 0 < i
    · have d1 : decide (0 < i) = true := by simp; omega
      rw [if_pos h1]
      go_enter Try.func15, Try.ntmps15
      go_wp2_with (go_at_call 12; refine HF.out.mono ?_; rintro e w' ⟨rfl, rfl⟩)
      exact bodyPost_ret (v := .tuple #[.slice none 0 0, .int .i64 7]) (by simp [results, Try.results15, go_sem]) rfl ⟨rfl, rfl⟩
    · have h2 : i = 0 := by omega
      subst h2
      rw [if_neg h1]
      go_enter Try.func15, Try.ntmps15
      go_wp2_with (first | (go_at_call 12; refine HF.out.mono ?_; rintro e w' ⟨rfl, rfl⟩) | fail)
      go_loopw [6] (fun x wr => x = .slice none 0 0 ∧ w = wr) (fun x _ => 0)
      case atStart => exact ⟨rfl, rfl⟩
      case round =>
        obtain ⟨rfl, rfl⟩ := hrel
        go_wp2
        exact bodyPost_ret (v := .tuple #[.slice none 0 0, .int .i64 0]) (by simp [results, Try.results15, go_sem]) rfl ⟨rfl, rfl⟩
/-- A row of numbers that was just written out. -/
theorem cz_lit {w : World} {S : Nat → Prop} {l : List Int} {cs : Array Value} {t : TypeId} {H : Nat} (hH : w.heap.size = H) (hc : cs.toList = icells l) (hS : ¬ S H) : Cz (w.alloc (.cells cs t)) S (some ⟨H, 0, none⟩) (icells l) := fun hn => by
  subst hH
  obtain ⟨a, e, hb, hcell⟩ := Cs.lit w cs t (by rw [hc]; exact hn)
  injection e with e
  subst e
  exact ⟨_, rfl, by simp, hS, fun i v hv => hcell i v (by rw [hc]; exact hv)⟩
theorem MapAt.below {w w' : World} {B D : Nat} {k : List Bool} {own : Nat → Prop} (h : MapAt w B D k own) {W : World} (hw : Below B W w) (ho : Out own w w') : Below B W w' :=
  hw.trans (ho.below (fun j _ hj => (h.lt hj).1) (by have := h.lt h.self; omega))
set_option maxRecDepth 100000 in
set_option maxHeartbeats 400000 in
theorem awake_any (w : World) : Calls Try.prog 7 #[] w fun e w' => e = .returned (.bool true) ∧ Below w.heap.size w w' := by
  go_enter Try.func7, Try.ntmps7
  go_wp2_with fail
  refine (new_any 3 w).mono ?_
  rintro e w1 ⟨D, own, rfl, hm, hb⟩
  have HM := Lib.hid hm
  have HB := Lib.hid hb
  clear hm hb
  go_wp2_with fail
  have hba : Below w1.heap.size w1 (w1.alloc (.cells #[.int .i64 1] 3)) := (Below.refl _ _).alloc (Nat.le_refl _) _
  refine (hold_any (HM.out.past hba) (some ⟨w1.heap.size, 0, none⟩) 1 1 [1] rfl (by omega) (by omega) (cz_lit rfl rfl (fun h => by have := (HM.out.lt h).2; omega))).mono ?_
  rintro e w2 ⟨rfl, hm, ho⟩
  rw [show turnD (List.replicate (min (max (3 : Int) 0) 65536).toNat false) [1] true = ([false, true, false], 0) by decide] at hm ⊢
  have hb2 := MapAt.below (HM.out.past hba) (HB.out.trans (hba.mono HB.out.size)) ho
  have HM2 := Lib.hid hm
  have HB2 := Lib.hid hb2
  clear hm hb2 hba ho
  go_wp2_with fail
  refine (take_any HM2.out 2).mono ?_
  rintro e w3 ⟨A, n, c, rfl, hn, hc, -, hcz, -, hm, ho⟩
  rw [show takeD [false, true, false] 2 = ([true, true, true], [0, 2], 0) by decide] at hn hcz ⊢
  have hb3 := MapAt.below HM2.out HB2.out ho
  have hn2 : n = 2 := hn.symm
  subst hn2
  obtain ⟨g, cap, hv, -, -⟩ := hcz.form (by omega)
  injection hv with hv1 hv2 hv3
  subst hv1 hv3
  have e0 : w3.cell? ⟨g, 0, none⟩ = some (.int .i64 0) := by rw [hcz.cellAt 0 (by omega)]; rfl
  have e1 : w3.cell? ⟨g, 1, none⟩ = some (.int .i64 2) := by rw [hcz.cellAt 1 (by omega)]; rfl
  have HB3 := Lib.hid hb3
  clear hb3 hm ho hcz hn
  go_wp2
  go_ret
  exact ⟨rfl, HB3.out⟩
end Go.Proofs.Ytjphjlbbeammnaa
