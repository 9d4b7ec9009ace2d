/- The document's functions: how many count, how many are free, blocks turned. -/
import Derived.Test.YtjphjlbbeammnaaTake
import Derived.Test.YtjphjlbbeammnaaDup
namespace Go.Proofs.Ytjphjlbbeammnaa
open Go.RowKit Me Ex

/-- As it counts. -/
def countN (i : Int) : Nat := (min (max i 0) 65536).toNat
set_option maxRecDepth 100000 in
theorem rcount_any (i : Int) (w : World) : Calls Try.prog 9 #[.int .i64 i] w fun e w' => e = .returned (.int .i64 (countN i : Int)) ∧ w = w' := by
  have hway : (decide (i < 0) = true ∧ (0 : Int) = (countN i : Int)) ∨ (decide (i < 0) = false ∧ decide (65536 < i) = true ∧ (65536 : Int) = (countN i : Int)) ∨ (decide (i < 0) = false ∧ decide (65536 < i) = false ∧ i = (countN i : Int)) := by
    unfold countN
    by_cases h1 : i < 0
    · exact .inl ⟨by simp; omega, by omega⟩
    · by_cases h2 : 65536 < i
      · exact .inr (.inl ⟨by simp; omega, by simp; omega, by omega⟩)
      · exact .inr (.inr ⟨by simp; omega, by simp; omega, by omega⟩)
  generalize countN i = n at *
  rcases hway with ⟨h1, h3⟩ | ⟨h1, h2, h3⟩ | ⟨h1, h2, h3⟩
  all_goals
    have H3 := Lib.hid h3
    clear h3
    go_enter Try.func9, Try.ntmps9
    go_wp2
    go_ret
    exact ⟨by rw [← H3.out]; rfl, rfl⟩
theorem cz_bool {w : World} {S : Nat → Prop} {A : Option Addr} {k : List Bool} (h : Cz w S A (bcells k)) {j : Nat} (hj : j < k.length) : ∃ a, A = some a ∧ w.cell? (a.add j) = some (.bool (k.getD j false)) := by
  obtain ⟨a, e, -, -, hc⟩ := h (by rw [bcells_length]; omega)
  exact ⟨a, e, hc j _ (bcells_get (getD_of hj false))⟩
set_option maxRecDepth 100000 in
set_option maxHeartbeats 400000 in
theorem rfree_any {w : World} {S : Nat → Prop} {A : Option Addr} {n c : Nat} {k : List Bool} (hl : k.length = n) (hn : n ≤ 65536) (h : Cz w S A (bcells k)) :
    Calls Try.prog 13 #[.slice A n c] w fun e w' => e = .returned (.int .i64 (free k : Int)) ∧ w = w' := by
  have HN := Lib.hid hl
  have HH := Lib.hid h
  clear hl h
  go_enter Try.func13, Try.ntmps13
  go_wp2
  go_loopw [7, 3] (fun x y wr => ∃ j f : Nat, x = .int .i64 (j : Int) ∧ y = .int .i64 (f : Int) ∧ j ≤ n ∧ f ≤ j ∧ Hid (f = free (k.take j)) ∧ w = wr) (fun x _ _ => n - (intOf x).toNat)
  case atStart => exact ⟨0, 0, rfl, rfl, Nat.zero_le _, Nat.le_refl _, Lib.hid rfl, rfl⟩
  case round =>
    obtain ⟨j, f, rfl, rfl, hjn, hfj, HF, rfl⟩ := hrel
    by_cases hlt : j < n
    · have hj : j < k.length := by rw [HN.out]; exact hlt
      obtain ⟨a, rfl, e1⟩ := cz_bool HH.out hj
      have ht := free_take (getD_of hj false)
      rw [← HF.out] at ht
      cases hb : k.getD j false with
      | true =>
        rw [hb] at e1 ht
        have HT := Lib.hid ht
        clear ht hj hb
        go_wp2
        go_roundw
        case rel => exact ⟨j + 1, f, by go_num, rfl, by omega, by omega, Lib.hid (by rw [HT.out]; rfl), trivial⟩
        case measure => simp [intOf]; omega
      | false =>
        rw [hb] at e1 ht
        have HT := Lib.hid ht
        clear ht hj hb
        go_wp2
        go_roundw
        case rel => exact ⟨j + 1, f + 1, by go_num, by go_num, by omega, by omega, Lib.hid (by rw [HT.out]; rfl), trivial⟩
        case measure => simp [intOf]; omega
    · have hjn' : j = n := by omega
      subst hjn'
      have hf := HF.out
      rw [List.take_of_length_le (by rw [HN.out]; exact Nat.le_refl _)] at hf
      have HF2 := Lib.hid hf
      clear hf
      go_wp2
      go_ret
      exact ⟨by rw [HF2.out]; rfl, rfl⟩
/-- Blocks and an error's number are answered. -/
def RTurnPost (w : World) (S : Nat → Prop) (r : List Bool × Int) (e : Ending) (w' : World) : Prop :=
  ∃ A n c, e = .returned (.tuple #[.slice A n c, .int .i64 r.2]) ∧ r.1.length = n ∧ n ≤ c ∧ Cz w' S A (bcells r.1) ∧ Below w.heap.size w w'
theorem badI_drop {n : Nat} {l : List Int} {j : Nat} {z : Int} (hl : l[j]? = some z) : badI n (l.drop j) = (!hasB n z || badI n (l.drop (j + 1))) := by
  have hlt := (List.getElem?_eq_some_iff.1 hl).1
  have e := List.drop_eq_getElem_cons hlt
  rw [List.getElem?_eq_getElem hlt] at hl
  injection hl with hl
  rw [e, hl]
  rfl
theorem own_row {w : World} {base n c : Nat} {A : Option Addr} {k : List Bool} {t : TypeId} (h : w.ownsRow base t 1 (.slice A n c) n (bcells k)) {i : Nat} (hi : i < n) :
    ∃ g, A = some ⟨g, 0, none⟩ ∧ w.cell? ⟨g, i, none⟩ = some (.bool (k.getD i false)) ∧ w.frozen? ⟨g, i, none⟩ = false ∧
      ∀ b : Bool, (w.setCell ⟨g, i, none⟩ (.bool b)).ownsRow base t 1 (.slice A n c) n (bcells (k.set i b)) ∧ w.grownBy (w.setCell ⟨g, i, none⟩ (.bool b)) (some g) ∧ base ≤ g := by
  have hl := h.1
  rw [bcells_length, Nat.mul_one] at hl
  obtain ⟨g, cap, hv, hb, -⟩ := h.form (by omega)
  injection hv with h1 h2 h3
  subst h1 h3
  refine ⟨g, rfl, ?_, h.frozenAt i, fun b => ?_⟩
  · rw [h.cellAt i (by omega)]
    exact bcells_get (getD_of (by omega) false)
  · rw [bcells_set]
    exact ⟨(h.stored i (.bool b)).1, (h.stored i (.bool b)).2, hb⟩
set_option maxRecDepth 100000 in
set_option maxHeartbeats 1000000 in
theorem rturn_any {w : World} {S : Nat → Prop} {A : Option Addr} {n c : Nat} {k : List Bool} (hl : k.length = n) (hn : n ≤ 65536) (hnc : n ≤ c) (h : Cz w S A (bcells k)) (hS : ∀ j, S j → j < w.heap.size)
    {L : Option Addr} {m cl : Nat} {l : List Int} (hm : l.length = m) (hmx : m ≤ 9223372036854775807) (hr : Cz w S L (icells l)) (b : Bool) :
    Calls Try.prog 19 #[.slice A n c, .slice L m cl, .bool b] w (RTurnPost w S (turnD k l (!b))) := by
  obtain ⟨i0, hi0, hz0, hz1, hz2⟩ := info_parts bool_info
  have hb0 : Below w.heap.size w (w.alloc (.cells #[] 4)) := (Below.refl _ _).alloc (Nat.le_refl _) _
  obtain ⟨R, hR⟩ : ∃ R, R = turnD k l (!b) := ⟨_, rfl⟩
  rw [← hR]
  have HLN := Lib.hid (show (bcells k).length = n * 1 by rw [bcells_length, hl, Nat.mul_one])
  have HRR := Lib.hid (cs_row (h.cs.below hb0))
  have HM1 := Lib.hid (show 0 + n ≤ maxLen by unfold maxLen; omega)
  have HBC := Lib.hid (bcells_one k)
  have HB0 := Lib.hid hb0
  have HN := Lib.hid hl
  have HL := Lib.hid hm
  have HH := Lib.hid h
  have HC := Lib.hid hr
  have HR := Lib.hid hR
  have HS := Lib.hid hS
  clear hb0 hl hm h hr hR hS
  go_enter Try.func19, Try.ntmps19
  go_wp2_with (first
    | (at_builtin
       refine wpList_append_row rfl (.tmp 11) (.tmp 12) 27 rfl w.heap.size 4 i0 _ 1 1 Try.underlying27 hi0 hz0 hz1 hz2 rfl (by decide) (.slice (some ⟨w.heap.size, 0, none⟩) 0 0) 0 [] rfl (own_none w _ _ _ (Nat.le_refl _)) A n c (bcells k) rfl HLN.out HRR.out HBC.out HM1.out (by omega) HB0.out.size ?_
       intro v2 w3 hown2 hg2 hat2
       obtain ⟨A2, c2, rfl, -⟩ := own_slice' hown2
       have HB3 := Lib.hid (below_app' HB0.out (own_none w w.heap.size 1 4 (Nat.le_refl _)) (Nat.le_refl _) HB0.out.size hg2)
       rw [Nat.zero_add, List.nil_append] at hown2
       have HW2 := Lib.hid hown2
       clear hat2 hg2 hown2)
    | fail)
  have hsz3 := HB3.out.size
  go_loopw [16] (fun x wr => ∃ j : Nat, x = .int .i64 (j : Int) ∧ j ≤ m ∧ Hid (badI n l = badI n (l.drop j)) ∧ w3 = wr) (fun x _ => m - (intOf x).toNat)
  case atStart => exact ⟨0, rfl, Nat.zero_le _, Lib.hid rfl, rfl⟩
  case round =>
    obtain ⟨j, rfl, hjm, HJ, rfl⟩ := hrel
    by_cases hlt : j < m
    · have hj : j < l.length := by rw [HL.out]; exact hlt
      have hz := getI_of hj
      obtain ⟨z, hzz⟩ : ∃ z, z = l.getD j 0 := ⟨_, rfl⟩
      rw [← hzz] at hz
      obtain ⟨a, rfl, e0⟩ := cz_cell (HC.out.past HB3.out) hz
      have hbd := badI_drop (n := n) hz
      have hway : (decide (z < 0) = true ∧ Hid (hasB n z = false)) ∨ (decide (z < 0) = false ∧ decide ((n : Int) ≤ z) = true ∧ Hid (hasB n z = false)) ∨ (decide (z < 0) = false ∧ decide ((n : Int) ≤ z) = false ∧ Hid (hasB n z = true)) := by
        unfold hasB
        by_cases h1 : z < 0
        · exact .inl ⟨by simp; omega, Lib.hid (by simp; omega)⟩
        · by_cases h2 : (n : Int) ≤ z
          · exact .inr (.inl ⟨by simp; omega, by simp; omega, Lib.hid (by simp; omega)⟩)
          · exact .inr (.inr ⟨by simp; omega, by simp; omega, Lib.hid (by simp; omega)⟩)
      have HBD := Lib.hid hbd
      clear hbd hz hzz hj
      rcases hway with ⟨d1, HX⟩ | ⟨d1, d2, HX⟩ | ⟨d1, d2, HX⟩
      iterate 2
        · have hbad : badI n l = true := by rw [HJ.out, HBD.out, HX.out]; rfl
          have HE := Lib.hid (show R = (k, 9) by rw [HR.out]; exact turnD_bad _ (by rw [HN.out]; exact hbad))
          clear hbad
          go_wp2
          refine bodyPost_ret (v := .tuple #[.slice A n c, .int .i64 9]) (by simp [results, Try.results19, go_sem]) rfl ?_
          rw [HE.out]
          exact ⟨A, n, c, rfl, HN.out, hnc, HH.out.past HB3.out, HB3.out⟩
      have HJ2 := Lib.hid (show badI n l = badI n (l.drop (j + 1)) by rw [HJ.out, HBD.out, HX.out]; rfl)
      go_wp2
      go_roundw
      case rel => exact ⟨j + 1, by go_num, by omega, HJ2, trivial⟩
      case measure => simp [intOf]; omega
    · have hbad : badI n l = false := by
        have := HJ.out
        rw [List.drop_of_length_le (by rw [HL.out]; omega)] at this
        exact this
      rw [← HN.out] at hbad
      have HG := Lib.hid (good_of hbad)
      have HBD := Lib.hid hbad
      clear hbad HJ
      go_wp2_with fail
      go_loopw [37] (fun x wr => ∃ j : Nat, x = .int .i64 (j : Int) ∧ j ≤ m ∧ ∃ cur, Hid (goT (!b) k l = goT (!b) cur (l.drop j) ∧ cur.length = n) ∧ Hid (wr.ownsRow w.heap.size 4 1 (.slice A2 n c2) n (bcells cur)) ∧ Hid (Below w.heap.size w wr)) (fun x _ => m - (intOf x).toNat)
      case atStart => exact ⟨0, rfl, Nat.zero_le _, k, Lib.hid ⟨rfl, HN.out⟩, HW2, HB3⟩
      case round =>
        obtain ⟨j2, rfl, hjm2, cur, HT, HW, HB⟩ := hrel
        by_cases hlt2 : j2 < m
        · have hj : j2 < l.length := by rw [HL.out]; exact hlt2
          obtain ⟨i, hi, hin⟩ := HG.out.at hj
          rw [HN.out] at hin
          obtain ⟨a, rfl, e0⟩ := cz_cell (HC.out.past HB.out) hi
          obtain ⟨g, rfl, e1, f1, hset⟩ := own_row HW.out hin
          obtain ⟨s1, s2, s3⟩ := hset (!b)
          have hlti : (i : Int) < (n : Int) := by omega
          have hgo := HT.out.1
          have hlj : l[j2] = (i : Int) := by rw [List.getElem?_eq_getElem hj] at hi; injection hi
          rw [List.drop_eq_getElem_cons hj, hlj, goT, Int.toNat_natCast, getD_any cur (by rw [HT.out.2]; exact hin) (!b) false] at hgo
          obtain ⟨y, hy⟩ : ∃ y, y = cur.getD i false := ⟨_, rfl⟩
          rw [← hy] at e1 hgo
          by_cases hyb : y = b
          · have d0 : (y == b) = true := by rw [hyb]; simp
            have hyn : ¬ y = !b := by rw [hyb]; cases b <;> decide
            rw [if_neg hyn] at hgo
            have HT2 := Lib.hid (show goT (!b) k l = goT (!b) (cur.set i (!b)) (l.drop (j2 + 1)) ∧ (cur.set i (!b)).length = n from ⟨hgo, by rw [List.length_set]; exact HT.out.2⟩)
            have HW3 := Lib.hid s1
            have HB4 := Lib.hid ((HB.out).grown s2 HB.out.size (fun q hq => by cases hq; exact s3))
            clear hi hin hset s1 s2 hlj hgo hy hyb hyn hj
            go_wp2
            go_roundw
            case rel => exact ⟨j2 + 1, by go_num, by omega, _, HT2, HW3, HB4⟩
            case measure => simp [intOf]; omega
          · have d0 : (y == b) = false := by revert hyb; cases y <;> cases b <;> simp
            have hyn : y = !b := by revert hyb; cases y <;> cases b <;> simp
            rw [if_pos hyn] at hgo
            have HE := Lib.hid (show R = (k, 13) by rw [HR.out]; exact turnD_none HBD.out hgo)
            clear hi hin hset s1 s2 hlj hgo hy hyb hyn hj
            go_wp2
            refine bodyPost_ret (v := .tuple #[.slice A n c, .int .i64 13]) (by simp [results, Try.results19, go_sem]) rfl ?_
            rw [HE.out]
            exact ⟨A, n, c, rfl, HN.out, hnc, HH.out.past HB.out, HB.out⟩
        · have hgo := HT.out.1
          rw [List.drop_of_length_le (by rw [HL.out]; omega)] at hgo
          have HE := Lib.hid (show R = (cur, 0) by rw [HR.out]; exact turnD_some HBD.out hgo)
          clear hgo
          go_wp2
          refine bodyPost_ret (v := .tuple #[.slice A2 n c2, .int .i64 0]) (by simp [results, Try.results19, go_sem]) rfl ?_
          rw [HE.out]
          exact ⟨A2, n, c2, rfl, HT.out.2, own_cap' HW.out, Cz.of_own HW.out (fun q hq _ hs => by have := HS.out q hs; omega), HB.out⟩
end Go.Proofs.Ytjphjlbbeammnaa
