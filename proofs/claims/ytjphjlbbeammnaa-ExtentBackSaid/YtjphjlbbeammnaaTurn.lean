/- Blocks of a map are made taken, or free, or none if one of them cannot be. -/
import Derived.Test.YtjphjlbbeammnaaSet
namespace Go.Proofs.Ytjphjlbbeammnaa
open Go.RowKit Me Ex

theorem one_box (w : World) (v : Value) (t : TypeId) : (w.alloc (.cells #[v] t)).cell? ⟨w.heap.size, 0, none⟩ = some v := by
  have hh := heap_alloc_new w (.cells #[v] t)
  simp only [World.cell?, hh]
  rfl
theorem good_of {n : Nat} {l : List Int} (h : badI n l = false) : Good n l := badI_false h
/-- What the loop of a turn knows, behind j of them. -/
structure TurnI (k cur : List Bool) (l : List Int) (t : Bool) (j : Nat) : Prop where
  go : goT t k l = goT t cur (l.drop j)
  back : setAll (!t) cur (l.take j) = k
  len : cur.length = k.length
theorem TurnI.next {k cur : List Bool} {l : List Int} {t : Bool} {j i : Nat} (h : TurnI k cur l t j) (hl : l[j]? = some (i : Int)) (hi : i < cur.length) (hc : cur.getD i false ≠ t) : TurnI k (cur.set i t) l t (j + 1) := by
  have hlt := (List.getElem?_eq_some_iff.1 hl).1
  have e := List.drop_eq_getElem_cons hlt
  have hlj : l[j] = (i : Int) := by rw [List.getElem?_eq_getElem hlt] at hl; injection hl
  refine ⟨?_, ?_, by rw [List.length_set]; exact h.len⟩
  · rw [h.go, e, hlj, goT, Int.toNat_natCast, getD_any cur hi t false, if_neg hc]
  · rw [List.take_add_one, hl]
    exact back_step (i := (i : Int)) h.back (by
      rw [Int.toNat_natCast, getD_any cur hi (!t) false]
      revert hc
      cases cur.getD i false <;> cases t <;> simp)
theorem TurnI.stop {k cur : List Bool} {l : List Int} {t : Bool} {j i : Nat} (h : TurnI k cur l t j) (hl : l[j]? = some (i : Int)) (hi : i < cur.length) (hc : cur.getD i false = t) : goT t k l = none := by
  have hlt := (List.getElem?_eq_some_iff.1 hl).1
  have e := List.drop_eq_getElem_cons hlt
  have hlj : l[j] = (i : Int) := by rw [List.getElem?_eq_getElem hlt] at hl; injection hl
  rw [h.go, e, hlj, goT, Int.toNat_natCast, getD_any cur hi t false, if_pos hc]
/-- What is known of each slot of the region that turns back. -/
def setG (H D m c j : Nat) (A : Option Addr) (t : Bool) : Gw.Fact := fun s v _ =>
  match s with
  | 3 => v = .pointer (some ⟨H, 0, none⟩)
  | 28 => v = .pointer (some ⟨D, 0, none⟩)
  | 1 | 29 => v = .slice A m c
  | 7 | 30 => v = .int .i64 (j : Int)
  | 31 => v = .slice A j c
  | 2 | 32 => v = .bool t
  | 33 => v = .bool (!t)
  | _ => True
set_option maxRecDepth 100000 in
set_option maxHeartbeats 1000000 in
theorem turn_any {w : World} {B D : Nat} {k : List Bool} {own : Nat → Prop} (h : MapAt w B D k own) (A : Option Addr) (m c : Nat) (l : List Int) (t : Bool) (hl : l.length = m) (hmc : m ≤ c) (hm : m ≤ 9223372036854775807) (hr : Cz w own A (icells l)) :
    Calls Try.prog 23 #[.pointer (some ⟨D, 0, none⟩), .slice A m c, .bool t] w fun e w' => e = .returned (.int .i64 (turnD k l t).2) ∧ MPost w B D (turnD k l t).1 own w' := by
  obtain ⟨H, hH⟩ : ∃ H, w.heap.size = H := ⟨_, rfl⟩
  obtain ⟨w1, hw1⟩ : ∃ w1, w.alloc (.cells #[.pointer (some ⟨D, 0, none⟩)] 25) = w1 := ⟨_, rfl⟩
  have hb1 : Below w.heap.size w w1 := by rw [← hw1]; exact (Below.refl _ _).alloc (Nat.le_refl _) _
  have hbx : w1.cell? ⟨H, 0, none⟩ = some (.pointer (some ⟨D, 0, none⟩)) := by rw [← hw1, ← hH]; exact one_box w _ _
  have hs1 : w1.heap.size = H + 1 := by rw [← hw1, ← hH]; simp
  obtain ⟨R, hR⟩ : ∃ R, R = turnD k l t := ⟨_, rfl⟩
  rw [← hR]
  have hnH : ¬ own H := fun ho => by have := (h.lt ho).2; omega
  have HB1 := Lib.hid hb1
  have HBX := Lib.hid hbx
  have HH1 := Lib.hid (h.past hb1)
  have HC1 := Lib.hid (hr.past hb1)
  have HO1 := Lib.hid (Out.of_below (S := own) hb1)
  have HR := Lib.hid hR
  have HL := Lib.hid hl
  have HNH := Lib.hid hnH
  have HCF := Lib.hid (contains_any 25 #[.pointer (some ⟨H, 0, none⟩)] (fun z => !hasB k.length z) w1 own A m c l (Go.Proofs.enters_of Try.func25 (by kernel_rfl) rfl) hl hm (hr.past hb1) (fun z => closure_any (h.past hb1) hbx z))
  rw [show (l.any fun z => !hasB k.length z) = badI k.length l from rfl] at HCF
  clear h hr hb1 hbx hR hl hnH
  cases hbad : badI k.length l with
  | true =>
    have hR := HR.out
    rw [turnD_bad t hbad] at hR
    rw [hbad] at HCF
    subst hR
    clear HR hbad
    go_enter Try.func23, Try.ntmps23
    go_wp2_with (go_at_call 24; refine HCF.out.mono ?_; rintro e w' ⟨rfl, rfl⟩)
    go_ret
    exact ⟨rfl, HH1.out, HO1.out⟩
  | false =>
    rw [hbad] at HCF
    have HG := Lib.hid (good_of hbad)
    have HBD := Lib.hid hbad
    clear hbad
    go_enter Try.func23, Try.ntmps23
    go_wp2_with (first | (go_at_call 24; refine HCF.out.mono ?_; rintro e w' ⟨rfl, rfl⟩) | fail)
    go_loopw [14] (fun x wr => ∃ j : Nat, x = .int .i64 (j : Int) ∧ j ≤ m ∧ ∃ cur, Hid (TurnI k cur l t j) ∧ Hid (MapAt wr B D cur own) ∧ Hid (Out own w1 wr)) (fun x _ => m - (intOf x).toNat)
    case atStart => exact ⟨0, rfl, Nat.zero_le _, k, Lib.hid ⟨rfl, rfl, rfl⟩, HH1, Lib.hid (Out.refl _ _)⟩
    case round =>
      obtain ⟨j, rfl, hjm, cur, HS, HK, HO⟩ := hrel
      have hbx := (HO.out.cell (p := ⟨H, 0, none⟩) (by show H < _; omega) HNH.out).trans HBX.out
      by_cases hlt : j < m
      · have hj : j < l.length := by rw [HL.out]; exact hlt
        obtain ⟨i, hi, hin⟩ := HG.out.at hj
        obtain ⟨a, rfl, e0⟩ := cz_cell (HC1.out.out HO.out) hi
        have hin' : i < cur.length := by rw [HS.out.len]; exact hin
        obtain ⟨Pv, hK⟩ := HK.out
        obtain ⟨g, c', hv, hog, hgd, hat⟩ := hK.at hin'
        obtain ⟨e1, f1⟩ := hat i hin'
        obtain ⟨hk2, ho2⟩ := hK.set hv hgd i t
        have c0 := hK.blk.cell (i := 0) rfl
        obtain ⟨n, hn⟩ : ∃ n, n = cur.length := ⟨_, rfl⟩
        rw [hv, ← hn] at c0
        have hlti : (i : Int) < (n : Int) := by omega
        obtain ⟨b, hb⟩ : ∃ b, b = cur.getD i false := ⟨_, rfl⟩
        rw [← hb] at e1
        by_cases hbt : b = t
        · have HX := Lib.hid (turnD_none HBD.out (HS.out.stop hi hin' (by rw [← hb]; exact hbt)))
          have d0 : (b == t) = true := by rw [hbt]; simp
          have HKL := Lib.hid hK
          have HT := Lib.hid (show Good cur.length (l.take j) by rw [HS.out.len]; exact HG.out.take j)
          have HLT := Lib.hid (show (l.take j).length = j by rw [List.length_take, HL.out]; omega)
          have HCJ := Lib.hid (show Cz wr own (some a) (icells (l.take j)) from fun h0 => by
            rw [icells_length, HLT.out] at h0
            obtain ⟨a', e, h1, h2, h3⟩ := HC1.out.out HO.out (by rw [icells_length]; omega)
            refine ⟨a', e, h1, h2, fun q v hq => h3 q v ?_⟩
            unfold icells at hq ⊢
            rw [List.map_take, List.getElem?_take] at hq
            split at hq
            · exact hq
            · cases hq)
          have HJ := Lib.hid hj
          clear hi hin hin' hv hog hgd hat hk2 ho2 hn hj hb hbt hK
          have hjc : (j : Int) ≤ (c : Int) := by omega
          go_wp2_with fail
          refine Gw.wp_region_phase (fun _ _ => True) (fun _ => trivial) (fun _ _ _ _ _ => trivial) (fun p W => if p = 0 then W = wr.drew else Laid W B D Pv (setAll (!t) cur (l.take j)) own ∧ Out own wr W) (setG H D m c j (some a) t) [6] [28, 29, 30, 31, 32, 33, 34] [([3], none, [0], false), ([1], none, [0], false), ([7], none, [0], false), ([29, 30], none, [0], false), ([2], none, [0], false), ([32], none, [0], false), ([28, 31, 33], none, [0], true)] 43 1 (by kernel_rfl) (by kernel_rfl) rfl trivial (by simp) ?h0 ?hreq ?hend
          case h0 =>
            intro s W hnd _
            unfold setG
            split <;> first | rfl | trivial | exact absurd (by simp) hnd
          case hreq =>
            refine ⟨⟨?_, trivial⟩, ⟨?_, trivial⟩, ⟨?_, trivial⟩, ⟨?_, trivial⟩, ⟨?_, trivial⟩, ⟨?_, trivial⟩, ⟨?_, trivial⟩, trivial⟩
            all_goals
              intro ac W hR hI hk
              rw [if_pos rfl] at hI
              subst hI
              simp only [Gw.Knows, setG] at hk
              try (simp [go_sem, Gw.POpReq, Gw.OkP, Gw.PPost, Gw.HoldsR, setG, hk, hbx]; done)
            · simp [go_sem, Gw.POpReq, Gw.OkP, Gw.PPost, Gw.HoldsR, setG, hk, hjc]
            · simp [go_sem, Gw.POpReq, Gw.OkP, Gw.PPost, Gw.HoldsR, setG, hk]
              refine (set_any (HKL.out.past (Below.refl _ _).drew) (some a) j c (l.take j) (!t) HLT.out (by omega) (HCJ.out.past (Below.refl _ _).drew) HT.out).mono ?_
              rintro e w5 ⟨rfl, h5, h6⟩
              exact ⟨⟨_, rfl⟩, h5, (out_drew _ _).trans h6⟩
          case hend =>
            intro x' w' _ hI hx
            rw [if_neg (by simp)] at hI
            have HI := Lib.hid hI
            clear hx hI
            simp only [Gw.putAll, Act.put, List.setIfInBounds_toArray, List.set_cons_zero, List.set_cons_succ]
            go_wp2
            go_ret
            have e := HR.out.trans HX.out
            subst e
            refine ⟨rfl, ⟨Pv, ?_⟩, (HO1.out.trans HO.out).trans HI.out.2⟩
            rw [← HS.out.back]
            exact HI.out.1
        · have HS2 := Lib.hid (HS.out.next hi hin' (by rw [← hb]; exact hbt))
          have d0 : (b == t) = false := by revert hbt; cases b <;> cases t <;> simp
          have HK2 := Lib.hid (show MapAt _ B D _ own from ⟨Pv, hk2⟩)
          have HO2 := Lib.hid (HO.out.trans ho2)
          clear hi hin hin' hv hog hgd hat hk2 ho2 hn hj hb hbt hK
          go_wp2
          go_roundw
          case rel => exact ⟨j + 1, by go_num, by omega, _, HS2, HK2, HO2⟩
          case measure => simp [intOf]; omega
      · have hjm' : j = m := by omega
        subst hjm'
        have hg := HS.out.go
        rw [List.drop_of_length_le (by rw [HL.out]; exact Nat.le_refl _)] at hg
        have HX := Lib.hid (HR.out.trans (turnD_some HBD.out hg))
        clear hg
        go_wp2
        go_ret
        have e := HX.out
        subst e
        exact ⟨rfl, HK.out, HO1.out.trans HO.out⟩
/-- A nil map has no blocks. -/
theorem turn_nil (w : World) (S : Nat → Prop) (A : Option Addr) (m c : Nat) (l : List Int) (t : Bool) (hl : l.length = m) (hm : m ≤ 9223372036854775807) (hr : Cz w S A (icells l)) :
    Calls Try.prog 23 #[.pointer none, .slice A m c, .bool t] w fun e w' => e = .returned (.int .i64 (if 0 < m then 9 else 0)) ∧ Below w.heap.size w w' := by
  obtain ⟨H, hH⟩ : ∃ H, w.heap.size = H := ⟨_, rfl⟩
  obtain ⟨w1, hw1⟩ : ∃ w1, w.alloc (.cells #[.pointer none] 25) = w1 := ⟨_, rfl⟩
  have hb1 : Below w.heap.size w w1 := by rw [← hw1]; exact (Below.refl _ _).alloc (Nat.le_refl _) _
  have hbx : w1.cell? ⟨H, 0, none⟩ = some (.pointer none) := by rw [← hw1, ← hH]; exact one_box w _ _
  have HB1 := Lib.hid hb1
  have hcf := contains_any 25 #[.pointer (some ⟨H, 0, none⟩)] (fun z => true) w1 S A m c l (Go.Proofs.enters_of Try.func25 (by kernel_rfl) rfl) hl hm (hr.past hb1) (fun z => closure_nil hbx z)
  by_cases h0 : 0 < m
  · rw [if_pos h0]
    have e : (l.any fun z => true) = true := by
      cases l with
      | nil => simp at hl; omega
      | cons z l => rfl
    rw [e] at hcf
    have HCF := Lib.hid hcf
    clear hr hb1 hbx hl hcf e
    go_enter Try.func23, Try.ntmps23
    go_wp2_with (go_at_call 24; refine HCF.out.mono ?_; rintro e w' ⟨rfl, rfl⟩)
    go_ret
    exact ⟨rfl, HB1.out⟩
  · rw [if_neg h0]
    have hm0 : m = 0 := by omega
    subst hm0
    have e : l = [] := List.eq_nil_of_length_eq_zero hl
    subst e
    have HCF := Lib.hid hcf
    clear hr hb1 hbx hl hcf
    go_enter Try.func23, Try.ntmps23
    go_wp2_with (first | (go_at_call 24; refine HCF.out.mono ?_; rintro e w' ⟨rfl, rfl⟩) | fail)
    go_loopw [14] (fun x wr => x = .int .i64 0 ∧ Hid (Below w.heap.size w wr)) (fun x _ => 0)
    case atStart => exact ⟨rfl, HB1⟩
    case round =>
      obtain ⟨rfl, HB⟩ := hrel
      go_wp2
      go_ret
      exact ⟨rfl, HB.out⟩
section
variable {w : World} {B D : Nat} {k : List Bool} {own : Nat → Prop}
theorem hold_any (h : MapAt w B D k own) (A : Option Addr) (m c : Nat) (l : List Int) (hl : l.length = m) (hmc : m ≤ c) (hm : m ≤ 9223372036854775807) (hr : Cz w own A (icells l)) :
    Calls Try.prog 17 #[.pointer (some ⟨D, 0, none⟩), .slice A m c] w fun e w' => e = .returned (.int .i64 (turnD k l true).2) ∧ MPost w B D (turnD k l true).1 own w' := by
  have HC := Lib.hid (turn_any h A m c l true hl hmc hm hr)
  generalize turnD k l true = R at *
  clear h hr
  go_enter Try.func17, Try.ntmps17
  go_wp2_with (go_at_call 23; refine HC.out.mono ?_; rintro e w1 ⟨rfl, hp⟩; have HP := Lib.hid hp; clear hp)
  go_ret
  exact ⟨rfl, HP.out⟩
theorem give_any (h : MapAt w B D k own) (A : Option Addr) (m c : Nat) (l : List Int) (hl : l.length = m) (hmc : m ≤ c) (hm : m ≤ 9223372036854775807) (hr : Cz w own A (icells l)) :
    Calls Try.prog 16 #[.pointer (some ⟨D, 0, none⟩), .slice A m c] w fun e w' => e = .returned (.int .i64 (turnD k l false).2) ∧ MPost w B D (turnD k l false).1 own w' := by
  have HC := Lib.hid (turn_any h A m c l false hl hmc hm hr)
  generalize turnD k l false = R at *
  clear h hr
  go_enter Try.func16, Try.ntmps16
  go_wp2_with (go_at_call 23; refine HC.out.mono ?_; rintro e w1 ⟨rfl, hp⟩; have HP := Lib.hid hp; clear hp)
  go_ret
  exact ⟨rfl, HP.out⟩
theorem hold_nil (w : World) (S : Nat → Prop) (A : Option Addr) (m c : Nat) (l : List Int) (hl : l.length = m) (hm : m ≤ 9223372036854775807) (hr : Cz w S A (icells l)) :
    Calls Try.prog 17 #[.pointer none, .slice A m c] w fun e w' => e = .returned (.int .i64 (if 0 < m then 9 else 0)) ∧ Below w.heap.size w w' := by
  have HC := Lib.hid (turn_nil w S A m c l true hl hm hr)
  generalize (if 0 < m then (9 : Int) else 0) = R at *
  clear hr
  go_enter Try.func17, Try.ntmps17
  go_wp2_with (go_at_call 23; refine HC.out.mono ?_; rintro e w1 ⟨rfl, hp⟩; have HP := Lib.hid hp; clear hp)
  go_ret
  exact ⟨rfl, HP.out⟩
theorem give_nil (w : World) (S : Nat → Prop) (A : Option Addr) (m c : Nat) (l : List Int) (hl : l.length = m) (hm : m ≤ 9223372036854775807) (hr : Cz w S A (icells l)) :
    Calls Try.prog 16 #[.pointer none, .slice A m c] w fun e w' => e = .returned (.int .i64 (if 0 < m then 9 else 0)) ∧ Below w.heap.size w w' := by
  have HC := Lib.hid (turn_nil w S A m c l false hl hm hr)
  generalize (if 0 < m then (9 : Int) else 0) = R at *
  clear hr
  go_enter Try.func16, Try.ntmps16
  go_wp2_with (go_at_call 23; refine HC.out.mono ?_; rintro e w1 ⟨rfl, hp⟩; have HP := Lib.hid hp; clear hp)
  go_ret
  exact ⟨rfl, HP.out⟩
end
end Go.Proofs.Ytjphjlbbeammnaa
