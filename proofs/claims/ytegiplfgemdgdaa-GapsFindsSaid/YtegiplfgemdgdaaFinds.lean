/- GapsFinds is proved: where an end stands among any neighbours, or would be put in, is the document's; for every input, no conditions. -/
import Derived.Test.YtegiplfgemdgdaaFind
import Derived.ProofKit
import Derived.Lib.SmallJoins
namespace Go.Proofs.Ytegiplfgemdgdaa
open Go.RowKit Me Va

theorem stands_low {l : List ArcD} {to r k : Nat} {bb : Bool} {p : ArcD} (h : Stands l to r bb) (hp : l[k]? = some p) (hk : k < r) : p.to < to := h.2.1 k p hp hk
theorem stands_at {l : List ArcD} {to r : Nat} {bb : Bool} {p : ArcD} (h : Stands l to r bb) (hp : l[r]? = some p) : to ≤ p.to ∧ bb = decide (p.to = to) := by
  have := h.2.2.2
  rw [hp] at this
  exact ⟨h.2.2.1 r p hp (Nat.le_refl _), this⟩
theorem stands_high {l : List ArcD} {to r k : Nat} {bb : Bool} {p : ArcD} (h : Stands l to r bb) (hr : rises 0 l = true) (hp : l[k]? = some p) (hk : r < k) : to < p.to := by
  have hkl : k < l.length := (List.getElem?_eq_some_iff.1 hp).1
  have hq : l[r]? = some l[r] := List.getElem?_eq_getElem (by omega)
  have h1 := h.2.2.1 r _ hq (Nat.le_refl _)
  have h2 := rises_lt l 0 hr r k _ _ hk hq hp
  omega
theorem stands_end {l : List ArcD} {to r : Nat} {bb : Bool} (h : Stands l to r bb) : (decide (r < l.length) && bb) = bb := by
  by_cases hl : r < l.length
  · simp [hl]
  · have := h.2.2.2
    rw [List.getElem?_eq_none (by omega)] at this
    rw [this]
    simp
set_option maxHeartbeats 1000000 in
theorem finds_law (L : Option Addr) (n c : Nat) (l : List ArcD) (to : Nat) (w : World) (hl : l.length = n) (hn : n ≤ 9223372036854775807) (hr : Arcs w w.heap.size L l) :
    Calls Try.prog 5 #[.slice L n c, .int .u32 (to : Int)] w fun e w' => e = .returned (.bool true) ∧ Below w.heap.size w w' := by
  have HL := Lib.hid hl
  have HR := Lib.hid hr
  clear hl hr
  by_cases h300 : 300 < n
  · have d1 : decide ((300 : Int) < (n : Int)) = true := by simp; omega
    go_enter Try.func5, Try.ntmps5
    go_wp2_with fail
    refine (awake_any w).mono ?_
    rintro e w1 ⟨rfl, hb⟩
    go_wp2
    go_ret
    exact ⟨rfl, hb⟩
  have d1 : decide ((300 : Int) < (n : Int)) = false := by simp; omega
  have hn32 : n ≤ 4294967296 := by omega
  cases hmay : may l with
  | false =>
    have HM := Lib.hid hmay
    clear hmay
    go_enter Try.func5, Try.ntmps5
    go_wp2_with fail
    refine (refmay_any L n c l w HL.out hn32 HR.out).mono ?_
    rw [HM.out]
    rintro e w1 ⟨rfl, hb1⟩
    have HB1 := Lib.hid hb1
    clear hb1
    go_wp2_with fail
    refine (awake_any w1).mono ?_
    rintro e w2 ⟨rfl, hb2⟩
    have HB2 := Lib.hid (HB1.out.trans (hb2.mono HB1.out.size))
    clear hb2
    go_wp2
    go_ret
    exact ⟨rfl, HB2.out⟩
  | true =>
    have HM := Lib.hid hmay
    have HRI := Lib.hid (may_parts hmay).1
    clear hmay
    go_enter Try.func5, Try.ntmps5
    go_wp2_with fail
    refine (refmay_any L n c l w HL.out hn32 HR.out).mono ?_
    rw [HM.out]
    rintro e w1 ⟨rfl, hb1⟩
    have HB1 := Lib.hid hb1
    clear hb1
    go_wp2_with fail
    refine (find_any L n c l to w1 HL.out hn32 ((HR.out.below HB1.out).more HB1.out.size) HRI.out).mono ?_
    rintro e w2 ⟨r, bb, rfl, hst, hb2⟩
    have hrn : r ≤ n := by have := hst.1; rw [HL.out] at this; exact this
    have HST := Lib.hid hst
    have HB2 := Lib.hid (HB1.out.trans (hb2.mono HB1.out.size))
    clear hst hb2
    go_wp2
    go_loopw [7, 8, 9] (fun x b i wr => ∃ k m : Nat, k ≤ n ∧ i = .int .i64 (k : Int) ∧ m ≤ n ∧ x = .int .i64 (m : Int) ∧ Hid (m = min k r) ∧ (∃ v : Bool, b = .bool v ∧ Hid (v = (decide (r < k) && bb))) ∧ Hid (Below w.heap.size w wr)) (fun _ _ i _ => n - (intOf i).toNat)
    case atStart => exact ⟨0, 0, Nat.zero_le _, rfl, Nat.zero_le _, rfl, Lib.hid (by simp), ⟨false, rfl, Lib.hid (by simp)⟩, HB2⟩
    case round =>
      obtain ⟨k, m, hk, rfl, hmn, rfl, HMM, ⟨v, rfl, HV⟩, HB⟩ := hrel
      by_cases hlt : k < n
      · have hlt' : k < l.length := by rw [HL.out]; exact hlt
        obtain ⟨a, p, rfl, hp, -, c0, -, c2, -⟩ := (HR.out.below HB.out).at hlt'
        clear hlt'
        rcases Nat.lt_trichotomy k r with hkr | hkr | hkr
        · have h1 := stands_low HST.out hp hkr
          have d3 : decide ((p.to : Int) < (to : Int)) = true := by simp; omega
          have d4 : ((p.to : Int) == (to : Int)) = false := by rw [beq_eq_false_iff_ne]; omega
          have hv : v = false := by rw [HV.out]; simp; omega
          have hm : m = k := by rw [HMM.out]; omega
          subst hv hm
          clear hp HV HMM
          go_wp2
          go_roundw
          case rel => exact ⟨m + 1, m + 1, by omega, by go_num, by omega, by go_num, Lib.hid (by omega), ⟨false, rfl, Lib.hid (by simp; omega)⟩, HB⟩
          case measure => simp [intOf]; omega
        · obtain ⟨h1, h2⟩ := stands_at HST.out (by rw [← hkr]; exact hp)
          have d3 : decide ((p.to : Int) < (to : Int)) = false := by simp; omega
          have d4 : ((p.to : Int) == (to : Int)) = bb := by
            rw [h2]
            by_cases e : p.to = to
            · simp [e]
            · have e1 : decide (p.to = to) = false := by simpa using e
              rw [e1, beq_eq_false_iff_ne]
              omega
          have hv : v = false := by rw [HV.out]; simp; omega
          have hm : m = k := by rw [HMM.out]; omega
          subst hv hm
          have HKR := Lib.hid hkr
          clear hp HV HMM h2 hkr
          go_wp2
          go_roundw
          case rel => exact ⟨m + 1, m, by omega, by go_num, by omega, rfl, Lib.hid (by have := HKR.out; omega), ⟨bb, rfl, Lib.hid (by have := HKR.out; simp; omega)⟩, HB⟩
          case measure => simp [intOf]; omega
        · have h1 := stands_high HST.out HRI.out hp hkr
          have d3 : decide ((p.to : Int) < (to : Int)) = false := by simp; omega
          have d4 : ((p.to : Int) == (to : Int)) = false := by rw [beq_eq_false_iff_ne]; omega
          have hv : v = bb := by rw [HV.out]; simp [hkr]
          have hm : m = r := by rw [HMM.out]; omega
          subst hv hm
          clear hp HV HMM
          cases v with
          | true =>
            go_wp2
            go_roundw
            case rel => exact ⟨k + 1, m, by omega, by go_num, by omega, rfl, Lib.hid (by omega), ⟨true, rfl, Lib.hid (by simp; omega)⟩, HB⟩
            case measure => simp [intOf]; omega
          | false =>
            go_wp2
            go_roundw
            case rel => exact ⟨k + 1, m, by omega, by go_num, by omega, rfl, Lib.hid (by omega), ⟨false, rfl, Lib.hid (by simp)⟩, HB⟩
            case measure => simp [intOf]; omega
      · have hv : v = bb := by rw [HV.out, show k = l.length by rw [HL.out]; omega]; exact stands_end HST.out
        have hm : m = r := by rw [HMM.out]; omega
        subst hv hm
        clear HV HMM HST
        cases v with
        | true =>
          go_wp2_with fail
          refine (awake_any wr).mono ?_
          rintro e w3 ⟨rfl, hb3⟩
          have HB3 := Lib.hid (HB.out.trans (hb3.mono HB.out.size))
          clear hb3
          go_wp2
          go_ret
          exact ⟨rfl, HB3.out⟩
        | false =>
          go_wp2_with fail
          refine (awake_any wr).mono ?_
          rintro e w3 ⟨rfl, hb3⟩
          have HB3 := Lib.hid (HB.out.trans (hb3.mono HB.out.size))
          clear hb3
          go_wp2
          go_ret
          exact ⟨rfl, HB3.out⟩
open Go.ChangeShapes Go.WideShapes Go.ChangeAt Go.Joins
set_option maxRecDepth 100000 in
theorem gapsFinds_lifted (os : Os) (started : os.Started) (H : Type) (enc : TypeId × Value → H) :
    ReturnsInHanded {} Try.checked os 5 .any (Rows.gapsFindsSpec.pre6 enc Try.prog Try.f5 Rows.gapsFindsRow.domain false) (Rows.gapsFindsSpec.post enc Try.prog Try.f5 false true false false) := by
  refine returnsInHanded_of_change (C := Try.checked) own started (by kernel_rfl) Try.func5
    (ChangeSpec.witness6 (enc := enc) (C := Try.checked) false ⟨#[], #[.slice none 0 0, .int .u32 0], []⟩ 8 (by kernel_rfl) (by kernel_rfl) (by kernel_rfl) (by kernel_rfl)) ?_
  intro W base args ds gs before hval0 hW hcnd _
  have hval : ∀ (j : Nat) t v, Try.f5.params[j]? = some t → args[j]? = some v → Value.okWide Try.prog W .any base t v := hval0
  have hW' := hW
  obtain ⟨p, q, hA0, hV, rfl, hfz, hnd⟩ := hW
  have hA : DataW.TrodAll enc Try.prog W 0 (fun _ => true) true Try.f5.params.toList args.toList ds p := hA0
  rw [Try.params5] at hA hval
  obtain ⟨v0, v1, d0, d1, p0, p1, rfl, rfl, rfl, h0, h1⟩ := trodAll_two hA
  obtain ⟨A, n, c, l, rfl, hl, hnc, hc63, hr⟩ := open_arcs Try.underlying23 Try.underlying49 (by kernel_rfl) (by kernel_rfl) rfl rfl Try.underlying45 (hval 0 23 v0 rfl rfl) h0
  obtain ⟨to, rfl, -, -, wt⟩ := open_int Try.underlying45 (hval 1 45 v1 rfl rfl) h1
  have ht : 0 ≤ to ∧ to < 4294967296 := by simp [Lit.wf, IntKind.min, IntKind.max, IntKind.bits, IntKind.signed] at wt; omega
  obtain ⟨t, rfl⟩ := Int.eq_ofNat_of_zero_le ht.1
  refine (finds_law A n c l t W hl (by omega) hr).mono fun e W' ⟨he, hb⟩ => ?_
  subst he
  exact ⟨_, rfl, Lw.post_true laidOut (by kernel_rfl) rfl rfl rfl rfl (by kernel_rfl) Try.underlying4 hW' hb⟩

/-- GapsFinds: where an end stands among any neighbours. -/
theorem gapsFinds_holds : Rows.GapsFindsSaid :=
  OpenClaim.holds_of_wide 5 Try.f5 rfl rfl rfl rfl rfl rfl rfl ⟨rfl, rfl, rfl, rfl, rfl⟩ rfl rfl rfl rfl rfl (by kernel_rfl) Try.func5 (by kernel_rfl)
    (of_decide_eq_true (by kernel_rfl)) (by unfold Func.isWrapper; rw [if_neg (of_decide_eq_false (by kernel_rfl))]; exact ⟨rfl, rfl⟩)
    (fun os started H enc _ => gapsFinds_lifted os started H enc)
#print axioms gapsFinds_holds
end Go.Proofs.Ytegiplfgemdgdaa
