/- ExtentPlays is proved: any row of acts is answered, and leaves all blocks, as the document says; a clone goes its own way; for every input, no conditions. -/
import Derived.Test.YtjphjlbbeammnaaDoesE
import Derived.ProofKit
import Derived.Lib.SmallJoins
namespace Go.Proofs.Ytjphjlbbeammnaa
open Go.RowKit Me Ex

theorem made_row (n : Nat) : (madeCells (Value.bool false).cells (n * 1)).toList = bcells (List.replicate n false) := made_free n
set_option maxRecDepth 100000 in
set_option maxHeartbeats 2000000 in
theorem plays_walk (count : Int) (A : Option Addr) (n c : Nat) (acts : List AE) (w : World) (hl : acts.length = n) (hn : n ≤ 9223372036854775807) (hA : Acts w w.heap.size A acts) :
    Calls Try.prog 3 #[.int .i64 count, .slice A n c] w fun e w' => e = .returned (.bool true) ∧ Below w.heap.size w w' := by
  obtain ⟨i0, hi0, hz0, hz1, hz2⟩ := info_parts bool_info
  have HG := Lib.hid (great_any count A n c acts w w.heap.size hl hn hA)
  have HN := Lib.hid (new_any count w)
  have HL := Lib.hid hl
  have HA := Lib.hid hA
  clear hl hA
  go_enter Try.func3, Try.ntmps3
  go_wp2_with fail
  refine HG.out.mono ?_
  rintro e w' ⟨⟨b, rfl⟩, rfl⟩
  cases b with
  | true =>
    go_wp2_with (go_at_call 7; refine (awake_any _).mono ?_; rintro e w1 ⟨rfl, hb⟩; have HB := Lib.hid hb; clear hb)
    go_ret
    exact ⟨rfl, HB.out⟩
  | false =>
    go_wp2_with fail
    refine HN.out.mono ?_
    rintro e w1 ⟨D, own, rfl, hm1, hb1⟩
    have HR := Lib.hid (rcount_any count w1)
    have hcn : (min (max count 0) 65536).toNat = countN count := rfl
    have hc6 : countN count ≤ 65536 := by unfold countN; omega
    rw [hcn] at hm1
    generalize countN count = cn at *
    have HM1 := Lib.hid hm1
    have HB1 := Lib.hid hb1
    have hs1 := hb1.size
    have HLT := Lib.hid (fun j => hm1.lt (j := j))
    have HB2 := Lib.hid (show i0.bytes * cn ≤ 281474976710656 by rw [hz2]; omega)
    have HMX := Lib.hid (show cn ≤ maxLen by unfold maxLen; omega)
    clear hm1 hb1 HG HN hcn
    go_wp2_with (first
      | (go_at_call 9; refine HR.out.mono ?_; rintro e w' ⟨rfl, rfl⟩)
      | (refine wpList_make_full w1 rfl _ _ 27 rfl w1.heap.size 4 i0 _ 1 Try.underlying27 hi0 hz0 hz1 .i64 .i64 _ _ cn rfl rfl rfl rfl HB2.out HMX.out (Nat.le_refl _) ?_
         intro w2 ho2 hg2
         have HO2 := Lib.hid ho2
         have HG2 := Lib.hid hg2
         clear ho2 hg2)
      | fail)
    have hb2 : Below w1.heap.size w1 w2 := (Below.refl _ _).grown HG2.out (Nat.le_refl _) (fun k e => by cases e)
    have HK2 := Lib.hid (show Cz w2 own (some ⟨w1.heap.size, 0, none⟩) (bcells (List.replicate cn false)) from Cz.of_own (by have := HO2.out; rw [made_row] at this; exact this) (fun j hj _ ho => by have := (HLT.out j ho).2; omega))
    have HM2 := Lib.hid (HM1.out.past hb2)
    have HBw := Lib.hid (HB1.out.trans (hb2.mono hs1))
    clear hb2
    go_loopw [7, 6] (fun x y wr => ∃ j : Nat, x = .int .i64 (j : Int) ∧ j ≤ n ∧ ∃ Ak ck k, y = .slice Ak cn ck ∧ cn ≤ ck ∧ Hid (k.length = cn) ∧ Hid (MapAt wr w.heap.size D k own) ∧ Hid (Cz wr own Ak (bcells k)) ∧ Hid (Below w.heap.size w wr)) (fun x _ _ => n - (intOf x).toNat)
    case atStart => exact ⟨0, rfl, Nat.zero_le _, _, _, List.replicate cn false, rfl, Nat.le_refl _, Lib.hid (List.length_replicate ..), HM2, HK2, HBw⟩
    case round =>
      obtain ⟨j, rfl, hjn, Ak, ck, k, rfl, hck, HKL, HM, HK, HB⟩ := hrel
      by_cases hlt : j < n
      · obtain ⟨a, p, rfl, hab, hp, A2, n2, c2, g0, g1, g2, g3, g4, g5, g6⟩ := (HA.out.below HB.out).at (i := j) (by rw [HL.out]; exact hlt)
        have hlti : (j : Int) < (n : Int) := by omega
        have HP3 := Lib.hid g3
        have HCZ := Lib.hid (show Cz wr own A2 (icells p.l) from cz_of_cs g6 HB.out.size (fun q hq => (HM.out.lt hq).1))
        have HAT := Lib.hid (And.intro g0 (And.intro g1 g2))
        clear hp g0 g1 g2 g3 g6
        go_wp2_with fail
        refine (mclone_any HM.out).mono ?_
        rintro e w3 ⟨D', own', rfl, hm3, hb3⟩
        have HB3 := Lib.hid hb3
        have HM3 := Lib.hid hm3
        have habr : (a.add (j * 3)).block < wr.heap.size := by have := HB.out.size; rw [block_add]; omega
        have g0 := (hb3.cell habr).trans HAT.out.1
        have g1 := (hb3.cell (p := ⟨(a.add (j * 3)).block, (a.add (j * 3)).off + 1, none⟩) habr).trans HAT.out.2.1
        have g2 := (hb3.cell (p := ⟨(a.add (j * 3)).block, (a.add (j * 3)).off + 2, none⟩) habr).trans HAT.out.2.2
        have HD := Lib.hid (does_any (HM.out.past hb3) HKL.out hc6 hck (HK.out.past hb3) p HP3.out g4 g5 (HCZ.out.past hb3))
        rw [actB_same] at HD
        clear hm3 hb3 habr
        go_wp2_with (first | (go_at_call 11; refine HD.out.mono ?_; rintro e w4 ⟨A4, n4, c4, rfl, h1, h2, h3, h4⟩; have HF := Lib.hid (And.intro h1 (And.intro h2 (And.intro h3 h4))); clear h1 h2 h3 h4) | fail)
        have hnk : cn = n4 := by rw [← HF.out.1, actK_length, HKL.out]
        subst hnk
        have ho4 := HF.out.2.2.2.2
        have hs3 := HB3.out.size
        have HNX := Lib.hid (show (actK k p).length = cn ∧ MapAt w4 w.heap.size D (actK k p) own ∧ Cz w4 own A4 (bcells (actK k p)) ∧ Below w.heap.size w w4 from
          ⟨HF.out.1, HF.out.2.2.2.1, HF.out.2.2.1, MapAt.below (HM.out.past HB3.out) (HB.out.trans (HB3.out.mono HB.out.size)) ho4⟩)
        have HFc := Lib.hid (free_any (HM3.out.out ho4 (fun q hq ho => by have := (HM3.out.lt hq).1; have := (HM.out.lt ho).2; omega)))
        have HFk := Lib.hid (rfree_any (c := ck) HKL.out hc6 ((HK.out.past HB3.out).out ho4))
        have HFm := Lib.hid (free_any HNX.out.2.1)
        have HFn := Lib.hid (rfree_any (c := c4) HNX.out.1 hc6 HNX.out.2.2.1)
        have hc4 := HF.out.2.1
        obtain ⟨f1, hf1⟩ : ∃ f1, f1 = free k := ⟨_, rfl⟩
        obtain ⟨f2, hf2⟩ : ∃ f2, f2 = free (actK k p) := ⟨_, rfl⟩
        rw [← hf1] at HFc HFk
        rw [← hf2] at HFm HFn
        clear ho4 hf1 hf2 g0 g1 g2
        go_wp2_with fail
        refine HFc.out.mono ?_
        rintro e w' ⟨rfl, rfl⟩
        go_wp2_with fail
        refine HFk.out.mono ?_
        rintro e w' ⟨rfl, rfl⟩
        go_wp2_with fail
        refine HFm.out.mono ?_
        rintro e w' ⟨rfl, rfl⟩
        go_wp2_with fail
        refine HFn.out.mono ?_
        rintro e w' ⟨rfl, rfl⟩
        go_wp2
        go_roundw
        case rel => exact ⟨j + 1, by go_num, by omega, A4, c4, actK k p, rfl, hc4, Lib.hid HNX.out.1, Lib.hid HNX.out.2.1, Lib.hid HNX.out.2.2.1, Lib.hid HNX.out.2.2.2⟩
        case measure => simp [intOf]; omega
      · have hjn' : j = n := by omega
        subst hjn'
        have hcn0 : (0 : Int) ≤ (cn : Int) := by omega
        generalize wr = w8 at *
        go_wp2_with fail
        go_loopw [11] (fun x wr => ∃ i : Int, -1 ≤ i ∧ i ≤ (cn : Int) + 1 ∧ x = .int .i64 i ∧ w8 = wr) (fun x _ => ((cn : Int) + 1 - intOf x).toNat)
        case atStart => exact ⟨-1, by omega, by omega, rfl, rfl⟩
        rotate_left
        obtain ⟨i, hi1, hi2, rfl, rfl⟩ := hrel
        by_cases hli : i ≤ (cn : Int)
        · have q0 : decide (i ≤ (cn : Int)) = true := by simp; omega
          have HI := Lib.hid (is_any HM.out i)
          have hway : (decide (0 ≤ i) = false ∧ Hid (isD k i = false)) ∨ (decide (0 ≤ i) = true ∧ decide (i < (cn : Int)) = false ∧ Hid (isD k i = false)) ∨ (decide (0 ≤ i) = true ∧ decide (i < (cn : Int)) = true ∧ ∃ q : Nat, i = (q : Int) ∧ q < cn) := by
            unfold isD
            by_cases h1 : 0 ≤ i
            · by_cases h2 : i < (cn : Int)
              · exact .inr (.inr ⟨by simp; omega, by simp; omega, i.toNat, by omega, by omega⟩)
              · refine .inr (.inl ⟨by simp; omega, by simp; omega, Lib.hid ?_⟩)
                have : hasB k.length i = false := by unfold hasB; rw [HKL.out]; simp; omega
                rw [this, Bool.false_and]
            · refine .inl ⟨by simp; omega, Lib.hid ?_⟩
              have : hasB k.length i = false := by unfold hasB; simp; omega
              rw [this, Bool.false_and]
          rcases hway with ⟨d1, HX⟩ | ⟨d1, d2, HX⟩ | ⟨d1, d2, q, rfl, hq⟩
          iterate 2
            · rw [HX.out] at HI
              go_wp2_with (go_at_call 14; refine HI.out.mono ?_; rintro e w' ⟨rfl, rfl⟩)
              go_roundw
              case rel => exact ⟨i + 1, by omega, by omega, by go_num, trivial⟩
              case measure => simp [intOf]; omega
          have hqk : q < k.length := by rw [HKL.out]; exact hq
          have hisd : isD k (q : Int) = k.getD q false := by unfold isD; rw [hasB_nat hqk, Bool.true_and, Int.toNat_natCast]
          rw [hisd] at HI
          obtain ⟨a, rfl, e0⟩ := cz_bool HK.out hqk
          obtain ⟨b, hb⟩ : ∃ b, b = k.getD q false := ⟨_, rfl⟩
          rw [← hb] at e0 HI
          have d3 : (q : Int) < (cn : Int) := by omega
          clear hqk hisd hb
          cases b
          all_goals
            go_wp2_with (go_at_call 14; refine HI.out.mono ?_; rintro e w' ⟨rfl, rfl⟩)
            go_roundw
            case rel => exact ⟨(q : Int) + 1, by omega, by omega, by go_num, trivial⟩
            case measure => simp [intOf]; omega
        · have q0 : decide (i ≤ (cn : Int)) = false := by simp; omega
          go_wp2_with (go_at_call 7; refine (awake_any _).mono ?_; rintro e w9 ⟨rfl, hb⟩; have HB9 := Lib.hid (HB.out.trans (hb.mono HB.out.size)); clear hb)
          go_ret
          exact ⟨rfl, HB9.out⟩
open Go.ChangeShapes Go.WideShapes Go.ChangeAt Go.Joins
set_option maxRecDepth 100000 in
theorem extentPlays_lifted (os : Os) (started : os.Started) (H : Type) (enc : TypeId × Value → H) :
    ReturnsInHanded {} Try.checked os 3 .any (Rows.extentPlaysSpec.pre6 enc Try.prog Try.f3 Rows.extentPlaysRow.domain false) (Rows.extentPlaysSpec.post enc Try.prog Try.f3 false true false false) := by
  refine returnsInHanded_of_change (C := Try.checked) own started (by kernel_rfl) Try.func3
    (ChangeSpec.witness6 (enc := enc) (C := Try.checked) false ⟨#[], #[.int .i64 0, .slice none 0 0], []⟩ 8 (by kernel_rfl) (by kernel_rfl) (by kernel_rfl) (by kernel_rfl)) ?_
  intro W base args ds gs before hval0 hW hcnd _
  have hval : ∀ (j : Nat) t v, Try.f3.params[j]? = some t → args[j]? = some v → Value.okWide Try.prog W .any base t v := hval0
  have hW' := hW
  obtain ⟨p, q, hA0, hV, rfl, hfz, hnd⟩ := hW
  have hA : DataW.TrodAll enc Try.prog W 0 (fun _ => true) true Try.f3.params.toList args.toList ds p := hA0
  rw [Try.params3] at hA hval
  obtain ⟨v0, v1, d0, d1, p0, p1, rfl, rfl, rfl, h0, h1⟩ := trodAll_two hA
  obtain ⟨count, rfl, -, -, -⟩ := open_int Try.underlying3 (hval 0 3 v0 rfl rfl) h0
  obtain ⟨L, n, c, acts, rfl, ha, hnc, hcx, hac⟩ := open_acts Try.underlying22 Try.underlying34 (by kernel_rfl) (by kernel_rfl) rfl rfl rfl Try.underlying3 (by kernel_rfl) Try.underlying32 (hval 1 22 v1 rfl rfl) h1
  have hwalk : Calls Try.prog 3 #[.int .i64 count, .slice L n c] W fun e w' => e = .returned (.bool true) ∧ Below W.heap.size W w' := by
    exact plays_walk count L n c acts W ha (by omega) hac
  refine hwalk.mono fun e W' ⟨he, hb⟩ => ?_
  subst he
  exact ⟨_, rfl, Lw.post_true laidOut (by kernel_rfl) rfl rfl rfl rfl (by kernel_rfl) Try.underlying4 hW' hb⟩

/-- ExtentPlays: any row of acts is answered, and leaves all blocks, as the document says; a clone goes its own way. -/
theorem extentPlays_holds : Rows.ExtentPlaysSaid :=
  OpenClaim.holds_of_wide 3 Try.f3 rfl rfl rfl rfl rfl rfl rfl ⟨rfl, rfl, rfl, rfl, rfl⟩ rfl rfl rfl rfl rfl (by kernel_rfl) Try.func3 (by kernel_rfl)
    (of_decide_eq_true (by kernel_rfl)) (by unfold Func.isWrapper; rw [if_neg (of_decide_eq_false (by kernel_rfl))]; exact ⟨rfl, rfl⟩)
    (fun os started H enc _ => extentPlays_lifted os started H enc)
#print axioms extentPlays_holds
end Go.Proofs.Ytjphjlbbeammnaa
