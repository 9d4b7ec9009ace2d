/- ExtentBack is proved: what is taken and given back leaves the map as it was; for every input, no conditions. -/
import Derived.Test.YtjphjlbbeammnaaDoesE
import Derived.Test.YtjphjlbbeammnaaOk
import Derived.Laws.OwnMore
import Derived.ProofKit
import Derived.Lib.SmallJoins
namespace Go.Proofs.Ytjphjlbbeammnaa
open Go.RowKit Me Ex

/-- What is known of each slot of the round that carries an act out. -/
def backG (own : Nat → Prop) (D cn j n c : Nat) (count : Int) (a : Addr) (p : AE) (A2 : Option Addr) (n2 c2 : Nat) : Gw.Fact := fun t v W =>
  match t with
  | 7 | 25 => v = .pointer (some ⟨D, 0, none⟩)
  | 0 | 26 => v = .int .i64 count
  | 27 => v = .int .i64 (cn : Int)
  | 28 => ∃ g, v = .slice (some ⟨g, 0, none⟩) cn cn ∧ Cz W own (some ⟨g, 0, none⟩) (bcells (List.replicate cn false))
  | 1 | 29 => v = .slice (some a) n c
  | 8 | 30 => v = .int .i64 (j : Int)
  | 31 => v = .pointer (some (a.add (j * 3)))
  | 32 => v = .agg #[.int .i64 p.kind, .int .i64 p.n, .slice A2 n2 c2]
  | _ => True
/-- The worlds of this round. -/
def BackI (own : Nat → Prop) (wr : World) (B D : Nat) (k : List Bool) (p : Nat) (W : World) : Prop := if p = 0 then Below wr.heap.size wr W else MPost wr B D k own W
set_option maxRecDepth 100000 in
set_option maxHeartbeats 2000000 in
theorem back_walk (count : Int) (A : Option Addr) (n c : Nat) (acts : List AE) (x : Int) (w : World) (hl : acts.length = n) (hn : n ≤ 9223372036854775807) (hA : Acts w w.heap.size A acts) :
    Calls Try.prog 4 #[.int .i64 count, .slice A n c, .int .i64 x] w fun e w' => e = .returned (.bool true) ∧ Below w.heap.size w w' := by
  obtain ⟨i0, hi0, hz0, hz1, hz2⟩ := info_parts bool_info
  have HG := Lib.hid (great_any count A n c acts w w.heap.size hl hn hA)
  have HN := Lib.hid (new_any count w)
  have HL := Lib.hid hl
  have HA := Lib.hid hA
  clear hl hA
  go_enter Try.func4, Try.ntmps4
  go_wp2_with fail
  refine HG.out.mono ?_
  rintro e w' ⟨⟨b, rfl⟩, rfl⟩
  cases b with
  | true =>
    go_wp2_with (go_at_call 7; refine (awake_any _).mono ?_; rintro e w1 ⟨rfl, hb⟩; have HB := Lib.hid hb; clear hb)
    go_ret
    exact ⟨rfl, HB.out⟩
  | false =>
    go_wp2_with fail
    refine HN.out.mono ?_
    rintro e w1 ⟨D, own, rfl, hm1, hb1⟩
    have hcn : (min (max count 0) 65536).toNat = countN count := rfl
    have hc6 : countN count ≤ 65536 := by unfold countN; omega
    have HCT := Lib.hid (rcount_any count)
    rw [hcn] at hm1
    generalize countN count = cn at *
    have HM1 := Lib.hid hm1
    have HB1 := Lib.hid hb1
    have HB2 := Lib.hid (show i0.bytes * cn ≤ 281474976710656 by rw [hz2]; omega)
    have HMX := Lib.hid (show cn ≤ maxLen by unfold maxLen; omega)
    clear hm1 hb1 HG HN hcn
    go_wp2_with fail
    go_loopw [8] (fun y wr => ∃ j : Nat, y = .int .i64 (j : Int) ∧ j ≤ n ∧ ∃ k, Hid (k.length = cn) ∧ Hid (MapAt wr w.heap.size D k own) ∧ Hid (Below w.heap.size w wr)) (fun y _ => n - (intOf y).toNat)
    case atStart => exact ⟨0, rfl, Nat.zero_le _, List.replicate cn false, Lib.hid (List.length_replicate ..), HM1, HB1⟩
    case round =>
      obtain ⟨j, rfl, hjn, k, HKL, HM, HB⟩ := hrel
      by_cases hlt : j < n
      · obtain ⟨a, p, rfl, hab, hp, A2, n2, c2, g0, g1, g2, g3, g4, g5, g6⟩ := (HA.out.below HB.out).at (i := j) (by rw [HL.out]; exact hlt)
        have hlti : (j : Int) < (n : Int) := by omega
        have HP3 := Lib.hid g3
        have HCZ := Lib.hid (show Cz wr own A2 (icells p.l) from cz_of_cs g6 HB.out.size (fun q hq => (HM.out.lt hq).1))
        have HAT := Lib.hid (And.intro g0 (And.intro g1 g2))
        have habr : (a.add (j * 3)).block < wr.heap.size := by have := HB.out.size; rw [block_add]; omega
        have HLT := Lib.hid (fun q => HM.out.lt (j := q))
        clear hp g0 g1 g2 g3 g6
        go_wp2_with fail
        refine Gw.wp_region_phase (Out own) (Out.refl own) (fun _ _ _ => Out.trans) (BackI own wr w.heap.size D (actK k p)) (backG own D cn j n c count a p A2 n2 c2) [8] [25, 26, 27, 28, 29, 30, 31, 32, 33] [([7], none, [0], false), ([0], none, [0], false), ([26], none, [0], false), ([27, 27], none, [0], false), ([1], none, [0], false), ([8], none, [0], false), ([29, 30], none, [0], false), ([31], none, [0], false), ([25, 28, 32], none, [0], true)] 85 1 (by kernel_rfl) (by kernel_rfl) rfl (out_drew _ _) ?hI ?h0 ?hreq ?hend
        case hI =>
          rw [BackI, if_pos rfl]
          exact (Below.refl _ _).drew
        case h0 =>
          intro t W hnd _
          unfold backG
          split <;> first | rfl | trivial | exact absurd (by simp) hnd
        case hreq =>
          refine ⟨⟨?_, trivial⟩, ⟨?_, trivial⟩, ⟨?_, trivial⟩, ⟨?_, trivial⟩, ⟨?_, trivial⟩, ⟨?_, trivial⟩, ⟨?_, trivial⟩, ⟨?_, trivial⟩, ⟨?_, trivial⟩, trivial⟩
          all_goals
            intro ac W hR hI hk
            simp only [Gw.Knows, backG] at hk
            try (simp [go_sem, Gw.POpReq, Gw.OkP, Gw.PPost, Gw.HoldsR, backG, Out.refl, hI, hk, hlti]; done)
          · simp [go_sem, Gw.POpReq, Gw.OkP, Gw.PPost, Gw.HoldsR, backG, hk]
            refine (HCT.out W).mono ?_
            rintro e w5 ⟨rfl, rfl⟩
            exact ⟨_, rfl, Out.refl _ _, hI, fun _ _ => rfl⟩
          · obtain ⟨hk1, -⟩ := hk
            obtain ⟨w5, hrun, ho, hg⟩ := run_make_full (P := Try.prog) W W.heap.size 27 4 i0 _ 1 Try.underlying27 hi0 hz0 hz1 .i64 .i64 cn HB2.out HMX.out (Nat.le_refl _)
            rw [made_free] at ho
            have hs5 := hg.size
            rw [BackI, if_pos rfl] at hI
            exact Gw.ok_make rfl ((Gw.eval_slot ac 27).trans hk1) ((Gw.eval_slot ac 27).trans hk1) hrun ⟨Out.of_grown hg (fun _ e _ => by cases e), by show BackI own wr w.heap.size D (actK k p) 0 w5; rw [BackI, if_pos rfl]; exact hI.grown hg hI.size (fun _ e => by cases e), fun W' hW' =>
              ⟨_, rfl, (Cz.of_own ho (fun q hq _ hown => by have := (HLT.out q hown).2; have := hI.size; omega)).out hW'⟩⟩
          · have hI2 := hI
            rw [BackI, if_pos rfl] at hI2
            have f0 := (hI2.cell habr).trans HAT.out.1
            have f1 := (hI2.cell (p := ⟨(a.add (j * 3)).block, (a.add (j * 3)).off + 1, none⟩) habr).trans HAT.out.2.1
            have f2 := (hI2.cell (p := ⟨(a.add (j * 3)).block, (a.add (j * 3)).off + 2, none⟩) habr).trans HAT.out.2.2
            simp [go_sem, Gw.POpReq, Gw.OkP, Gw.PPost, Gw.HoldsR, backG, Out.refl, hI, hk, f0, f1, f2]
          · obtain ⟨hk1, ⟨g, hk2, hcz⟩, hk3, -⟩ := hk
            rw [BackI, if_pos rfl] at hI
            simp [go_sem, Gw.POpReq, Gw.OkP, Gw.PPost, Gw.HoldsR, backG, hk1, hk2, hk3]
            refine (does_any (HM.out.past hI) List.length_replicate hc6 (Nat.le_refl _) hcz p HP3.out g4 g5 (HCZ.out.past hI)).mono ?_
            rintro e w5 ⟨A5, n5, c5, rfl, -, -, -, h5⟩
            refine ⟨⟨_, rfl⟩, h5.2, ?_⟩
            rw [BackI, if_neg (by omega)]
            exact ⟨h5.1, (Out.of_below hI).trans h5.2⟩
        case hend =>
          intro x' w4 _ hI hx
          rw [BackI, if_neg (by simp)] at hI
          have HI := Lib.hid hI
          clear hx hI
          simp only [Gw.putAll, Act.put, List.setIfInBounds_toArray, List.set_cons_zero, List.set_cons_succ]
          go_wp2
          go_roundw
          case rel => exact ⟨j + 1, by go_num, by omega, actK k p, Lib.hid (by rw [actK_length]; exact HKL.out), Lib.hid HI.out.1, Lib.hid (MapAt.below HM.out HB.out HI.out.2)⟩
          case measure => simp [intOf]; omega
      · have hjn' : j = n := by omega
        subst hjn'
        generalize wr = w8 at *
        go_wp2_with fail
        refine (mclone_any HM.out).mono ?_
        rintro e w9 ⟨D', own', rfl, hm9, hb9⟩
        have HM9 := Lib.hid hm9
        have HK9 := Lib.hid (HM.out.past hb9)
        have HB9 := Lib.hid (HB.out.trans (hb9.mono HB.out.size))
        have HNO := Lib.hid (show ∀ q, own' q → ¬ own q from fun q hq ho => by have := (hm9.lt hq).1; have := (HM.out.lt ho).2; omega)
        clear hm9 hb9
        have herr := takeD_err k x
        have hlen := takeD_length k x
        have HTA := Lib.hid (take_any HK9.out x)
        have HNE := Lib.hid (takeD_no (k := k) (n := x))
        have HGV := Lib.hid (take_give (k := k) (n := x))
        obtain ⟨fk, hfk⟩ : ∃ fk, fk = free k := ⟨_, rfl⟩
        rw [← hfk] at herr HNE
        generalize takeD k x = R at *
        obtain ⟨k2, l2, er⟩ := R
        replace herr : er = if x < 0 then 1 else if (fk : Int) < x then 7 else 0 := herr
        clear hlen
        by_cases he : er = 0
        · subst he
          have hgv : turnD k2 l2 false = (k, 0) := HGV.out rfl
          have HGV2 := Lib.hid hgv
          clear herr hgv hfk
          go_wp2_with fail
          refine HTA.out.mono ?_
          rintro e w10 ⟨A3, n3, c3, rfl, h1, h2, h3, -, h5, h6⟩
          have hg10 := give_any h6.1 A3 n3 c3 l2 h1 h2 (by have := HM.out.most; omega) h5
          rw [HGV2.out] at hg10
          have HG10 := Lib.hid hg10
          have HO10 := Lib.hid h6.2
          clear h1 h2 h3 h5 h6 hg10
          go_wp2_with fail
          refine HG10.out.mono ?_
          rintro e w11 ⟨rfl, hm11, ho11⟩
          have HM11 := Lib.hid hm11
          have HW11 := Lib.hid ((HM9.out.out HO10.out HNO.out).out ho11 HNO.out)
          have HB11 := Lib.hid (MapAt.below HK9.out HB9.out (HO10.out.trans ho11))
          clear hm11 ho11
          go_wp2_with fail
          go_loopw [12] (fun y wr => ∃ i : Nat, i ≤ cn ∧ y = .int .i64 (i : Int) ∧ w11 = wr) (fun y _ => cn - (intOf y).toNat)
          case atStart => exact ⟨0, Nat.zero_le _, rfl, rfl⟩
          rotate_left
          obtain ⟨i, hi, rfl, rfl⟩ := hrel
          by_cases hli : i < cn
          · have q0 : decide ((i : Int) < (cn : Int)) = true := by simp; omega
            have q1 : decide (i < cn) = true := by simp; omega
            go_wp2_with fail
            refine (HCT.out _).mono ?_
            rintro e w' ⟨rfl, rfl⟩
            have HI1 := Lib.hid (is_any HM11.out (i : Int))
            have HI2 := Lib.hid (is_any HW11.out (i : Int))
            obtain ⟨b, hb⟩ : ∃ b, b = isD k (i : Int) := ⟨_, rfl⟩
            rw [← hb] at HI1 HI2
            clear hb
            go_wp2_with fail
            refine HI1.out.mono ?_
            rintro e w' ⟨rfl, rfl⟩
            go_wp2_with fail
            refine HI2.out.mono ?_
            rintro e w' ⟨rfl, rfl⟩
            go_wp2
            go_roundw
            case rel => exact ⟨i + 1, by omega, by go_num, trivial⟩
            case measure => simp [intOf]; omega
          · have q0 : decide ((i : Int) < (cn : Int)) = false := by simp; omega
            have q1 : decide (i < cn) = false := by simp; omega
            go_wp2_with fail
            refine (HCT.out _).mono ?_
            rintro e w' ⟨rfl, rfl⟩
            go_wp2_with fail
            refine (free_any HM11.out).mono ?_
            rintro e w' ⟨rfl, rfl⟩
            have HFW := Lib.hid (free_any HW11.out)
            generalize free k = f1 at *
            go_wp2_with fail
            refine HFW.out.mono ?_
            rintro e w' ⟨rfl, rfl⟩
            go_wp2_with (go_at_call 7; refine (awake_any _).mono ?_; rintro e w12 ⟨rfl, hb⟩; have HB12 := Lib.hid (HB11.out.trans (hb.mono HB11.out.size)); clear hb)
            go_ret
            exact ⟨rfl, HB12.out⟩
        · obtain ⟨hl2, hk2, hor⟩ := HNE.out he
          replace hl2 : l2 = [] := hl2
          replace hk2 : k2 = k := hk2
          subst hl2 hk2
          have d0 : (er == 0) = false := by simp [he]
          have hway : decide (x < 0) = true ∨ (decide (x < 0) = false ∧ decide ((fk : Int) < x) = true) := by
            by_cases h : x < 0
            · exact .inl (by simp; omega)
            · exact .inr ⟨by simp; omega, by simp; omega⟩
          have HFK := Lib.hid hfk
          clear herr hor hfk he
          rcases hway with d1 | ⟨d1, d2⟩
          · go_wp2_with fail
            refine HTA.out.mono ?_
            rintro e w10 ⟨A3, n3, c3, rfl, h1, -, -, -, -, h6⟩
            have hn3 : n3 = 0 := h1.symm
            subst hn3
            have HB10 := Lib.hid (MapAt.below HK9.out HB9.out h6.2)
            clear h1 h6
            go_wp2_with (go_at_call 7; refine (awake_any _).mono ?_; rintro e w12 ⟨rfl, hb⟩; have HB12 := Lib.hid (HB10.out.trans (hb.mono HB10.out.size)); clear hb)
            go_ret
            exact ⟨rfl, HB12.out⟩
          · go_wp2_with fail
            refine HTA.out.mono ?_
            rintro e w10 ⟨A3, n3, c3, rfl, h1, -, -, -, -, h6⟩
            have hn3 : n3 = 0 := h1.symm
            subst hn3
            have HB10 := Lib.hid (MapAt.below HK9.out HB9.out h6.2)
            have hf10 := free_any h6.1
            rw [show free (k2, ([] : List Int), er).1 = fk from HFK.out.symm] at hf10
            have HF10 := Lib.hid hf10
            clear h1 h6 hf10
            go_wp2_with (first
              | (go_at_call 12; refine HF10.out.mono ?_; rintro e w' ⟨rfl, rfl⟩)
              | (go_at_call 7; refine (awake_any _).mono ?_; rintro e w12 ⟨rfl, hb⟩; have HB12 := Lib.hid (HB10.out.trans (hb.mono HB10.out.size)); clear hb))
            go_ret
            exact ⟨rfl, HB12.out⟩
open Go.ChangeShapes Go.WideShapes Go.ChangeAt Go.Joins
set_option maxRecDepth 100000 in
theorem extentBack_lifted (os : Os) (started : os.Started) (H : Type) (enc : TypeId × Value → H) :
    ReturnsInHanded {} Try.checked os 4 .any (Rows.extentBackSpec.pre6 enc Try.prog Try.f4 Rows.extentBackRow.domain false) (Rows.extentBackSpec.post enc Try.prog Try.f4 false true false false) := by
  refine returnsInHanded_of_change (C := Try.checked) own started (by kernel_rfl) Try.func4
    (ChangeSpec.witness6 (enc := enc) (C := Try.checked) false ⟨#[], #[.int .i64 0, .slice none 0 0, .int .i64 0], []⟩ 8 (by kernel_rfl) (by kernel_rfl) (by kernel_rfl) (by kernel_rfl)) ?_
  intro W base args ds gs before hval0 hW hcnd _
  have hval : ∀ (j : Nat) t v, Try.f4.params[j]? = some t → args[j]? = some v → Value.okWide Try.prog W .any base t v := hval0
  have hW' := hW
  obtain ⟨p, q, hA0, hV, rfl, hfz, hnd⟩ := hW
  have hA : DataW.TrodAll enc Try.prog W 0 (fun _ => true) true Try.f4.params.toList args.toList ds p := hA0
  rw [Try.params4] at hA hval
  obtain ⟨v0, v1, v2, d0, d1, d2, p0, p1, p2, rfl, rfl, rfl, h0, h1, h2⟩ := trodAll_three hA
  obtain ⟨count, rfl, -, -, -⟩ := open_int Try.underlying3 (hval 0 3 v0 rfl rfl) h0
  obtain ⟨L, n, c, acts, rfl, ha, hnc, hcx, hac⟩ := open_acts Try.underlying22 Try.underlying34 (by kernel_rfl) (by kernel_rfl) rfl rfl rfl Try.underlying3 (by kernel_rfl) Try.underlying32 (hval 1 22 v1 rfl rfl) h1
  obtain ⟨x, rfl, -, -, -⟩ := open_int Try.underlying3 (hval 2 3 v2 rfl rfl) h2
  have hwalk : Calls Try.prog 4 #[.int .i64 count, .slice L n c, .int .i64 x] W fun e w' => e = .returned (.bool true) ∧ Below W.heap.size W w' := by
    exact back_walk count L n c acts x W ha (by omega) hac
  refine hwalk.mono fun e W' ⟨he, hb⟩ => ?_
  subst he
  exact ⟨_, rfl, Lw.post_true laidOut (by kernel_rfl) rfl rfl rfl rfl (by kernel_rfl) Try.underlying4 hW' hb⟩

/-- ExtentBack: what is taken and given back leaves the map as it was. -/
theorem extentBack_holds : Rows.ExtentBackSaid :=
  OpenClaim.holds_of_wide 4 Try.f4 rfl rfl rfl rfl rfl rfl rfl ⟨rfl, rfl, rfl, rfl, rfl⟩ rfl rfl rfl rfl rfl (by kernel_rfl) Try.func4 (by kernel_rfl)
    (of_decide_eq_true (by kernel_rfl)) (by unfold Func.isWrapper; rw [if_neg (of_decide_eq_false (by kernel_rfl))]; exact ⟨rfl, rfl⟩)
    (fun os started H enc _ => extentBack_lifted os started H enc)
#print axioms extentBack_holds
end Go.Proofs.Ytjphjlbbeammnaa
