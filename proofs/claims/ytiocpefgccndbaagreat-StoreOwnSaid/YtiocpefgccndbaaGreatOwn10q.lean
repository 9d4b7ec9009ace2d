/- StoreOwn: what was handed in, or answered, is memory of one's own; for every input. -/
import Derived.ProofKit
import Derived.Lib.SmallJoins
import Derived.Test.YtiocpefgccndbaaGreatKa28
namespace Go.Proofs.YtiocpefgccndbaaGreat
open Go.RowKit Me Mf Rw Ds Va Go.Maps

/-- A row of one's own that has been written into, and nothing else has. -/
def Turned (w0 w : World) (base : Nat) (v : Value) (n : Nat) : Prop :=
  ∃ l : List UInt8, l.length = n ∧ w.ownsRow base 5 1 v n (cellsOf l) ∧ w0.grownBy w v.ownBlock
/-- Nothing below the row's base has turned. -/
theorem Turned.below {w0 w : World} {base B : Nat} {v : Value} {n : Nat} (h : Turned w0 w base v n) (hB : B ≤ base) (hs : B ≤ w0.heap.size) : Below B w0 w := by
  obtain ⟨l, -, ho, hg⟩ := h
  exact (Below.refl B w0).grown hg hs fun k hk => by have := (World.ownsRow.lt ho k hk).1; omega
theorem turned_start {w : World} {base : Nat} {v : Value} {n : Nat} {l : List UInt8} (h : w.ownsRow base 5 1 v n (cellsOf l)) (hl : l.length = n) : Turned w w base v n :=
  ⟨l, hl, h, World.grownBy.refl w _⟩
/-- A row with an element, as a round meets it. -/
theorem Turned.at {w0 w : World} {base : Nat} {X : Option Addr} {n c j : Nat} (h : Turned w0 w base (.slice X n c) n) (hj : j < n) :
    ∃ (g : Nat) (u : UInt8), X = some ⟨g, 0, none⟩ ∧ w.cell? ⟨g, j, none⟩ = some (.int .u8 (u.toNat : Int)) ∧ w.frozen? ⟨g, j, none⟩ = false ∧
      ∀ x : UInt8, Turned w0 (w.setCell ⟨g, j, none⟩ (.int .u8 (x.toNat : Int))) base (.slice X n c) n := by
  obtain ⟨l, hl, ho, hg⟩ := h
  obtain ⟨g, cap, hv, -, -⟩ := ho.form (by omega)
  injection hv with h1 h2 h3
  subst h1 h3
  obtain ⟨u, -, hc, hf⟩ := own_at ho hj
  refine ⟨g, u, rfl, hc, hf, fun x => ?_⟩
  obtain ⟨a1, a2⟩ := own_set ho j x
  exact ⟨l.set j x, by simpa using hl, a1, hg.trans a2⟩
theorem Turned.out {w0 w : World} {base : Nat} {v : Value} {n : Nat} (h : Turned w0 w base v n) : Out (fun k => v.ownBlock = some k) w0 w := by
  obtain ⟨l, -, -, hg⟩ := h
  exact Out.of_grown hg fun k e _ => e
set_option maxRecDepth 100000 in
set_option maxHeartbeats 4000000 in
theorem sown_walk (A : Option Addr) (n c : Nat) (b : List UInt8) (y : UInt8) (w : World) (hl : b.length = n) (hr : Rd w w.heap.size A b) :
    Calls Tryz.prog 8 #[.slice A n c, .int .u8 (y.toNat : Int)] w fun e w' => e = .returned (.bool true) ∧ Below w.heap.size w w' := by
  by_cases hg : n > 1000
  · have HAW := Lib.hid (awake_any w)
    have d1 : decide ((1000 : Int) < (n : Int)) = true := by simp; omega
    clear hl hr
    go_enter Tryz.func8, Tryz.ntmps8
    go_wp2_with (go_at_call 10; refine HAW.out.mono ?_; rintro e w9 ⟨rfl, hb⟩; have HB9 := Lib.hid hb; clear hb)
    go_ret
    exact ⟨rfl, HB9.out⟩
  · obtain ⟨i0, hi0, hz0, hz1, hz2⟩ := info_parts u8_info
    have d1 : decide ((1000 : Int) < (n : Int)) = false := by simp; omega
    have hy := y.toNat_lt
    have HL := Lib.hid hl
    have HR := Lib.hid hr
    have HBG := Lib.hid (begin_any 60 (by omega) (by omega) w)
    clear hl hr
    go_enter Tryz.func8, Tryz.ntmps8
    go_wp2_with (go_at_call 11; refine HBG.out.mono ?_)
    rintro e w1 ⟨G, P, D, M, own, ownD, rfl, hbx, hst, hnG, hb1, hG⟩
    have c0 := hbx.cell (i := 0) rfl
    have HX := Lib.hid hbx
    have HS := Lib.hid hst
    have HN := Lib.hid hnG
    have HB := Lib.hid hb1
    have HGG := Lib.hid hG
    have HB0 := Lib.hid (show Below w1.heap.size w1 (w1.alloc (.cells #[] 5)) from (Below.refl _ _).alloc (Nat.le_refl _) _)
    clear hbx hst hnG hb1 hG HBG
    have HRT := Lib.hid (show Rd (w1.alloc (.cells #[] 5)) w.heap.size A b from (HR.out.below HB.out).below (HB0.out.mono HB.out.size))
    have HSZ := Lib.hid (show w.heap.size ≤ (w1.alloc (.cells #[] 5)).heap.size from Nat.le_trans HB.out.size HB0.out.size)
    go_wp2_with (at_builtin; refine wpList_app rfl (.tmp 25) (.tmp 26) 29 rfl w1.heap.size 5 i0 _ Tryz.underlying29 hi0 hz0 hz1 hz2 rfl (.slice (some ⟨w1.heap.size, 0, none⟩) 0 0) 0 [] rfl (own_empty w1 _ _ (Nat.le_refl _)) w.heap.size A n c b rfl HL.out HRT.out (by omega) HB0.out.size ?_; intro v1 w2 hown1 hg1 hat1; have HB1 := Lib.hid (below_app HB0.out (own_empty w1 _ _ (Nat.le_refl _)) (Nat.le_refl _) HB0.out.size hg1); have HW1 := Lib.hid hown1; have c0 : w2.cell? ⟨G, 0, none⟩ = some (.pointer (some ⟨P, 0, none⟩)) := (HX.out.past HB1.out).cell (i := 0) rfl; clear hat1 hg1 hown1)
    obtain ⟨Wa, cw, rfl⟩ := own_slice HW1.out
    have hw1 := HW1.out
    rw [Nat.zero_add, List.nil_append] at hw1
    have hcw : n ≤ cw := own_cap' hw1
    rw [Nat.zero_add]
    have HW2 := Lib.hid hw1
    have HE := Lib.hid (show ∀ k, (Value.slice Wa n cw).ownBlock = some k → w1.heap.size ≤ k ∧ k < w2.heap.size from fun k hk => hw1.lt k hk)
    have hBw : w.heap.size ≤ w1.heap.size := HB.out.size
    have hst2 := HS.out.with HB1.out HE.out hBw
    have HWR := Lib.hid (swrite_any hst2 [97] Wa n cw b HL.out (by omega) (Rd.of_own hw1) (by unfold maxLen; omega))
    have HX2 := Lib.hid (HX.out.past HB1.out)
    have HB2 := Lib.hid (HB.out.trans (HB1.out.mono hBw))
    have HS2 := Lib.hid hst2
    have h12 := HB1.out.size
    clear hw1 HW1 c0 hst2
    refine HWR.out.mono ?_
    have hal : allowD (upD ⟨newD 60, noMan, noC, false⟩) [97] (n : Int) = 0 := by
      unfold allowD upD newD
      simp
      omega
    rintro e w3 ⟨rfl, ⟨hr, -⟩ | ⟨-, hs3, ho3⟩⟩
    · exact absurd hal hr
    rw [hal]
    have hEF : ∀ k, (Value.slice Wa n cw).ownBlock = some k → ¬ Foot P M ownD k := fun k hk hf => by
      have h1 := (HE.out k hk).1
      have h2 := (HS.out.low k (HS.out.own k hf)).2
      omega
    have HEF := Lib.hid hEF
    have hbx3 := HX2.out.out ho3 fun hf => HN.out (HS.out.own G hf)
    have c0 := hbx3.cell (i := 0) rfl
    have hrow3 := own_out HW2.out ho3 fun k hk e => hEF k hk e
    have HX3 := Lib.hid hbx3
    have HT3 := Lib.hid (turned_start hrow3 HL.out)
    have HS3 := Lib.hid hs3
    have HB3 := Lib.hid (HB2.out.trans (ho3.below (fun k hk hs => (HS.out.low k (HS.out.own k hs)).1) HB2.out.size))
    have hs23 := ho3.size
    clear hal hEF hbx3 hrow3 ho3 hs3 HWR HX2
    go_wp2_with fail
    go_loopw [9] (fun i wr => ∃ k : Nat, k ≤ n ∧ i = .int .i64 k ∧ Hid (Turned w3 wr w1.heap.size (.slice Wa n cw) n)) (fun i _ => n - (intOf i).toNat)
    case atStart => exact ⟨0, Nat.zero_le _, rfl, HT3⟩
    case round =>
      obtain ⟨k, hk, rfl, HTk⟩ := hrel
      by_cases hlt : k < n
      · obtain ⟨g, u, rfl, hcell, hfr, hset⟩ := HTk.out.at hlt
        have HSE := Lib.hid hset
        have hu := u.toNat_lt
        clear hset
        go_wp2
        go_roundw
        case rel => exact ⟨k + 1, by omega, by go_num, Lib.hid (by rw [xor_u8]; exact HSE.out _)⟩
        case measure => simp [intOf]; omega
      · generalize wr = w4 at *
        have ho4 := HTk.out.out
        have hbx4 := HX3.out.out ho4 fun e => by
          have h1 := (HE.out G e).1
          have h2 := HX.out.lt
          omega
        have c0 := hbx4.cell (i := 0) rfl
        have hs4 := HS3.out.kept ho4 fun j hj e => ⟨.inr e, HEF.out j e⟩
        have hB4 : Below w.heap.size w w4 := HB3.out.trans (HTk.out.below hBw HB3.out.size)
        have hrest : Rest ⟨newD 60, noMan, setC noC [97] (some b), false⟩ (fun _ => []) := (Rest.new (n := 60) (by omega)).change hs4.ok
        have HRD := Lib.hid (sread_any hs4 [97] (by decide) (show 0 < _ by omega))
        rw [hrest.reads, if_pos (by simp [hasN, setC])] at HRD
        rw [show newF (setC noC [97] (some b)) (fun _ => []) [97] = b by simp [newF, setC]] at HRD
        have HX4 := Lib.hid hbx4
        have HS4 := Lib.hid hs4
        have HB4 := Lib.hid hB4
        have HRS := Lib.hid hrest
        clear ho4 hbx4 hs4 hB4 hrest
        go_wp2_with fail
        refine HRD.out.mono ?_
        rintro e w5 ⟨A5, n5, c5, rfl, ho5, hb5⟩
        have hn5 : n5 = n := by have := ho5.1; rw [cellsOf_length, Nat.mul_one, HL.out] at this; exact this.symm
        subst hn5
        have hB5 := HB4.out.trans (hb5.mono HB4.out.size)
        have hcs1 := str_any A5 n5 c5 b w5 _ HL.out (Rd.of_own ho5)
        have hcs2 := str_any A n5 c b w5 _ HL.out (HR.out.below hB5)
        have hbx5 := HX4.out.past hb5
        have c0 := hbx5.cell (i := 0) rfl
        have HE5 := Lib.hid (show ∀ k, (Value.slice A5 n5 c5).ownBlock = some k → w4.heap.size ≤ k ∧ k < w5.heap.size from fun k hk => ho5.lt k hk)
        have hs5 := HS4.out.with hb5 HE5.out HB4.out.size
        have HCO := Lib.hid (scommit_any hs5 (by omega) (show 0 + 4096 ≤ _ by omega))
        have HS5 := Lib.hid hs5
        have HX5 := Lib.hid hbx5
        have HB5 := Lib.hid hB5
        have HB45 := Lib.hid hb5
        have HW5 := Lib.hid ho5
        clear ho5 hb5 hB5 hbx5 hs5 HRD
        go_wp2_with fail
        refine HCO.out.mono ?_
        rintro e w6 ⟨X6, r6, rfl, hci, own6, ownD6, hs6, hf6⟩
        obtain ⟨rfl, rfl, hrest6⟩ : r6 = 0 ∧ X6 = ⟨(putD ⟨newD 60, noMan, setC noC [97] (some b), false⟩ (oneP [97] b.length)).1, oneP [97] b.length, noC, false⟩ ∧ Rest ⟨(putD ⟨newD 60, noMan, setC noC [97] (some b), false⟩ (oneP [97] b.length)).1, oneP [97] b.length, noC, false⟩ (newF (setC noC [97] (some b)) fun _ => []) := by
          have hbl : b.length ≤ 1000 := by rw [HL.out]; omega
          rcases hci with ⟨q, -⟩ | ⟨-, q, -⟩ | ⟨-, -, l, hl, hq⟩
          · rw [HRS.out.up] at q; cases q
          · have := q [97]; simp [setC] at this
          · have hl1 := names_one rfl rfl hl
            subst hl1
            have hnx := oneP_next (X := ⟨newD 60, noMan, setC noC [97] (some b), false⟩) (b := b) rfl (by simp [newD]) rfl (by decide) hbl
            rcases hq with ⟨q, -⟩ | ⟨m, hm, hq⟩
            · exact absurd ((hnx _).2 rfl) (q _)
            · have hm1 := (hnx m).1 hm
              subst hm1
              obtain ⟨d1, d2⟩ := HRS.out.commit hm (oneP_wf hbl)
              rcases hq with ⟨q, -⟩ | ⟨-, rfl, rfl⟩
              · exact absurd d1 q
              · exact ⟨rfl, rfl, d2⟩
        have HRS6 := Lib.hid hrest6
        have hEF5 : ∀ k, (Value.slice A5 n5 c5).ownBlock = some k → ¬ Foot P M ownD k := fun k hk hf => by
          have h1 := (HE5.out k hk).1
          have h2 := (HS4.out.low k (HS4.out.own k hf)).2
          omega
        have hbx6 := HX5.out.out hf6.1 fun hf => HN.out (HS.out.own G hf)
        have c0 := hbx6.cell (i := 0) rfl
        have hrow6 := own_out HW5.out hf6.1 fun k hk e => hEF5 k hk e
        have HX6 := Lib.hid hbx6
        have HT6 := Lib.hid (turned_start hrow6 HL.out)
        have HS6 := Lib.hid hs6
        have HF6 := Lib.hid hf6
        have HB6 := Lib.hid (HB5.out.trans (hf6.1.below (fun k hk hs => (HS.out.low k (HS.out.own k hs)).1) HB5.out.size))
        have hs56 := hf6.1.size
        have h45 := HB45.out.size
        clear hci hbx6 hrow6 hs6 hf6 HCO hrest6 hEF5
        go_wp2_with fail
        go_loopw [12] (fun i wq => ∃ j : Nat, j ≤ n5 ∧ i = .int .i64 j ∧ Hid (Turned w6 wq w4.heap.size (.slice A5 n5 c5) n5)) (fun i _ => n5 - (intOf i).toNat)
        case atStart => exact ⟨0, Nat.zero_le _, rfl, HT6⟩
        case round =>
          obtain ⟨j, hj, rfl, HTj⟩ := hrel
          by_cases hjlt : j < n5
          · obtain ⟨g, u, rfl, hcell, hfr, hset⟩ := HTj.out.at hjlt
            have HSE := Lib.hid hset
            have hu := u.toNat_lt
            clear hset
            go_wp2
            go_roundw
            case rel => exact ⟨j + 1, by omega, by go_num, Lib.hid (by rw [xor_u8]; exact HSE.out _)⟩
            case measure => simp [intOf]; omega
          · generalize wr = w7 at *
            have ho7 := HTj.out.out
            have hbx7 := HX6.out.out ho7 fun e => by
              have h1 := (HE5.out G e).1
              have h2 := HX4.out.lt
              omega
            have c0 := hbx7.cell (i := 0) rfl
            have hs7 := HS6.out.kept ho7 fun q hq e => ⟨HF6.out.2.2.1 q (.inr e), fun hf => by
              have h1 := HE5.out q e
              rcases hf with e1 | e1 | e1
              · have := (HS4.out.low P (HS4.out.own P (.inl rfl))).2; omega
              · have := (HS4.out.low M (HS4.out.own M (.inr (.inl rfl)))).2; omega
              · rcases HF6.out.2.2.2 q e1 with e2 | e2
                · have := (HS4.out.low q (HS4.out.own q (.inr (.inr e2)))).2; omega
                · omega⟩
            have hB7 : Below w.heap.size w w7 := HB6.out.trans (HTj.out.below (Nat.le_trans HB4.out.size (Nat.le_refl _)) HB6.out.size)
            have HRD := Lib.hid (sread_any hs7 [97] (by decide) (show _ < _ by rw [HRS6.out.calm.pend]; show 0 < _; omega))
            rw [HRS6.out.reads, if_pos (by simp [hasN, oneP, noC])] at HRD
            rw [show newF noC (newF (setC noC [97] (some b)) fun _ => []) [97] = b by simp [newF, setC, noC]] at HRD
            have HB7 := Lib.hid hB7
            clear ho7 hbx7 hs7 hB7
            go_wp2_with fail
            refine HRD.out.mono ?_
            rintro e w8 ⟨A8, n8, c8, rfl, ho8, hb8⟩
            have hn8 : n8 = n5 := by have := ho8.1; rw [cellsOf_length, Nat.mul_one, HL.out] at this; exact this.symm
            subst hn8
            have hB8 := HB7.out.trans (hb8.mono HB7.out.size)
            have hcs1 := str_any A8 n8 c8 b w8 _ HL.out (Rd.of_own ho8)
            have hcs2 := str_any A n8 c b w8 _ HL.out (HR.out.below hB8)
            have HB8 := Lib.hid hB8
            clear ho8 hb8 hB8 HRD
            go_wp2_with (go_at_call 10; refine (awake_any _).mono ?_; rintro e w9 ⟨rfl, hb⟩; have HB9 := Lib.hid (HB8.out.trans (hb.mono HB8.out.size)); clear hb)
            go_ret
            exact ⟨rfl, HB9.out⟩
open Go.ChangeShapes Go.WideShapes Go.ChangeAt Go.Joins
set_option maxRecDepth 100000 in
theorem storeOwn_lifted (os : Os) (started : os.Started) (H : Type) (enc : TypeId × Value → H) :
    ReturnsInHanded {} Tryz.checked os 8 .any (Rows.storeOwnSpec.pre6 enc Tryz.prog Tryz.f8 Rows.storeOwnRow.domain false) (Rows.storeOwnSpec.post enc Tryz.prog Tryz.f8 false true false false) := by
  refine returnsInHanded_of_change (C := Tryz.checked) own started (by kernel_rfl) Tryz.func8
    (ChangeSpec.witness6 (enc := enc) (C := Tryz.checked) false ⟨#[], #[.slice none 0 0, .int .u8 0], []⟩ 8 (by kernel_rfl) (by kernel_rfl) (by kernel_rfl) (by kernel_rfl)) ?_
  intro W base args ds gs before hval0 hW hcnd _
  have hval : ∀ (j : Nat) t v, Tryz.f8.params[j]? = some t → args[j]? = some v → Value.okWide Tryz.prog W .any base t v := hval0
  have hW' := hW
  obtain ⟨p, q, hA0, hV, rfl, hfz, hnd⟩ := hW
  have hA : DataW.TrodAll enc Tryz.prog W 0 (fun _ => true) true Tryz.f8.params.toList args.toList ds p := hA0
  rw [Tryz.params8] at hA hval
  obtain ⟨v0, v1, d0, d1, p0, p1, rfl, rfl, rfl, h0, h1⟩ := trodAll_two hA
  obtain ⟨A, n, c, l, rfl, hl, hnc, hn63, hr⟩ := open_bytes Tryz.underlying29 Tryz.underlying5 cells_u8 (hval 0 29 v0 rfl rfl) h0
  obtain ⟨y, rfl, -, -, wy⟩ := open_int Tryz.underlying5 (hval 1 5 v1 rfl rfl) h1
  have hy : 0 ≤ y ∧ y < 256 := by simp [Lit.wf, IntKind.min, IntKind.max, IntKind.bits, IntKind.signed] at wy; omega
  have hy8 : y = ((UInt8.ofNat y.toNat).toNat : Int) := by rw [UInt8.toNat_ofNat']; omega
  have hwalk : Calls Tryz.prog 8 #[.slice A n c, .int .u8 y] W fun e w' => e = .returned (.bool true) ∧ Below W.heap.size W w' := by
    rw [hy8]
    exact sown_walk A n c l _ W hl hr
  refine hwalk.mono fun e W' ⟨he, hb⟩ => ?_
  subst he
  exact ⟨_, rfl, Lw.post_true laidOut (by kernel_rfl) rfl rfl rfl rfl (by kernel_rfl) Tryz.underlying4 hW' hb⟩

/-- StoreOwn: what was handed in, or answered, is memory of one's own. -/
theorem storeOwn_holds : Rows.StoreOwnSaid :=
  OpenClaim.holds_of_wide 8 Tryz.f8 rfl rfl rfl rfl rfl rfl rfl ⟨rfl, rfl, rfl, rfl, rfl⟩ rfl rfl rfl rfl rfl (by kernel_rfl) Tryz.func8 (by kernel_rfl)
    (of_decide_eq_true (by kernel_rfl)) (by unfold Func.isWrapper; rw [if_neg (of_decide_eq_false (by kernel_rfl))]; exact ⟨rfl, rfl⟩)
    (fun os started H enc _ => storeOwn_lifted os started H enc)
#print axioms storeOwn_holds
end Go.Proofs.YtiocpefgccndbaaGreat
