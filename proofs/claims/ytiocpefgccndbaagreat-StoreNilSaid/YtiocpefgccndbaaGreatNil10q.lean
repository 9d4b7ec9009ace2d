/- StoreNil: a nil store, and one whose disk is off, do nothing; a disk that is too small has none; for every input. -/
import Derived.ProofKit
import Derived.Lib.SmallJoins
import Derived.Test.YtiocpefgccndbaaGreatKa28
namespace Go.Proofs.YtiocpefgccndbaaGreat
open Go.RowKit Me Mf Rw Ds Va Go.Maps

theorem snames_none {w : World} {B P D M N : Nat} {X : Sto} {own ownD : Nat → Prop} (h : StoreAt w B P D M N X own ownD) (hm : X.m = noMan) (hC : X.C = noC) (hN : N ≤ 1000000) : Calls Tryz.prog 29 #[.pointer (some ⟨P, 0, none⟩)] w fun e w' => (∃ A c, e = .returned (.slice A 0 c)) ∧ Below w.heap.size w w' := by
  refine (snames_any h hN).mono ?_
  rintro e w' ⟨A5, n5, c5, l5, rfl, hl5, hn5, -, -, hb5⟩
  have e5 := names_nothing hm hC hl5
  subst e5
  have : n5 = 0 := by rw [← hn5]; rfl
  subst this
  exact ⟨⟨_, _, rfl⟩, hb5⟩
set_option maxRecDepth 100000 in
set_option maxHeartbeats 4000000 in
theorem snil_walk (x : List UInt8) (count : Int) (A : Option Addr) (n c : Nat) (w : World) (hx : x.length ≤ maxLen) (h64 : -9223372036854775808 ≤ count ∧ count ≤ 9223372036854775807) :
    Calls Tryz.prog 7 #[sv x, .slice A n c, .int .i64 count] w fun e w' => e = .returned (.bool true) ∧ Below w.heap.size w w' := by
  obtain ⟨m, hm⟩ : ∃ m, m = x.length := ⟨_, rfl⟩
  have hsz : (ByteArray.mk x.toArray).size = m := by rw [hm]; exact List.size_toArray ..
  by_cases hg : m > 100 ∨ n > 100
  · have HAW := Lib.hid (awake_any w)
    by_cases h1 : m > 100
    · have d1 : decide ((100 : Int) < (m : Int)) = true := by simp; omega
      clear hm
      go_enter Tryz.func7, Tryz.ntmps7
      go_wp2_with (go_at_call 10; refine HAW.out.mono ?_; rintro e w9 ⟨rfl, hb⟩; have HB9 := Lib.hid hb; clear hb)
      go_ret
      exact ⟨rfl, HB9.out⟩
    · have d1 : decide ((100 : Int) < (m : Int)) = false := by simp; omega
      have d2 : decide ((100 : Int) < (n : Int)) = true := by simp; omega
      clear hm
      go_enter Tryz.func7, Tryz.ntmps7
      go_wp2_with (go_at_call 10; refine HAW.out.mono ?_; rintro e w9 ⟨rfl, hb⟩; have HB9 := Lib.hid hb; clear hb)
      go_ret
      exact ⟨rfl, HB9.out⟩
  · have d1 : decide ((100 : Int) < (m : Int)) = false := by simp; omega
    have d2 : decide ((100 : Int) < (n : Int)) = false := by simp; omega
    have HM := Lib.hid hm
    have HBG := Lib.hid (begin_any 40 (by omega) (by omega) w)
    clear hm hg
    go_enter Tryz.func7, Tryz.ntmps7
    go_wp2_with (first
      | (go_at_call 31; refine (forget_nil _).mono ?_; rintro e w' ⟨rfl, rfl⟩)
      | (go_at_call 11; refine HBG.out.mono ?_))
    rintro e w1 ⟨G, P, D, M, own, ownD, rfl, hbx, hst, hnG, hb1, hG⟩
    have c0 := hbx.cell (i := 0) rfl
    have c1 := hbx.cell (i := 1) rfl
    have HOF := Lib.hid (off_any hst.disk)
    have HX := Lib.hid hbx
    have HS := Lib.hid hst
    have HN := Lib.hid hnG
    have HB := Lib.hid hb1
    have HGG := Lib.hid hG
    clear hbx hst hnG hb1 hG
    go_wp2_with fail
    refine HOF.out.mono ?_
    rintro e w2 ⟨rfl, hdp⟩
    obtain ⟨own2, ownD2, hs2, hf2⟩ := HS.out.disked hdp (show (newD 40).stored.length = _ from rfl)
    have ho2 := HS.out.foot hf2.1
    have hbx2 := HX.out.out ho2 HN.out
    have c0 := hbx2.cell (i := 0) rfl
    have HB2 := Lib.hid (HB.out.trans (ho2.below (fun k hk hs => (HS.out.lt hs).1) HB.out.size))
    obtain ⟨L, hL⟩ : ∃ L, L = w2.heap.size := ⟨_, rfl⟩
    obtain ⟨w3, hw3⟩ : ∃ w3, w3 = w2.alloc (.cells #[.pointer none, .pointer (some ⟨P, 0, none⟩)] 33) := ⟨_, rfl⟩
    have hb23 : Below w2.heap.size w2 w3 := by rw [hw3]; exact (Below.refl _ _).alloc (Nat.le_refl _) _
    have HL := Lib.hid (show Blk w3 L [.pointer none, .pointer (some ⟨P, 0, none⟩)] by rw [hw3, hL]; exact Blk.new w2 [.pointer none, .pointer (some ⟨P, 0, none⟩)] _)
    have HS3 := Lib.hid (hs2.past hb23)
    have HB3 := Lib.hid (HB2.out.trans (hb23.mono HB2.out.size))
    have HW3 := Lib.hid hw3
    have HLL := Lib.hid hL
    clear hdp hs2 hf2 ho2 hbx2 hL hw3 hb23 HOF HX HBG
    go_wp2_with fail
    rw [← HW3.out, ← HLL.out]
    go_loopw [11] (fun z wr => ∃ j : Nat, z = .int .i64 (j : Int) ∧ j ≤ 2 ∧ Hid (Below w3.heap.size w3 wr)) (fun z _ => 2 - (intOf z).toNat)
    case atStart => exact ⟨0, rfl, by omega, Lib.hid (Below.refl _ _)⟩
    case round =>
      obtain ⟨j, rfl, hj, HI⟩ := hrel
      have HSR := Lib.hid (HS3.out.past HI.out)
      by_cases hlt : j < 2
      · rcases (show j = 0 ∨ j = 1 by omega) with rfl | rfl
        · skip
          have hv : Down (.pointer none) wr := up_nil wr
          have HRD := Lib.hid (sread_down x hv)
          have HAP := Lib.hid (sappend_down x A n c hv)
          have HRM := Lib.hid (sremove_down x hv)
          have HCM := Lib.hid (scommit_down hv)
          have HWR := Lib.hid (swrite_down x A n c hv)
          have HVE : Hid (Calls Tryz.prog 13 #[.pointer none] wr fun e w' => e = .returned (.int .u64 0) ∧ wr = w') := Lib.hid (version_nil wr)
          have HNM : Hid (Calls Tryz.prog 29 #[.pointer none] wr fun e w' => (∃ A c, e = .returned (.slice A 0 c)) ∧ Below wr.heap.size wr w') := Lib.hid ((snames_nil wr).mono (by rintro e w' ⟨rfl, rfl⟩; exact ⟨⟨_, _, rfl⟩, Below.refl _ _⟩))
          have b0 : wr.cell? ⟨L, 0, none⟩ = some (.pointer none) := by have := HL.out.past HI.out; exact this.cell (i := 0) rfl
          have b1 : wr.cell? ⟨L, 1, none⟩ = some (.pointer (some ⟨P, 0, none⟩)) := by have := HL.out.past HI.out; exact this.cell (i := 1) rfl
          clear hv
          go_wp2_with (first
            | (go_at_call 30; refine HRD.out.mono ?_; rintro e w' ⟨rfl, rfl⟩)
            | (go_at_call 33; refine HWR.out.mono ?_; rintro e w' ⟨rfl, rfl⟩)
            | (go_at_call 34; refine HAP.out.mono ?_; rintro e w' ⟨rfl, rfl⟩)
            | (go_at_call 35; refine HRM.out.mono ?_; rintro e w' ⟨rfl, rfl⟩)
            | (go_at_call 36; refine HCM.out.mono ?_; rintro e w' ⟨rfl, rfl⟩)
            | (go_at_call 13; refine HVE.out.mono ?_; rintro e w' ⟨rfl, rfl⟩))
          refine HNM.out.mono ?_
          rintro e w5 ⟨⟨A5, c5, rfl⟩, hb5⟩
          have HB5 := Lib.hid hb5
          clear hb5
          go_wp2_with fail
          exact ⟨⟨1, rfl, by omega, Lib.hid (HI.out.trans (HB5.out.mono HI.out.size))⟩, by simp [intOf]⟩
        · skip
          have hv : Down (.pointer (some ⟨P, 0, none⟩)) wr := by have := up_any HSR.out; exact this
          have HRD := Lib.hid (sread_down x hv)
          have HAP := Lib.hid (sappend_down x A n c hv)
          have HRM := Lib.hid (sremove_down x hv)
          have HCM := Lib.hid (scommit_down hv)
          have HWR := Lib.hid (swrite_down x A n c hv)
          have HVE : Hid (Calls Tryz.prog 13 #[.pointer (some ⟨P, 0, none⟩)] wr fun e w' => e = .returned (.int .u64 0) ∧ wr = w') := Lib.hid (by have := version_any HSR.out; exact this)
          have HNM : Hid (Calls Tryz.prog 29 #[.pointer (some ⟨P, 0, none⟩)] wr fun e w' => (∃ A c, e = .returned (.slice A 0 c)) ∧ Below wr.heap.size wr w') := Lib.hid (snames_none HSR.out rfl rfl (by omega))
          have b0 : wr.cell? ⟨L, 0, none⟩ = some (.pointer none) := by have := HL.out.past HI.out; exact this.cell (i := 0) rfl
          have b1 : wr.cell? ⟨L, 1, none⟩ = some (.pointer (some ⟨P, 0, none⟩)) := by have := HL.out.past HI.out; exact this.cell (i := 1) rfl
          clear hv
          go_wp2_with (first
            | (go_at_call 30; refine HRD.out.mono ?_; rintro e w' ⟨rfl, rfl⟩)
            | (go_at_call 33; refine HWR.out.mono ?_; rintro e w' ⟨rfl, rfl⟩)
            | (go_at_call 34; refine HAP.out.mono ?_; rintro e w' ⟨rfl, rfl⟩)
            | (go_at_call 35; refine HRM.out.mono ?_; rintro e w' ⟨rfl, rfl⟩)
            | (go_at_call 36; refine HCM.out.mono ?_; rintro e w' ⟨rfl, rfl⟩)
            | (go_at_call 13; refine HVE.out.mono ?_; rintro e w' ⟨rfl, rfl⟩))
          refine HNM.out.mono ?_
          rintro e w5 ⟨⟨A5, c5, rfl⟩, hb5⟩
          have HB5 := Lib.hid hb5
          clear hb5
          go_wp2_with fail
          exact ⟨⟨2, rfl, by omega, Lib.hid (HI.out.trans (HB5.out.mono HI.out.size))⟩, by simp [intOf]⟩
      · have e : j = 2 := by omega
        subst e
        have HBA := Lib.hid (HB3.out.trans (HI.out.mono HB3.out.size))
        by_cases hc : count > 32 ∨ count < 1
        · by_cases hc1 : count > 32
          · have d3 : decide ((32 : Int) < count) = true := by simp; omega
            go_wp2_with (first
              | (go_at_call 14; refine (sfree_nil _).mono ?_; rintro e w' ⟨rfl, rfl⟩)
              | (go_at_call 10; refine (awake_any _).mono ?_; rintro e w9 ⟨rfl, hb⟩; have HB9 := Lib.hid (HBA.out.trans (hb.mono HBA.out.size)); clear hb))
            go_ret
            exact ⟨rfl, HB9.out⟩
          · have d3 : decide ((32 : Int) < count) = false := by simp; omega
            have d4 : decide (count < 1) = true := by simp; omega
            go_wp2_with (first
              | (go_at_call 14; refine (sfree_nil _).mono ?_; rintro e w' ⟨rfl, rfl⟩)
              | (go_at_call 10; refine (awake_any _).mono ?_; rintro e w9 ⟨rfl, hb⟩; have HB9 := Lib.hid (HBA.out.trans (hb.mono HBA.out.size)); clear hb))
            go_ret
            exact ⟨rfl, HB9.out⟩
        · have d3 : decide ((32 : Int) < count) = false := by simp; omega
          have d4 : decide (count < 1) = false := by simp; omega
          obtain ⟨q, rfl⟩ : ∃ q : Nat, count = (q : Int) := ⟨count.toNat, by omega⟩
          have HND := Lib.hid (dnew_any q (by omega) (by omega) wr)
          go_wp2_with fail
          refine HND.out.mono ?_
          rintro e w5 ⟨D5, own5, rfl, hd5, hb5⟩
          have HOB := Lib.hid (open_bad (by omega) (mread_small hd5 (by show (newD q).stored.length ≤ 32; simp [newD]; omega)))
          have HB5 := Lib.hid (HBA.out.trans (hb5.mono HBA.out.size))
          clear hd5 hb5
          go_wp2_with fail
          refine HOB.out.mono ?_
          rintro e w6 ⟨rfl, hb6⟩
          have HB6 := Lib.hid (HB5.out.trans (hb6.mono HB5.out.size))
          clear hb6
          go_wp2_with (go_at_call 10; refine (awake_any _).mono ?_; rintro e w9 ⟨rfl, hb⟩; have HB9 := Lib.hid (HB6.out.trans (hb.mono HB6.out.size)); clear hb)
          go_ret
          exact ⟨rfl, HB9.out⟩
open Go.ChangeShapes Go.WideShapes Go.ChangeAt Go.Joins
set_option maxRecDepth 100000 in
theorem storeNil_lifted (os : Os) (started : os.Started) (H : Type) (enc : TypeId × Value → H) :
    ReturnsInHanded {} Tryz.checked os 7 .any (Rows.storeNilSpec.pre6 enc Tryz.prog Tryz.f7 Rows.storeNilRow.domain false) (Rows.storeNilSpec.post enc Tryz.prog Tryz.f7 false true false false) := by
  refine returnsInHanded_of_change (C := Tryz.checked) own started (by kernel_rfl) Tryz.func7
    (ChangeSpec.witness6 (enc := enc) (C := Tryz.checked) false ⟨#[], #[.string ⟨#[]⟩, .slice none 0 0, .int .i64 0], []⟩ 8 (by kernel_rfl) (by kernel_rfl) (by kernel_rfl) (by kernel_rfl)) ?_
  intro W base args ds gs before hval0 hW hcnd _
  have hval : ∀ (j : Nat) t v, Tryz.f7.params[j]? = some t → args[j]? = some v → Value.okWide Tryz.prog W .any base t v := hval0
  have hW' := hW
  obtain ⟨p, q, hA0, hV, rfl, hfz, hnd⟩ := hW
  have hA : DataW.TrodAll enc Tryz.prog W 0 (fun _ => true) true Tryz.f7.params.toList args.toList ds p := hA0
  rw [Tryz.params7] at hA hval
  obtain ⟨v0, v1, v2, d0, d1, d2, p0, p1, p2, rfl, rfl, rfl, h0, h1, h2⟩ := trodAll_three hA
  obtain ⟨s, rfl, -, -, hs⟩ := Go.ChangeMaps.open_string Tryz.underlying9 (hval 0 9 v0 rfl rfl) h0
  obtain ⟨A, n, c, l, rfl, -, -, -, -⟩ := open_bytes Tryz.underlying29 Tryz.underlying5 cells_u8 (hval 1 29 v1 rfl rfl) h1
  obtain ⟨count, rfl, -, -, wz⟩ := open_int Tryz.underlying3 (hval 2 3 v2 rfl rfl) h2
  have hwalk : Calls Tryz.prog 7 #[.string s, .slice A n c, .int .i64 count] W fun e w' => e = .returned (.bool true) ∧ Below W.heap.size W w' := by
    have := snil_walk s.data.toList count A n c W (by simpa using hs) (i64_of wz)
    rw [sv_data s] at this
    exact this
  refine hwalk.mono fun e W' ⟨he, hb⟩ => ?_
  subst he
  exact ⟨_, rfl, Lw.post_true laidOut (by kernel_rfl) rfl rfl rfl rfl (by kernel_rfl) Tryz.underlying4 hW' hb⟩

/-- StoreNil: a nil store, and one whose disk is off, do nothing; a disk that is too small has none. -/
theorem storeNil_holds : Rows.StoreNilSaid :=
  OpenClaim.holds_of_wide 7 Tryz.f7 rfl rfl rfl rfl rfl rfl rfl ⟨rfl, rfl, rfl, rfl, rfl⟩ rfl rfl rfl rfl rfl (by kernel_rfl) Tryz.func7 (by kernel_rfl)
    (of_decide_eq_true (by kernel_rfl)) (by unfold Func.isWrapper; rw [if_neg (of_decide_eq_false (by kernel_rfl))]; exact ⟨rfl, rfl⟩)
    (fun os started H enc _ => storeNil_lifted os started H enc)
#print axioms storeNil_holds
end Go.Proofs.YtiocpefgccndbaaGreat
