/- DiskFuses is proved: with a fuse so many deeds are done, and no more; for every input, no conditions. -/
import Derived.Test.YtpdhnkmihlgdjaaDSyncs
namespace Go.Proofs.Ytpdhnkmihlgdjaa
open Go.RowKit Me Rw Ds

/-- A deed: the disk ahead of it and behind it, the error. -/
structure Deed (S S' : Dsk) (x : Int) : Prop where
  len : S'.stored.length = S.stored.length
  pend : S'.pend.length ≤ S.pend.length + 1
  way : (S.on = true ∧ 0 < S.fuse ∧ x = 0 ∧ S'.on = true ∧ S'.fuse = S.fuse - 1) ∨ ((S.on = true ∧ S.fuse = 0 ∨ S.on = false) ∧ x = 6 ∧ S'.on = false)
theorem deed_write {S : Dsk} {l : List UInt8} (h1 : S.stored.length = 1) (hl : l.length = 128) (hf : 0 ≤ S.fuse) : Deed S (writeD S 0 l).1 (writeD S 0 l).2 := by
  have hb : hasB S.stored.length 0 = true := by rw [h1]; decide
  unfold writeD
  cases ho : S.on with
  | false => exact ⟨rfl, by simp, .inr ⟨.inr ho, rfl, ho⟩⟩
  | true =>
    rw [if_pos rfl, if_pos hb, if_pos hl]
    by_cases h0 : S.fuse = 0
    · rw [power_zero h0]
      exact ⟨rfl, by simp, .inr ⟨.inl ⟨ho, h0⟩, rfl, rfl⟩⟩
    · rw [power_pos (by omega)]
      simp only [ho, if_true]
      exact ⟨rfl, by simp, .inl ⟨ho, by omega, rfl, rfl, rfl⟩⟩
theorem deed_sync {S : Dsk} (hf : 0 ≤ S.fuse) : Deed S (syncD S).1 (syncD S).2 := by
  unfold syncD
  cases ho : S.on with
  | false => exact ⟨rfl, by simp, .inr ⟨.inr ho, rfl, ho⟩⟩
  | true =>
    rw [if_pos rfl]
    by_cases h0 : S.fuse = 0
    · rw [power_zero h0]
      exact ⟨rfl, by simp, .inr ⟨.inl ⟨ho, h0⟩, rfl, rfl⟩⟩
    · rw [power_pos (by omega)]
      simp only [ho, if_true]
      exact ⟨by simp [settle_length], by simp, .inl ⟨ho, by omega, rfl, rfl, rfl⟩⟩
/-- What stands behind j deeds. -/
def FuseAt (n j done : Nat) (S : Dsk) : Prop :=
  S.stored.length = 1 ∧ S.pend.length ≤ j ∧ 0 ≤ S.fuse ∧ ((j ≤ n ∧ S.on = true ∧ S.fuse = (n : Int) - j ∧ done = j) ∨ (n < j ∧ S.on = false ∧ done = n))
theorem FuseAt.step {n j done : Nat} {S S' : Dsk} {x : Int} (h : FuseAt n j done S) (hd : Deed S S' x) (hg : 0 ≤ S'.fuse) : (j < n ∧ x = 0 ∧ FuseAt n (j + 1) (done + 1) S') ∨ (¬ j < n ∧ x = 6 ∧ FuseAt n (j + 1) done S') := by
  obtain ⟨h1, h2, h3, h4⟩ := h
  obtain ⟨d1, d2, d3⟩ := hd
  rcases h4 with ⟨a, b, c, d⟩ | ⟨a, b, c⟩
  · rcases d3 with ⟨e1, e2, e3, e4, e5⟩ | ⟨e1, e2, e3⟩
    · exact .inl ⟨by omega, e3, by omega, by omega, hg, .inl ⟨by omega, e4, by omega, by omega⟩⟩
    · rcases e1 with ⟨-, e0⟩ | e0
      · exact .inr ⟨by omega, e2, by omega, by omega, hg, .inr ⟨by omega, e3, by omega⟩⟩
      · rw [b] at e0; cases e0
  · rcases d3 with ⟨e1, -⟩ | ⟨-, e2, e3⟩
    · rw [b] at e1; cases e1
    · exact .inr ⟨by omega, e2, by omega, by omega, hg, .inr ⟨by omega, e3, c⟩⟩
theorem fuse_power {S : Dsk} (hf : 0 ≤ S.fuse) : 0 ≤ (power S).fuse := by
  by_cases h0 : S.fuse = 0
  · rw [power_zero h0]; exact hf
  · rw [power_pos (by omega)]; show 0 ≤ S.fuse - 1; omega
theorem fuse_write {S : Dsk} {i : Int} {l : List UInt8} (hf : 0 ≤ S.fuse) : 0 ≤ (writeD S i l).1.fuse := by
  have hp := fuse_power hf
  unfold writeD
  repeat' split
  all_goals first | exact hf | exact hp
theorem fuse_sync {S : Dsk} (hf : 0 ≤ S.fuse) : 0 ≤ (syncD S).1.fuse := by
  have hp := fuse_power hf
  unfold syncD
  repeat' split
  all_goals first | exact hf | exact hp
set_option maxRecDepth 100000 in
set_option maxHeartbeats 4000000 in
theorem dfuses_good (n : Nat) (sync : Bool) (hn : n ≤ 100) (w : World) :
    Calls Try.prog 5 #[.int .i64 (n : Int), .bool sync] w fun e w' => e = .returned (.bool true) ∧ Below w.heap.size w w' := by
  have d1 : decide ((n : Int) < 0) = false := by simp
  have d2 : decide ((100 : Int) < (n : Int)) = false := by simp; omega
  have q1 : (n : Int) ≤ 100 := by omega
  go_enter Try.func5, Try.ntmps5
  go_wp2_with fail
  refine (new_any 1 (by omega) (by omega) w).mono ?_
  rintro e w1 ⟨D, own1, rfl, hd1, hb1⟩
  have HD1 := Lib.hid hd1
  have HB1 := Lib.hid hb1
  clear hd1 hb1
  go_wp2_with fail
  refine (fuse_any HD1.out n (by omega)).mono ?_
  rintro e w2 ⟨rfl, own2, hd2, ho2, -⟩
  have HB2 := Lib.hid (HB1.out.trans (ho2.below (fun k _ hk => (HD1.out.lt hk).1) HB1.out.size))
  have HREL := Lib.hid (show ∃ S own, DiskAt w2 w.heap.size D S own ∧ FuseAt n 0 0 S from ⟨_, own2, hd2, rfl, by simp [newD], by show 0 ≤ max (n : Int) (-1); omega, .inl ⟨by omega, rfl, by show max (n : Int) (-1) = _; omega, rfl⟩⟩)
  clear hd2 ho2
  go_wp2_with fail
  go_loopw [7, 8] (fun dv iv wr => ∃ j dn : Nat, j ≤ n + 3 ∧ dn ≤ n ∧ iv = .int .i64 (j : Int) ∧ dv = .int .i64 (dn : Int) ∧ Hid (∃ S own, DiskAt wr w.heap.size D S own ∧ FuseAt n j dn S) ∧ Hid (Below w.heap.size w wr)) (fun _ iv _ => n + 3 - (intOf iv).toNat)
  case atStart => exact ⟨0, 0, by omega, by omega, rfl, rfl, HREL, HB2⟩
  case round =>
    obtain ⟨j, dn, hj, hdn, rfl, rfl, HR, HB⟩ := hrel
    clear HREL HB2
    by_cases hlt : j < n + 3
    · obtain ⟨S, own, hds, hfa⟩ := HR.out
      have HDS := Lib.hid hds
      have HFA := Lib.hid hfa
      have hpl : S.pend.length + 1 ≤ 1073741824 := by have := hfa.2.1; omega
      have HPL := Lib.hid hpl
      obtain ⟨r, hr⟩ : ∃ r, r = j % 2 := ⟨_, rfl⟩
      have t1 : (j : Int).tmod 2 = (r : Int) := by rw [Int.tmod_eq_emod_of_nonneg (by omega)]; omega
      have q3 : (j : Int) < (n : Int) + 3 := by omega
      have q4 : (j : Int) ≤ 103 := by omega
      clear hds hfa hpl hr HR
      by_cases hs : sync = true ∧ r = 1
      · obtain ⟨rfl, rfl⟩ := hs
        rcases HFA.out.step (deed_sync HFA.out.2.2.1) (fuse_sync HFA.out.2.2.1) with ⟨hjn, hx, hst⟩ | ⟨hjn, hx, hst⟩
        · have HS := Lib.hid (sync_any HDS.out (by have := HPL.out; omega))
          rw [hx] at HS
          have HST := Lib.hid hst
          clear hx hst
          go_wp2_with (go_at_call 18
                       refine HS.out.mono ?_
                       rintro e w3 ⟨rfl, own3, hd3, ho3, -⟩
                       have HD3 := Lib.hid hd3
                       have HB3 := Lib.hid (HB.out.trans (ho3.below (fun k _ hk => (HDS.out.lt hk).1) HB.out.size))
                       clear hd3 ho3)
          go_roundw
          case rel => exact ⟨j + 1, dn + 1, by omega, by have := HST.out.2.2.2; omega, by go_num, by go_num, Lib.hid ⟨_, own3, HD3.out, HST.out⟩, HB3⟩
          case measure => simp [intOf]; omega
        · have HS := Lib.hid (sync_any HDS.out (by have := HPL.out; omega))
          rw [hx] at HS
          have HST := Lib.hid hst
          clear hx hst
          go_wp2_with (go_at_call 18
                       refine HS.out.mono ?_
                       rintro e w3 ⟨rfl, own3, hd3, ho3, -⟩
                       have HD3 := Lib.hid hd3
                       have HB3 := Lib.hid (HB.out.trans (ho3.below (fun k _ hk => (HDS.out.lt hk).1) HB.out.size))
                       clear hd3 ho3)
          go_roundw
          case rel => exact ⟨j + 1, dn, by omega, hdn, by go_num, rfl, Lib.hid ⟨_, own3, HD3.out, HST.out⟩, HB3⟩
          case measure => simp [intOf]; omega
      · have hway : sync = false ∨ (sync = true ∧ ((r : Int) == 1) = false) := by
          cases sync with
          | false => exact .inl rfl
          | true => exact .inr ⟨rfl, by rw [beq_eq_false_iff_ne]; intro e; exact hs ⟨rfl, by omega⟩⟩
        obtain ⟨c, hc⟩ : ∃ c : UInt8, c = UInt8.ofNat j := ⟨_, rfl⟩
        have t2 : IntKind.u8.wrap (j : Int) = (c.toNat : Int) := by
          rw [hc, UInt8.toNat_ofNat']
          simp [IntKind.wrap, IntKind.bits, IntKind.signed]
        have hc8 := c.toNat_lt
        have HSTEP := Lib.hid (HFA.out.step (deed_write (l := fillTo c 128) HFA.out.1 (fillTo_length _ _) HFA.out.2.2.1) (fuse_write HFA.out.2.2.1))
        clear hs hc
        rcases hway with rfl | ⟨rfl, d3⟩
        all_goals
          go_wp2_with fail
          refine (filled_for HDS.out c false).mono ?_
          rintro e w3 ⟨g3, n3, cap3, rfl, rfl, hd3, hz3, -, -, -, hb3⟩
          have hb3' := HB.out.trans (hb3.mono HB.out.size)
          go_wp2_with fail
          refine (write_any hd3 0 _ _ cap3 (fillTo c 128) (fillTo_length _ _) hz3 (fun a e => by injection e with e; subst e; rfl) HPL.out).mono ?_
          rcases HSTEP.out with ⟨hjn, hx, hst⟩ | ⟨hjn, hx, hst⟩
          · rw [hx]
            rintro e w4 ⟨rfl, own4, hd4, ho4, -⟩
            have HD4 := Lib.hid hd4
            have HST := Lib.hid hst
            have HB4 := Lib.hid (hb3'.trans (ho4.below (fun k _ hk => (hd3.lt hk).1) hb3'.size))
            clear hx hst hd3 hz3 hb3 hb3' hd4 ho4
            go_wp2
            go_roundw
            case rel => exact ⟨j + 1, dn + 1, by omega, by have := HST.out.2.2.2; omega, by go_num, by go_num, Lib.hid ⟨_, own4, HD4.out, HST.out⟩, HB4⟩
            case measure => simp [intOf]; omega
          · rw [hx]
            rintro e w4 ⟨rfl, own4, hd4, ho4, -⟩
            have HD4 := Lib.hid hd4
            have HST := Lib.hid hst
            have HB4 := Lib.hid (hb3'.trans (ho4.below (fun k _ hk => (hd3.lt hk).1) hb3'.size))
            clear hx hst hd3 hz3 hb3 hb3' hd4 ho4
            go_wp2
            go_roundw
            case rel => exact ⟨j + 1, dn, by omega, hdn, by go_num, rfl, Lib.hid ⟨_, own4, HD4.out, HST.out⟩, HB4⟩
            case measure => simp [intOf]; omega
    · obtain ⟨S, own, hds, hfa⟩ := HR.out
      have hend : S.on = false ∧ dn = n := by
        rcases hfa.2.2.2 with ⟨a, -⟩ | ⟨-, b, c⟩
        · omega
        · exact ⟨b, c⟩
      obtain ⟨ho, rfl⟩ := hend
      have HON := Lib.hid (on_any hds)
      rw [ho] at HON
      have q3 : ¬ (j : Int) < (dn : Int) + 3 := by omega
      clear hds hfa ho
      go_wp2_with (first
        | (go_at_call 11; refine HON.out.mono ?_; rintro e w' ⟨rfl, rfl⟩)
        | (go_at_call 7; refine (awake_any _).mono ?_; rintro e w3 ⟨rfl, hb⟩; have HB3 := Lib.hid (HB.out.trans (hb.mono HB.out.size)); clear hb))
      go_ret
      exact ⟨rfl, HB3.out⟩
set_option maxRecDepth 100000 in
theorem dfuses_bad (n : Int) (sync : Bool) (h : n < 0 ∨ 100 < n) (w : World) :
    Calls Try.prog 5 #[.int .i64 n, .bool sync] w fun e w' => e = .returned (.bool true) ∧ Below w.heap.size w w' := by
  have hway : (decide (n < 0) = true) ∨ (decide (n < 0) = false ∧ decide (100 < n) = true) := by
    simp only [decide_eq_true_eq, decide_eq_false_iff_not]
    omega
  clear h
  rcases hway with d1 | ⟨d1, d2⟩
  all_goals
    go_enter Try.func5, Try.ntmps5
    go_wp2_with (go_at_call 7; refine (awake_any _).mono ?_; rintro e w2 ⟨rfl, hb⟩)
    go_ret
    exact ⟨rfl, hb⟩
open Go.ChangeShapes Go.WideShapes Go.ChangeAt Go.Joins
set_option maxRecDepth 100000 in
theorem diskFuses_lifted (os : Os) (started : os.Started) (H : Type) (enc : TypeId × Value → H) :
    ReturnsInHanded {} Try.checked os 5 .any (Rows.diskFusesSpec.pre6 enc Try.prog Try.f5 Rows.diskFusesRow.domain false) (Rows.diskFusesSpec.post enc Try.prog Try.f5 false true false false) := by
  refine returnsInHanded_of_change (C := Try.checked) own started (by kernel_rfl) Try.func5
    (ChangeSpec.witness6 (enc := enc) (C := Try.checked) false ⟨#[], #[.int .i64 0, .bool false], []⟩ 8 (by kernel_rfl) (by kernel_rfl) (by kernel_rfl) (by kernel_rfl)) ?_
  intro W base args ds gs before hval0 hW hcnd _
  have hval : ∀ (j : Nat) t v, Try.f5.params[j]? = some t → args[j]? = some v → Value.okWide Try.prog W .any base t v := hval0
  have hW' := hW
  obtain ⟨p, q, hA0, hV, rfl, hfz, hnd⟩ := hW
  have hA : DataW.TrodAll enc Try.prog W 0 (fun _ => true) true Try.f5.params.toList args.toList ds p := hA0
  rw [Try.params5] at hA hval
  obtain ⟨v0, v1, d0, d1, p0, p1, rfl, rfl, rfl, h0, h1⟩ := trodAll_two hA
  obtain ⟨n, rfl, -, -, -⟩ := open_int Try.underlying3 (hval 0 3 v0 rfl rfl) h0
  obtain ⟨sync, rfl, -, -⟩ := open_bool Try.underlying4 (hval 1 4 v1 rfl rfl) h1
  have hwalk : Calls Try.prog 5 #[.int .i64 n, .bool sync] W fun e w' => e = .returned (.bool true) ∧ Below W.heap.size W w' := by
    by_cases h : n < 0 ∨ 100 < n
    · exact dfuses_bad n sync h W
    · obtain ⟨n, rfl⟩ : ∃ k : Nat, n = (k : Int) := ⟨n.toNat, by omega⟩
      exact dfuses_good n sync (by omega) W
  refine hwalk.mono fun e W' ⟨he, hb⟩ => ?_
  subst he
  exact ⟨_, rfl, Lw.post_true laidOut (by kernel_rfl) rfl rfl rfl rfl (by kernel_rfl) Try.underlying4 hW' hb⟩

/-- DiskFuses: with a fuse so many deeds are done, and no more. -/
theorem diskFuses_holds : Rows.DiskFusesSaid :=
  OpenClaim.holds_of_wide 5 Try.f5 rfl rfl rfl rfl rfl rfl rfl ⟨rfl, rfl, rfl, rfl, rfl⟩ rfl rfl rfl rfl rfl (by kernel_rfl) Try.func5 (by kernel_rfl)
    (of_decide_eq_true (by kernel_rfl)) (by unfold Func.isWrapper; rw [if_neg (of_decide_eq_false (by kernel_rfl))]; exact ⟨rfl, rfl⟩)
    (fun os started H enc _ => diskFuses_lifted os started H enc)
#print axioms diskFuses_holds
end Go.Proofs.Ytpdhnkmihlgdjaa
