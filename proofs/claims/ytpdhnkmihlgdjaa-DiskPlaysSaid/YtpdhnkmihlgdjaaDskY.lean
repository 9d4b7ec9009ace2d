/- A disk is synced; it comes back; a byte is spoilt. -/
import Derived.Test.YtpdhnkmihlgdjaaSettleW
namespace Go.Proofs.Ytpdhnkmihlgdjaa
open Go.RowKit Me Rw Ds

/-- A sync: the disk behind it, the error. -/
def syncD (S : Dsk) : Dsk × Int :=
  if S.on then (if (power S).on then ({ power S with stored := Ds.settle ones 0 0 (power S).pend (power S).stored, pend := [] }, 0) else (power S, 6)) else (S, 6)
theorem power_pend (S : Dsk) : (power S).pend = S.pend ∧ (power S).stored = S.stored := by
  unfold power
  split
  · exact ⟨rfl, rfl⟩
  · split <;> exact ⟨rfl, rfl⟩
section
variable {w w' : World} {B D : Nat} {S : Dsk} {own : Nat → Prop}
set_option maxRecDepth 100000 in
set_option maxHeartbeats 400000 in
theorem sync_any (h : DiskAt w B D S own) (hp : S.pend.length < 4611686018427387904) :
    Calls Try.prog 18 #[.pointer (some ⟨D, 0, none⟩)] w fun e w' => e = .returned (.int .i64 (syncD S).2) ∧ DPost w B D (syncD S).1 own w' := by
  obtain ⟨o, ho⟩ : ∃ o, S.on = o := ⟨_, rfl⟩
  have H1 := on_any h
  rw [ho] at H1
  have HON := Lib.hid H1
  cases o with
  | false =>
    have HE := Lib.hid (show syncD S = (S, 6) by unfold syncD; rw [ho]; rfl)
    have HD := Lib.hid h
    obtain ⟨R, hR⟩ : ∃ R, R = syncD S := ⟨_, rfl⟩
    rw [← hR] at HE ⊢
    clear h ho H1 hR
    go_enter Try.func18, Try.ntmps18
    go_wp2_with (go_at_call 11; refine HON.out.mono ?_; rintro e w' ⟨rfl, rfl⟩)
    go_ret
    rw [HE.out]
    exact ⟨rfl, .same HD.out (Out.refl _ _)⟩
  | true =>
    obtain ⟨P, hP⟩ : ∃ P, P = power S := ⟨_, rfl⟩
    have H2 := powered_any h
    rw [← hP] at H2
    obtain ⟨q, hq⟩ : ∃ q, P.on = q := ⟨_, rfl⟩
    rw [hq] at H2
    have HPW := Lib.hid H2
    have hpl : P.pend.length < 4611686018427387904 := by rw [hP, (power_pend S).1]; exact hp
    have HE := Lib.hid (show syncD S = if q then ({ P with stored := Ds.settle ones 0 0 P.pend P.stored, pend := [] }, 0) else (P, 6) by unfold syncD; rw [ho, if_pos rfl, ← hP]; subst hq; rfl)
    obtain ⟨R, hR⟩ : ∃ R, R = syncD S := ⟨_, rfl⟩
    rw [← hR] at HE ⊢
    clear h ho H1 H2 hR hP hq
    cases q with
    | false =>
      go_enter Try.func18, Try.ntmps18
      go_wp2_with (first
        | (go_at_call 11; refine HON.out.mono ?_; rintro e w' ⟨rfl, rfl⟩)
        | (go_at_call 31; refine HPW.out.mono ?_; rintro e w1 ⟨rfl, hd⟩; have HD := Lib.hid hd; clear hd))
      go_ret
      rw [HE.out]
      exact ⟨rfl, HD.out⟩
    | true =>
      go_enter Try.func18, Try.ntmps18
      go_wp2_with (first
        | (go_at_call 11; refine HON.out.mono ?_; rintro e w' ⟨rfl, rfl⟩)
        | (go_at_call 31; refine HPW.out.mono ?_; rintro e w1 ⟨rfl, hd⟩; have HD := Lib.hid hd; clear hd)
        | (go_at_call 32
           obtain ⟨own1, hd1, ho1, hn1⟩ := HD.out
           refine (settle_any hd1 ones 0 (by decide) (by decide) hpl).mono ?_
           rintro e w2 ⟨rfl, hd2⟩
           have HD2 := Lib.hid hd2
           have HD1 := Lib.hid (And.intro ho1 hn1)
           clear hd2 ho1 hn1 hd1))
      go_ret
      rw [HE.out]
      obtain ⟨own2, k1, k2, k3⟩ := HD2.out
      obtain ⟨ho1, hn1⟩ := HD1.out
      refine ⟨rfl, own2, k1, ho1.trans' k2 hn1, fun j hj => ?_⟩
      rcases k3 j hj with h | h
      · exact hn1 j h
      · exact .inr (Nat.le_trans ho1.size h)
set_option maxRecDepth 100000 in
set_option maxHeartbeats 400000 in
theorem sync_nil (w : World) : Calls Try.prog 18 #[.pointer none] w fun e w' => e = .returned (.int .i64 6) ∧ w = w' := by
  go_enter Try.func18, Try.ntmps18
  go_wp2_with (go_at_call 11; refine (on_nil _).mono ?_; rintro e w' ⟨rfl, rfl⟩)
  go_ret
  exact ⟨rfl, rfl⟩
/-- The disk behind a fall. -/
def backD (K T : Nat) (S : Dsk) : Dsk := { stored := Ds.settle K T 0 S.pend S.stored, pend := [], on := true, fuse := -1 }
set_option maxRecDepth 100000 in
set_option maxHeartbeats 400000 in
theorem back_any (h : DiskAt w B D S own) (K T : Nat) (hK : K < 18446744073709551616) (hT : T < 18446744073709551616) (hp : S.pend.length < 4611686018427387904) :
    Calls Try.prog 19 #[.pointer (some ⟨D, 0, none⟩), .int .u64 (K : Int), .int .u64 (T : Int)] w fun e w' => e = .returned (.tuple #[]) ∧ DPost w B D (backD K T S) own w' := by
  have HS := Lib.hid (settle_any h K T hK hT hp)
  clear h
  go_enter Try.func19, Try.ntmps19
  go_wp2_with (go_at_call 32
               refine HS.out.mono ?_
               rintro e w2 ⟨rfl, own2, ⟨g, Pv, hl⟩, k2, k3⟩
               obtain ⟨c0, c1, c2, c3⟩ := hl.blk.four
               obtain ⟨f0, f1, f2, f3⟩ := hl.blk.four_free
               have HL := Lib.hid hl
               have HK := Lib.hid (And.intro k2 k3)
               clear hl k2 k3)
  go_end0
  obtain ⟨k2, k3⟩ := HK.out
  have h1 := HL.out.setOn true
  have h2 := h1.setFuse (f := -1) (by omega) (by omega)
  exact ⟨rfl, own2, ⟨g, Pv, h2⟩, k2.trans' ((out_self HL.out 2 _).trans (out_self h1 3 _)) k3, k3⟩
set_option maxRecDepth 100000 in
theorem back_nil (w : World) (K T : Int) : Calls Try.prog 19 #[.pointer none, .int .u64 K, .int .u64 T] w fun e w' => e = .returned (.tuple #[]) ∧ w = w' := by
  go_enter Try.func19, Try.ntmps19
  go_wp2
  refine bodyPost_ret (results_none rfl _ _ _) rfl ?_
  exact ⟨rfl, rfl⟩
end
end Go.Proofs.Ytpdhnkmihlgdjaa
