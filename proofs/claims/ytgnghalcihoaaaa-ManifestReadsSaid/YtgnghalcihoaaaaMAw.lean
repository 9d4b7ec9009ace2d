/- Whether a manifest may be, told by the program; the document's example. -/
import Derived.Test.YtgnghalcihoaaaaMPut
namespace Go.Proofs.Ytgnghalcihoaaaa
open Go.RowKit Me Mf Va Fr

set_option maxRecDepth 100000 in
set_option maxHeartbeats 400000 in
theorem mmay_any (A : Option Addr) (n c : Nat) (m : ManD) (w : World) (hs : Small m) (h : ManAt w w.heap.size A n c m) :
    Calls Try.prog 29 #[mval m.version m.next A n c] w (Bp w (Fit m)) := by
  have HS := Lib.hid hs
  obtain ⟨wb, hwb⟩ : ∃ wb, wb = w.alloc (.cells #[.int .u64 (m.version : Int), .int .u32 (m.next : Int), .slice A n c] 28) := ⟨_, rfl⟩
  have HB0 := Lib.hid (show Below w.heap.size w wb by rw [hwb]; exact (Below.refl _ _).alloc (Nat.le_refl _) _)
  have HM0 := Lib.hid (h.past HB0.out)
  have HWB := Lib.hid hwb
  clear h hs hwb
  go_enter Try.func29, Try.ntmps29
  go_wp2_with fail
  rw [← HWB.out]
  clear HWB
  refine (mput_any A n c m wb HS.out HM0.out).mono ?_
  rintro e w1 ⟨hb, h1⟩
  have HB1 := Lib.hid (HB0.out.trans (hb.mono HB0.out.size))
  rcases h1 with ⟨hf, v, rfl, -⟩ | ⟨hf, rfl⟩
  · have HF := Lib.hid hf
    clear hf hb
    go_wp2
    go_ret
    exact ⟨true, rfl, ⟨fun _ => HF.out, fun _ => rfl⟩, HB1.out⟩
  · have HF := Lib.hid hf
    clear hf hb
    go_wp2
    go_ret
    exact ⟨false, rfl, ⟨fun h => (by cases h), fun h => absurd h HF.out⟩, HB1.out⟩
theorem body_none : body noMan = [0, 0, 0] := by
  unfold body noMan
  simp only [encFs, List.length_nil, List.append_nil]
  rw [enc_small (by decide)]
  rfl
theorem fit_none : Fit noMan := ⟨good_nil 0, by rw [body_none]; decide⟩
theorem small_none : Small noMan := ⟨by decide, by decide, by rw [body_none]; decide⟩
theorem slot_none : ∃ l, slotOf noMan = 77 :: 3 :: l := by
  unfold slotOf secOf encS
  rw [body_none]
  exact ⟨_, rfl⟩
set_option maxRecDepth 100000 in
set_option maxHeartbeats 400000 in
theorem awake_any (w : World) : Calls Try.prog 8 #[] w fun e w' => e = .returned (.bool true) ∧ Below w.heap.size w w' := by
  go_enter Try.func8, Try.ntmps8
  go_wp2_with fail
  refine (mput_any none 0 0 noMan w small_none (ManAt.none w _)).mono ?_
  rintro e w1 ⟨hb, ⟨-, v, rfl, ho⟩ | ⟨hf, -⟩⟩
  · obtain ⟨V, cv, rfl⟩ := own_slice ho
    have hr := Rd.of_own ho
    obtain ⟨l, hl⟩ := slot_none
    rw [hl] at hr
    obtain ⟨a, rfl, hab, hc⟩ := hr (by simp)
    have h0 : w1.cell? a = some (.int .u8 77) := by have := hc 0 77 rfl; rwa [add_zero'] at this
    have h1 : w1.cell? ⟨a.block, a.off + 1, none⟩ = some (.int .u8 3) := by have := hc 1 3 rfl; rwa [add_at a 0] at this
    have HB := Lib.hid hb
    have HM := Lib.hid (ManAt.none w1 w1.heap.size)
    clear ho hr hl hc hb
    go_wp2_with fail
    refine (mmay_any none 0 0 noMan w1 small_none HM.out).mono ?_
    rintro e w2 ⟨b, rfl, hb, hB2⟩
    have hbt : b = true := hb.2 fit_none
    subst hbt
    have HB2 := Lib.hid (HB.out.trans (hB2.mono HB.out.size))
    clear hb hB2
    go_wp2
    go_ret
    exact ⟨rfl, HB2.out⟩
  · exact absurd fit_none hf
end Go.Proofs.Ytgnghalcihoaaaa
