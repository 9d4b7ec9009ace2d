/- Whether bytes fit, the document's answer. -/
import Derived.Test.YtgnghalcihoaaaaRefMark
import Derived.Lib.SliceRun
import Derived.Deep.RegionWith
namespace Go.Proofs.Ytgnghalcihoaaaa
open Go.RowKit Cr Me

/-- What the document's Fits answers: the bytes and the error's number. -/
def RFitsPost (w : World) (l : List UInt8) (code : Int) (e : Ending) (w' : World) : Prop :=
  Below w.heap.size w w' ∧ ∃ A c, e = .returned (.tuple #[.slice A l.length c, .int .i64 code]) ∧ Rd w' w'.heap.size A l ∧ (0 < l.length → ∃ a, A = some a ∧ w.heap.size ≤ a.block) ∧ l.length ≤ c
theorem ref_fits_short (A : Option Addr) (n c : Nat) (w : World) (hn : n < 4) :
    Calls Try.prog 68 #[.slice A n c] w fun e w' => RFitsPost w [] 2 e w' := by
  have h1 : decide ((n : Int) < 4) = true := by simp; omega
  go_enter Try.func68, Try.ntmps68
  go_wp2
  go_ret2
  exact ⟨(Below.refl _ _).alloc (Nat.le_refl _) _, _, _, rfl, Rd.empty, (fun h => by simp at h), Nat.zero_le _⟩
set_option maxRecDepth 100000 in
set_option maxHeartbeats 1000000 in
theorem ref_fits_long (a : Addr) (k c : Nat) (l : List UInt8) (w : World) (hl : l.length = k + 4) (hc : k + 4 ≤ c) (hn : k ≤ 70368744177664) (hr : Rd w w.heap.size (some a) l) (b : Bool) (hb : (Cr.mark (l.take k) == l) = b) :
    Calls Try.prog 68 #[.slice (some a) (k + 4) c] w fun e w' => RFitsPost w (if b then l.take k else []) (if b then 0 else 5) e w' := by
  obtain ⟨i0, hi0, hz0, hz1, hz2⟩ := info_parts u8_info
  have hk : (l.take k).length = k := by rw [List.length_take, hl]; omega
  have hb0 : Below w.heap.size w (w.alloc (.cells #[] 5)) := (Below.refl _ _).alloc (Nat.le_refl _) _
  have HL := Lib.hid hl
  have HR := Lib.hid hr
  have HK := Lib.hid hk
  have HT := Lib.hid (hr.take k)
  have HB := Lib.hid hb
  have HB0 := Lib.hid hb0
  clear hl hr hk hb hb0
  go_enter Try.func68, Try.ntmps68
  go_wp2_with (at_builtin
               refine wpList_app rfl (.tmp 9) (.tmp 14) 22 rfl w.heap.size 5 i0 _ Try.underlying22 hi0 hz0 hz1 hz2 rfl (.slice (some ⟨w.heap.size, 0, none⟩) 0 0) 0 [] rfl (own_empty w _ _ (Nat.le_refl _)) w.heap.size (some a) k c (l.take k) rfl HK.out (HT.out.below HB0.out) (by omega) HB0.out.size ?_
               intro v2 w3 hown2 hg2 hat2
               have HB3 := Lib.hid (below_app HB0.out (own_empty w _ _ (Nat.le_refl _)) (Nat.le_refl _) HB0.out.size hg2)
               have HW2 := Lib.hid hown2
               clear hat2 hg2 hown2)
  obtain ⟨A2, c2, rfl⟩ := own_slice HW2.out
  have hw2 := HW2.out
  rw [Nat.zero_add, List.nil_append] at hw2
  rw [Nat.zero_add]
  have HO2 := Lib.hid (Rd.of_own hw2)
  have HW3 := Lib.hid hw2
  clear hw2 HW2
  have e0 := str_any (some a) (k + 4) c l w3.drew _ HL.out (HR.out.below HB3.out.drew)
  go_region_with (
    (go_at_call 89
     refine (ref_mark_any A2 k c2 (l.take k) w3.drew HK.out hn HO2.out.drew).mono ?_
     rintro e w4 ⟨v4, rfl, hown4, hb4⟩
     obtain ⟨A4, c4, rfl⟩ := own_slice hown4
     have e1 := str_any (some a) (k + 4) c l w4 _ HL.out (HR.out.below (HB3.out.drew.trans (hb4.mono HB3.out.size)))
     have e2 := str_any A4 (k + 4) c4 (Cr.mark (l.take k)) w4 _ ((mark_length _).trans (by rw [HK.out])) (Rd.of_own hown4)
     have HW4 := Lib.hid hown4
     have HB4 := Lib.hid hb4
     clear hown4 hb4))
  all_goals
    have HB5 := Lib.hid (HB3.out.drew.trans (HB4.out.mono HB3.out.size))
    have HO5 := Lib.hid (HO2.out.drew.below HB4.out)
    rw [HB.out]
    clear e0 e1 e2
    cases b with
    | false =>
      go_wp2
      go_ret2
      exact ⟨HB5.out.alloc HB5.out.size _, _, _, rfl, Rd.empty, (fun h => by simp at h), Nat.zero_le _⟩
    | true =>
      go_wp2
      go_ret2
      exact ⟨HB5.out, A2, c2, (by show _ = Ending.returned (.tuple #[.slice A2 (l.take k).length c2, .int .i64 0]); rw [HK.out]; rfl), HO5.out.more HB4.out.size, (fun h => by
        have h0 : 0 < k := by rw [← HK.out]; simpa using h
        obtain ⟨g, cap, hv, hg, -⟩ := HW3.out.form h0
        injection hv with hv
        exact ⟨_, hv, hg⟩), by show (l.take k).length ≤ c2; rw [HK.out]; exact own_cap' HW3.out⟩
end Go.Proofs.Ytgnghalcihoaaaa
