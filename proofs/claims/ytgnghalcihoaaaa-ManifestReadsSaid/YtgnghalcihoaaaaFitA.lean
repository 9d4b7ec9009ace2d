/- Whether bytes fit, of any length: the program's answer. -/
import Derived.Test.YtgnghalcihoaaaaFitR
import Derived.Test.YtgnghalcihoaaaaFits
namespace Go.Proofs.Ytgnghalcihoaaaa
open Go.RowKit Cr Me

theorem fits_all (A : Option Addr) (n c : Nat) (l : List UInt8) (w : World) (hl : l.length = n) (hc : n ≤ c) (hn : n ≤ 70368744177664) (hr : Rd w w.heap.size A l) :
    Calls Try.prog 85 #[.slice A n c] w fun e w' => FTells w (fitL l) (fitC l) e w' := by
  by_cases h4 : n < 4
  · refine (fits_short A n c w h4).mono fun e w' ⟨he, hw⟩ => ?_
    subst hw
    have hb : fitB l = false := by unfold fitB; simp; omega
    exact ⟨Below.refl _ _, none, 0, 0, by rw [he]; unfold fitC; rw [if_pos (by omega)], by unfold fitL; rw [hb]; rfl, by omega, by unfold fitL; rw [hb]; exact Rd.empty, by unfold fitL; rw [hb]; exact fun h => by simp at h⟩
  · obtain ⟨k, rfl⟩ : ∃ k, n = k + 4 := ⟨n - 4, by omega⟩
    obtain ⟨a, rfl, -⟩ := hr (by omega)
    have hf := fitB_of hl
    refine (fits_long a k c l w hl hc (by omega) hr _ rfl).mono fun e w' ⟨hb, h⟩ => ?_
    rw [← hf] at h
    cases hfb : fitB l with
    | false =>
      rw [hfb] at h
      have he : e = .returned (.tuple #[.slice none 0 0, .int .i64 5]) := h
      exact ⟨hb, none, 0, 0, by rw [he]; unfold fitC; rw [if_neg (by omega), hfb]; rfl, by unfold fitL; rw [hfb]; rfl, by omega, by unfold fitL; rw [hfb]; exact Rd.empty, by unfold fitL; rw [hfb]; exact fun h => by simp at h⟩
    | true =>
      rw [hfb] at h
      obtain ⟨v, he, ho⟩ : ∃ v, e = .returned (.tuple #[v, .int .i64 0]) ∧ w'.ownsRow w.heap.size 5 1 v k (cellsOf (l.take k)) := h
      obtain ⟨X, cx, rfl⟩ := own_slice ho
      have e1 : fitL l = l.take k := by unfold fitL; rw [hfb, if_pos rfl, hl]; simp
      exact ⟨hb, X, k, cx, by rw [he]; unfold fitC; rw [if_neg (by omega), hfb]; rfl, by rw [e1, List.length_take]; omega, by omega, by rw [e1]; exact Rd.of_own ho, fun h => by
        have h0 : 0 < k := by rw [e1, List.length_take] at h; omega
        obtain ⟨g, cap, hv, hg, -⟩ := ho.form h0
        injection hv with hv
        exact ⟨_, hv, hg⟩⟩
end Go.Proofs.Ytgnghalcihoaaaa
