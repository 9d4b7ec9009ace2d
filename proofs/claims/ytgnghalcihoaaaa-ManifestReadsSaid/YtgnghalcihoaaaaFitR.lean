/- Whether bytes fit, of any length: the document's answer. -/
import Derived.Test.YtgnghalcihoaaaaRefFits
import Derived.Test.YtgnghalcihoaaaaFitM
namespace Go.Proofs.Ytgnghalcihoaaaa
open Go.RowKit Cr Me

theorem ref_fits_all (A : Option Addr) (n c : Nat) (l : List UInt8) (w : World) (hl : l.length = n) (hc : n ≤ c) (hn : n ≤ 70368744177664) (hr : Rd w w.heap.size A l) :
    Calls Try.prog 68 #[.slice A n c] w fun e w' => FTells w (fitL l) (fitC l) e w' := by
  by_cases h4 : n < 4
  · refine (ref_fits_short A n c w h4).mono fun e w' ⟨hb, X, cx, he, _, hnw, _⟩ => ?_
    have hb2 : fitB l = false := by unfold fitB; simp; omega
    exact ⟨hb, X, 0, cx, by rw [he]; unfold fitC; rw [if_pos (by omega)]; rfl, by unfold fitL; rw [hb2]; rfl, by omega, by unfold fitL; rw [hb2]; exact Rd.empty, by unfold fitL; rw [hb2]; exact fun h => by simp at h⟩
  · obtain ⟨k, rfl⟩ : ∃ k, n = k + 4 := ⟨n - 4, by omega⟩
    obtain ⟨a, rfl, -⟩ := hr (by omega)
    have hf := fitB_of hl
    refine (ref_fits_long a k c l w hl hc (by omega) hr _ rfl).mono fun e w' ⟨hb, X, cx, he, hx, hnw, _⟩ => ?_
    rw [← hf] at he hx hnw
    have e1 : fitL l = if fitB l = true then l.take k else [] := by unfold fitL; rw [hl]; simp
    have e2 : fitC l = if fitB l = true then 0 else 5 := by unfold fitC; rw [if_neg (by omega)]
    rw [← e1, ← e2] at he
    rw [← e1] at hx hnw
    refine ⟨hb, X, _, cx, he, rfl, ?_, hx, hnw⟩
    rw [e1]
    split
    · rw [List.length_take]; omega
    · simp

end Go.Proofs.Ytgnghalcihoaaaa
