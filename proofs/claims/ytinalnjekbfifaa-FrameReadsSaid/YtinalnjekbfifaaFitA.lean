/- Whether bytes fit, of any length: the program's answer and the document's; marks as new memory. -/
import Derived.Test.YtinalnjekbfifaaRefFits
namespace Go.Proofs.Ytinalnjekbfifaa
open Go.RowKit Cr Me

/-- Whether bytes fit. -/
def fitB (l : List UInt8) : Bool := decide (4 ≤ l.length) && (Cr.mark (l.take (l.length - 4)) == l)
def fitL (l : List UInt8) : List UInt8 := if fitB l then l.take (l.length - 4) else []
def fitC (l : List UInt8) : Int := if l.length < 4 then 2 else if fitB l then 0 else 5
theorem fitB_mark (l : List UInt8) : fitB (Cr.mark l) = true := by
  unfold fitB
  rw [mark_length]
  have e : (Cr.mark l).take (l.length + 4 - 4) = l := by unfold Cr.mark; simp
  rw [e]
  simp
theorem fitL_mark (l : List UInt8) : fitL (Cr.mark l) = l := by
  unfold fitL
  rw [fitB_mark, if_pos rfl, mark_length]
  unfold Cr.mark; simp
theorem fitC_mark (l : List UInt8) : fitC (Cr.mark l) = 0 := by
  unfold fitC
  rw [fitB_mark, if_pos rfl, mark_length, if_neg (by omega)]
/-- What a call answers that tells bytes and a number. -/
def FTells (w : World) (l : List UInt8) (code : Int) (e : Ending) (w' : World) : Prop :=
  Below w.heap.size w w' ∧ ∃ X n c, e = .returned (.tuple #[.slice X n c, .int .i64 code]) ∧ l.length = n ∧ n ≤ 140737488355328 ∧ Rd w' w'.heap.size X l ∧ (0 < l.length → ∃ a, X = some a ∧ w.heap.size ≤ a.block)
theorem fitB_of {l : List UInt8} {k : Nat} (hl : l.length = k + 4) : fitB l = (Cr.mark (l.take k) == l) := by
  unfold fitB
  rw [hl]
  simp
theorem fits_all (A : Option Addr) (n c : Nat) (l : List UInt8) (w : World) (hl : l.length = n) (hc : n ≤ c) (hn : n ≤ 70368744177664) (hr : Rd w w.heap.size A l) :
    Calls Try.prog 28 #[.slice A n c] w fun e w' => FTells w (fitL l) (fitC l) e w' := by
  by_cases h4 : n < 4
  · refine (fits_short A n c w h4).mono fun e w' ⟨he, hw⟩ => ?_
    subst hw
    have hb : fitB l = false := by unfold fitB; simp; omega
    exact ⟨Below.refl _ _, none, 0, 0, by rw [he]; unfold fitC; rw [if_pos (by omega)], by unfold fitL; rw [hb]; rfl, by omega, by unfold fitL; rw [hb]; exact Rd.empty, by unfold fitL; rw [hb]; exact fun h => by simp at h⟩
  · obtain ⟨k, rfl⟩ : ∃ k, n = k + 4 := ⟨n - 4, by omega⟩
    obtain ⟨a, rfl, -⟩ := hr (by omega)
    have hf := fitB_of hl
    refine (fits_long a k c l w hl hc (by omega) hr _ rfl).mono fun e w' ⟨hb, h⟩ => ?_
    rw [← hf] at h
    cases hfb : fitB l with
    | false =>
      rw [hfb] at h
      have he : e = .returned (.tuple #[.slice none 0 0, .int .i64 5]) := h
      exact ⟨hb, none, 0, 0, by rw [he]; unfold fitC; rw [if_neg (by omega), hfb]; rfl, by unfold fitL; rw [hfb]; rfl, by omega, by unfold fitL; rw [hfb]; exact Rd.empty, by unfold fitL; rw [hfb]; exact fun h => by simp at h⟩
    | true =>
      rw [hfb] at h
      obtain ⟨v, he, ho⟩ : ∃ v, e = .returned (.tuple #[v, .int .i64 0]) ∧ w'.ownsRow w.heap.size 5 1 v k (cellsOf (l.take k)) := h
      obtain ⟨X, cx, rfl⟩ := own_slice ho
      have e1 : fitL l = l.take k := by unfold fitL; rw [hfb, if_pos rfl, hl]; simp
      exact ⟨hb, X, k, cx, by rw [he]; unfold fitC; rw [if_neg (by omega), hfb]; rfl, by rw [e1, List.length_take]; omega, by omega, by rw [e1]; exact Rd.of_own ho, fun h => by
        have h0 : 0 < k := by rw [e1, List.length_take] at h; omega
        obtain ⟨g, cap, hv, hg, -⟩ := ho.form h0
        injection hv with hv
        exact ⟨_, hv, hg⟩⟩
theorem ref_fits_all (A : Option Addr) (n c : Nat) (l : List UInt8) (w : World) (hl : l.length = n) (hc : n ≤ c) (hn : n ≤ 70368744177664) (hr : Rd w w.heap.size A l) :
    Calls Try.prog 24 #[.slice A n c] w fun e w' => FTells w (fitL l) (fitC l) e w' := by
  by_cases h4 : n < 4
  · refine (ref_fits_short A n c w h4).mono fun e w' ⟨hb, X, cx, he, hx, hnw⟩ => ?_
    have hb2 : fitB l = false := by unfold fitB; simp; omega
    exact ⟨hb, X, 0, cx, by rw [he]; unfold fitC; rw [if_pos (by omega)]; rfl, by unfold fitL; rw [hb2]; rfl, by omega, by unfold fitL; rw [hb2]; exact Rd.empty, by unfold fitL; rw [hb2]; exact fun h => by simp at h⟩
  · obtain ⟨k, rfl⟩ : ∃ k, n = k + 4 := ⟨n - 4, by omega⟩
    obtain ⟨a, rfl, -⟩ := hr (by omega)
    have hf := fitB_of hl
    refine (ref_fits_long a k c l w hl hc (by omega) hr _ rfl).mono fun e w' ⟨hb, X, cx, he, hx, hnw⟩ => ?_
    rw [← hf] at he hx hnw
    have e1 : fitL l = if fitB l = true then l.take k else [] := by unfold fitL; rw [hl]; simp
    have e2 : fitC l = if fitB l = true then 0 else 5 := by unfold fitC; rw [if_neg (by omega)]
    rw [← e1, ← e2] at he
    rw [← e1] at hx hnw
    refine ⟨hb, X, _, cx, he, rfl, ?_, hx, hnw⟩
    rw [e1]
    split
    · rw [List.length_take]; omega
    · simp

theorem mark_news (A : Option Addr) (n c : Nat) (l : List UInt8) (w : World) (hl : l.length = n) (hn : n ≤ 70368744177664) (hr : Rd w w.heap.size A l) :
    Calls Try.prog 20 #[.slice A n c] w (News w (Cr.mark l)) :=
  (mark_any A n c l w hl hn hr).mono fun _ _ ⟨v, he, ho, hb⟩ => ⟨v, n + 4, he, ho, hb⟩
theorem ref_mark_news (A : Option Addr) (n c : Nat) (l : List UInt8) (w : World) (hl : l.length = n) (hn : n ≤ 70368744177664) (hr : Rd w w.heap.size A l) :
    Calls Try.prog 16 #[.slice A n c] w (News w (Cr.mark l)) :=
  (ref_mark_any A n c l w hl hn hr).mono fun _ _ ⟨v, he, ho, hb⟩ => ⟨v, n + 4, he, ho, hb⟩
end Go.Proofs.Ytinalnjekbfifaa
