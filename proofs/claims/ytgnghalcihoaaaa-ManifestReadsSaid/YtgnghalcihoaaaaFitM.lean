/- Whether bytes fit, as plain mathematics; marks as new memory. -/
import Derived.Test.YtgnghalcihoaaaaRefMark
namespace Go.Proofs.Ytgnghalcihoaaaa
open Go.RowKit Cr Me

/-- Whether bytes fit. -/
def fitB (l : List UInt8) : Bool := decide (4 ≤ l.length) && (Cr.mark (l.take (l.length - 4)) == l)
def fitL (l : List UInt8) : List UInt8 := if fitB l then l.take (l.length - 4) else []
def fitC (l : List UInt8) : Int := if l.length < 4 then 2 else if fitB l then 0 else 5
theorem fitB_mark (l : List UInt8) : fitB (Cr.mark l) = true := by
  unfold fitB
  rw [mark_length]
  have e : (Cr.mark l).take (l.length + 4 - 4) = l := by unfold Cr.mark; simp
  rw [e]
  simp
theorem fitL_mark (l : List UInt8) : fitL (Cr.mark l) = l := by
  unfold fitL
  rw [fitB_mark, if_pos rfl, mark_length]
  unfold Cr.mark; simp
theorem fitC_mark (l : List UInt8) : fitC (Cr.mark l) = 0 := by
  unfold fitC
  rw [fitB_mark, if_pos rfl, mark_length, if_neg (by omega)]
/-- What a call answers that tells bytes and a number. -/
def FTells (w : World) (l : List UInt8) (code : Int) (e : Ending) (w' : World) : Prop :=
  Below w.heap.size w w' ∧ ∃ X n c, e = .returned (.tuple #[.slice X n c, .int .i64 code]) ∧ l.length = n ∧ n ≤ 140737488355328 ∧ Rd w' w'.heap.size X l ∧ (0 < l.length → ∃ a, X = some a ∧ w.heap.size ≤ a.block)
theorem fitB_of {l : List UInt8} {k : Nat} (hl : l.length = k + 4) : fitB l = (Cr.mark (l.take k) == l) := by
  unfold fitB
  rw [hl]
  simp

theorem mark_news (A : Option Addr) (n c : Nat) (l : List UInt8) (w : World) (hl : l.length = n) (hn : n ≤ 70368744177664) (hr : Rd w w.heap.size A l) :
    Calls Try.prog 82 #[.slice A n c] w (News w (Cr.mark l)) :=
  (mark_any A n c l w hl hn hr).mono fun _ _ ⟨v, he, ho, hb⟩ => ⟨v, n + 4, he, ho, hb⟩
theorem ref_mark_news (A : Option Addr) (n c : Nat) (l : List UInt8) (w : World) (hl : l.length = n) (hn : n ≤ 70368744177664) (hr : Rd w w.heap.size A l) :
    Calls Try.prog 89 #[.slice A n c] w (News w (Cr.mark l)) :=
  (ref_mark_any A n c l w hl hn hr).mono fun _ _ ⟨v, he, ho, hb⟩ => ⟨v, n + 4, he, ho, hb⟩
end Go.Proofs.Ytgnghalcihoaaaa
