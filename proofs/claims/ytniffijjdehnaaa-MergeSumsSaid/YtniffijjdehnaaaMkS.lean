/- The rows of keys, the document's. -/
import Derived.Test.YtniffijjdehnaaaMkV
import Derived.Test.YtniffijjdehnaaaSumA
import Derived.Test.YtniffijjdehnaaaBrw
namespace Go.Proofs.Ytniffijjdehnaaa
open Go.RowKit Me Tx Ed Mg Va

theorem sumOf_arcM : ∀ A : List ArcR, sumOf (arcM A) = sumA A
  | [] => rfl
  | a :: A => by
    rw [arcM_cons, sumOf_append, sumOf_arcM A]
    simp [sumOf, sumA]
    omega
/-- What holds of rows that keys have come to. -/
structure KeysOk (rows : List RowR) (last : Option EdD) (k : Nat) : Prop where
  few : rows.length ≤ k
  arcs : ∀ r ∈ rows, r.arcs ≠ [] ∧ r.arcs.length ≤ k
  none_ : last = none ↔ k = 0
  nil : rows = [] ↔ k = 0
  sum : ∀ r l, rows = r :: l → sumA r.arcs ≤ 2147483647
  fit : ∀ y, last = some y → FitE y
theorem addA_length (x : EdD) (A : List ArcR) : (addA x A).length ≤ A.length + 1 ∧ addA x A ≠ [] := by
  cases A with
  | nil => exact ⟨Nat.le_refl _, fun h => by cases h⟩
  | cons a A =>
    rw [addA]
    split
    · exact ⟨by simp, fun h => by cases h⟩
    · exact ⟨by simp, fun h => by cases h⟩
theorem KeysOk.start : KeysOk [] none 0 := ⟨Nat.le_refl _, (fun r hr => by cases hr), ⟨fun _ => rfl, fun _ => rfl⟩, ⟨fun _ => rfl, fun _ => rfl⟩, (fun r l h => by cases h), (fun y h => by cases h)⟩
theorem KeysOk.next {rows : List RowR} {last : Option EdD} {k : Nat} {x : EdD} (h : KeysOk rows last k) (hx : FitE x) (hs : hasR x rows + x.wgt ≤ 2147483647) : KeysOk (addR x rows) (some x) (k + 1) := by
  refine ⟨Nat.le_trans (addR_length x rows) (Nat.succ_le_succ h.few), fun r hr => ?_, ⟨fun e => by (cases e), fun e => by omega⟩, ⟨fun e => absurd e (addR_ne x rows), fun e => by omega⟩, fun r l e => ?_, fun y e => by injection e with e; rw [← e]; exact hx⟩
  · cases rows with
    | nil =>
      rw [addR, List.mem_singleton] at hr
      subst hr
      exact ⟨by simp, by simp⟩
    | cons r0 l =>
      rw [addR] at hr
      split at hr
      · rcases List.mem_cons.1 hr with e | e
        · subst e
          have h1 := addA_length x r0.arcs
          have h2 := (h.arcs r0 List.mem_cons_self).2
          exact ⟨h1.2, by show (addA x r0.arcs).length ≤ _; omega⟩
        · have := h.arcs r (List.mem_cons_of_mem _ e)
          exact ⟨this.1, by omega⟩
      · rcases List.mem_cons.1 hr with e | e
        · subst e
          exact ⟨by simp, by simp⟩
        · have := h.arcs r e
          exact ⟨this.1, by omega⟩
  · cases rows with
    | nil =>
      rw [addR] at e
      injection e with e
      subst e
      simp only [hasR, sumA] at hs ⊢
      simpa using hs
    | cons r0 l0 =>
      rw [addR] at e
      rw [hasR] at hs
      split at e
      · rename_i h0
        injection e with e
        subst e
        rw [if_pos h0] at hs
        show sumA (addA x r0.arcs) ≤ _
        rw [sumA_add]
        exact hs
      · rename_i h0
        injection e with e
        subst e
        rw [if_neg h0] at hs
        simp only [sumA]
        simpa using hs
/-- An edge more. -/
theorem mwith_any (L : Option Addr) (n c : Nat) (rows : List RowR) (x : EdD) (hx : FitE x) (w : World) {last : Option EdD} {k : Nat} (hl : (rowM rows).length = n) (hcap : n ≤ c) (hk : KeysOk rows last k) (hkk : k ≤ 1000) (hov : hasR x rows + x.wgt ≤ 2147483647) {lo : Nat} (hlo : lo ≤ w.heap.size) (h : RowsAt w lo w.heap.size L (rowM rows)) :
    Calls Try.prog 27 #[.slice L n c, Ed.agg x] w (MwPost w lo (addR x rows)) := by
  have hn : n ≤ 100000 := by rw [← hl, rowM_length]; have := hk.few; omega
  cases rows with
  | nil => exact mwith_new L n c [] x hx w hl hn hlo h (fun r l e => by cases e)
  | cons r l =>
    by_cases hs : r.src = x.src
    · have ha := hk.arcs r List.mem_cons_self
      obtain ⟨a0, A0, hra⟩ : ∃ a0 A0, r.arcs = a0 :: A0 := by
        cases hr : r.arcs with
        | nil => exact absurd hr ha.1
        | cons a A => exact ⟨a, A, rfl⟩
      refine mwith_same L n c r l a0 A0 hra x hx w hl hn hcap (by omega) ?_ hlo h hs
      rw [hasR, if_pos hs, hra] at hov
      have : a0.wgt ≤ sumA (a0 :: A0) := by simp [sumA]
      omega
    · exact mwith_new L n c (r :: l) x hx w hl hn hlo h (fun r' l' e => by injection e with e1 e2; subst e1; exact hs)
end Go.Proofs.Ytniffijjdehnaaa
