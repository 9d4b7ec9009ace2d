/- Texts put together, for a law: SfG. -/
import Derived.Shelf.SlSortCmp.NoneTotal
import Derived.Lib.SortBridge
import Derived.Test.YteaibgnelnblnaaKQ11
import Derived.Test.YteaibgnelnblnaaKQ6
section
namespace Go.Proofs.Yteaibgnelnblnaa
open Go.RowKit Me Rn Go.Sort
variable {w w' : World}

/-- One element of a row of one's own is written. -/
theorem own_put {w : World} {base n c i : Nat} {e : TypeId} {A : Option Addr} {xs : List Value} {v : Value} (h : w.ownsRow base e 1 (.slice A n c) n xs) (hi : i < n) :
    ∃ g, A = some ⟨g, 0, none⟩ ∧ base ≤ g ∧ w.cell? ⟨g, i, none⟩ = xs[i]? ∧ w.frozen? ⟨g, i, none⟩ = false ∧ (w.setCell ⟨g, i, none⟩ v).ownsRow base e 1 (.slice A n c) n (xs.set i v) := by
  have hl := h.1
  rcases h.2 with ⟨e1, h1⟩ | ⟨g, cap, cur, e1, hb, hh, h1, h2, h3, h4⟩
  · omega
  · injection e1 with e1 e2 e3
    subst e1 e3
    rw [Nat.mul_one] at h3 h4 hl
    have hb' : Blk w g cur.toList := ⟨e, by rw [hh]⟩
    have hx : xs[i]? = cur.toList[i]? := by rw [← h4, List.getElem?_take, if_pos hi]
    have hlt : i < cur.toList.length := by simp; omega
    refine ⟨g, rfl, hb, ?_, hb'.frozen i, ?_⟩
    · rw [hx, List.getElem?_eq_getElem hlt]
      exact hb'.cell (List.getElem?_eq_getElem hlt)
    · obtain ⟨e', hs⟩ := hb'.set i v
      have he : e' = e := by
        have h5 := heap_setCell_same w g i cur e v hh
        rw [h5] at hs
        injection hs with hs
        injection hs with hs1 hs2 hs3
        exact hs2.symm
      subst he
      refine ⟨by rw [List.length_set, hl, Nat.mul_one], .inr ⟨g, c, (cur.toList.set i v).toArray, rfl, hb, hs, h1, h2, by simp; omega, ?_⟩⟩
      rw [← h4, Nat.mul_one]
      simp [List.take_set]
/-- Elements written one behind the other. -/
def setsL (xs : List Value) : Nat → List Value → List Value
  | _, [] => xs
  | o, v :: vs => setsL (xs.set o v) (o + 1) vs
theorem setsL_get : ∀ (vs xs : List Value) (o i : Nat), o + vs.length ≤ xs.length → (setsL xs o vs)[i]? = if o ≤ i ∧ i < o + vs.length then vs[i - o]? else xs[i]?
  | [], xs, o, i, _ => by
    rw [setsL, if_neg (by simp only [List.length_nil]; omega)]
  | v :: vs, xs, o, i, h => by
    rw [List.length_cons] at h
    rw [setsL, setsL_get vs _ (o + 1) i (by rw [List.length_set]; omega), List.length_cons]
    by_cases h1 : o + 1 ≤ i ∧ i < o + 1 + vs.length
    · rw [if_pos h1, if_pos (by omega)]
      obtain ⟨k, rfl⟩ : ∃ k, i = o + 1 + k := ⟨i - (o + 1), by omega⟩
      rw [show o + 1 + k - (o + 1) = k by omega, show o + 1 + k - o = k + 1 by omega, List.getElem?_cons_succ]
    · rw [if_neg h1]
      by_cases h2 : i = o
      · subst h2
        rw [if_pos (by omega), Nat.sub_self, List.getElem?_set_self (by omega)]
        rfl
      · rw [if_neg (by omega), List.getElem?_set_ne (Ne.symm h2)]
theorem setsL_all {xs vs : List Value} (h : vs.length = xs.length) : setsL xs 0 vs = vs := by
  refine List.ext_getElem? fun i => ?_
  rw [setsL_get vs xs 0 i (by omega)]
  by_cases hi : i < vs.length
  · rw [if_pos (by omega), Nat.sub_zero]
  · rw [if_neg (by omega), List.getElem?_eq_none (by omega), List.getElem?_eq_none (by omega)]
theorem own_sets {base n c g : Nat} {e : TypeId} : ∀ (vs : List Value) (o : Nat) {w : World} {xs : List Value}, w.ownsRow base e 1 (.slice (some ⟨g, 0, none⟩) n c) n xs → o + vs.length ≤ n → (w.setCells g o vs).ownsRow base e 1 (.slice (some ⟨g, 0, none⟩) n c) n (setsL xs o vs)
  | [], _, _, _, h, _ => h
  | v :: vs, o, w, xs, h, hl => by
    rw [List.length_cons] at hl
    obtain ⟨g', hg, -, -, -, h2⟩ := own_put (v := v) h (i := o) (by omega)
    have hgg : g' = g := by injection hg with hg; injection hg with hg; exact hg.symm
    subst hgg
    exact own_sets vs (o + 1) h2 (by omega)
theorem out_grow {S : Nat → Prop} {w W : World} (h : Out S w W) (os : Array Obj) : Out S w (grow W os) :=
  ⟨h.os, h.tape, h.output, by have := h.size; simp [grow]; omega, fun k hk hn => (heap_grow_old W os (by have := h.size; omega)).trans (h.block k hk hn)⟩
theorem out_drewN (S : Nat → Prop) (w : World) (q : Nat) : Out S w (w.drewN q) := ⟨rfl, rfl, rfl, Nat.le_refl _, fun _ _ _ => rfl⟩
theorem own_grow {w : World} {base size n : Nat} {e : TypeId} {v : Value} {xs : List Value} (h : w.ownsRow base e size v n xs) (os : Array Obj) : (grow w os).ownsRow base e size v n xs := own_out (S := fun _ => False) h (out_grow (.refl _ _) os) (fun _ _ => id)
theorem swoB {β : Type} (rec_ : β → List UInt8) : SWO (ltOf fun x y => cmpB (rec_ x) (rec_ y)) := by
  have h : ∀ x y, ltOf (fun x y => cmpB (rec_ x) (rec_ y)) x y = Op.bytesLess (rec_ x) (rec_ y) := fun x y => by
    unfold ltOf
    rw [Bool.eq_iff_iff, decide_eq_true_iff, cmpB_neg]
  refine ⟨fun x => ?_, fun x y z h1 h2 => ?_, fun x y z h1 h2 => ?_⟩
  · rw [h]; exact bl_irrefl _
  · rw [h] at *; exact bl_trans h1 h2
  · rw [h] at *; exact leB_trans (x := rec_ z) (y := rec_ y) (z := rec_ x) h2 h1
end Go.Proofs.Yteaibgnelnblnaa
end
