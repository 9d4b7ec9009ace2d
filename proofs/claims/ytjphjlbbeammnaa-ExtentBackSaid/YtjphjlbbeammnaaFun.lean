/- Whether one of some numbers is such: slices.ContainsFunc at a predicate that is a closure; what it is here: that there is no such block. -/
import Derived.Test.YtjphjlbbeammnaaMap
import Derived.RegionTactic
import Derived.Shelf.Abstract
namespace Go.Proofs.Ytjphjlbbeammnaa
open Go.RowKit Me Ex

/-- The first of them that is such. -/
def firstI (p : Int → Bool) : List Int → Nat → Int
  | [], _ => -1
  | z :: l, j => if p z then (j : Int) else firstI p l (j + 1)
theorem firstI_any (p : Int → Bool) : ∀ (l : List Int) (j : Nat), decide (0 ≤ firstI p l j) = l.any p
  | [], j => rfl
  | z :: l, j => by
    rw [firstI, List.any_cons]
    cases h : p z with
    | true => simp
    | false => rw [if_neg (by decide), firstI_any p l (j + 1)]; simp
theorem firstI_drop (p : Int → Bool) {l : List Int} {j : Nat} {z : Int} (h : l[j]? = some z) (hp : p z = false) : firstI p (l.drop j) j = firstI p (l.drop (j + 1)) (j + 1) := by
  have hlt := (List.getElem?_eq_some_iff.1 h).1
  have e := List.drop_eq_getElem_cons hlt
  rw [List.getElem?_eq_getElem hlt] at h
  injection h with h
  rw [e, firstI, h, if_neg (by rw [hp]; decide)]
theorem firstI_here (p : Int → Bool) {l : List Int} {j : Nat} {z : Int} (h : l[j]? = some z) (hp : p z = true) : firstI p (l.drop j) j = (j : Int) := by
  have hlt := (List.getElem?_eq_some_iff.1 h).1
  have e := List.drop_eq_getElem_cons hlt
  rw [List.getElem?_eq_getElem hlt] at h
  injection h with h
  rw [e, firstI, h, if_pos hp]
theorem cz_at {w : World} {S : Nat → Prop} {A : Option Addr} {l : List Int} (h : Cz w S A (icells l)) {j : Nat} (hj : j < l.length) : ∃ a, A = some a ∧ w.cell? (a.add j) = some (.int .i64 (l.getD j 0)) := by
  obtain ⟨a, e, -, -, hc⟩ := h (by rw [icells_length]; omega)
  exact ⟨a, e, hc j _ (icells_get (getI_of hj))⟩
set_option maxRecDepth 100000 in
set_option maxHeartbeats 400000 in
theorem index_any (g : Nat) (cb : Array Value) (p : Int → Bool) (w : World) (S : Nat → Prop) (A : Option Addr) (n c : Nat) (l : List Int) (eg : ∀ args w, (callFunc g args).run Try.prog w = .ok (.enter g args) w) (hl : l.length = n) (hn : n ≤ 9223372036854775807) (hr : Cz w S A (icells l))
    (hf : ∀ z : Int, Calls Try.prog g (#[.int .i64 z] ++ cb) w fun e w' => e = .returned (.bool (p z)) ∧ w = w') :
    Calls Try.prog 27 #[.slice A n c, .func (.func g) #[] cb] w fun e w' => e = .returned (.int .i64 (firstI p l 0)) ∧ w = w' := by
  have HL := Lib.hid hl
  have HR := Lib.hid hr
  have HF := Lib.hid hf
  clear hl hr hf
  go_enter Try.func27, Try.ntmps27
  go_wp2
  go_loopw [8] (fun x wr => ∃ j : Nat, x = .int .i64 (j : Int) ∧ j ≤ n ∧ Hid (firstI p l 0 = firstI p (l.drop j) j) ∧ w = wr) (fun x _ => n - (intOf x).toNat)
  case atStart => exact ⟨0, rfl, Nat.zero_le _, Lib.hid rfl, rfl⟩
  case round =>
    obtain ⟨j, rfl, hjn, HI, rfl⟩ := hrel
    by_cases hlt : j < n
    · have hj : j < l.length := by rw [HL.out]; exact hlt
      obtain ⟨a, rfl, e1⟩ := cz_at HR.out hj
      have hz := getI_of hj
      generalize l.getD j 0 = z at *
      cases hp : p z with
      | true =>
        have HI2 := Lib.hid (HI.out.trans (firstI_here p hz hp))
        have HP := Lib.hid hp
        clear hz hp hj
        go_wp2_with fail
        refine (HF.out z).mono ?_
        rw [HP.out]
        rintro e w1 ⟨rfl, rfl⟩
        go_wp2
        go_ret
        exact ⟨by rw [HI2.out]; rfl, rfl⟩
      | false =>
        have HI2 := Lib.hid (HI.out.trans (firstI_drop p hz hp))
        have HP := Lib.hid hp
        clear hz hp hj
        go_wp2_with fail
        refine (HF.out z).mono ?_
        rw [HP.out]
        rintro e w1 ⟨rfl, rfl⟩
        go_wp2
        go_roundw
        case rel => exact ⟨j + 1, by go_num, by omega, HI2, trivial⟩
        case measure => simp [intOf]; omega
    · have hjn' : j = n := by omega
      subst hjn'
      have hi := HI.out
      rw [List.drop_of_length_le (by rw [HL.out]; exact Nat.le_refl _)] at hi
      have HI2 := Lib.hid hi
      clear hi
      go_wp2
      go_ret
      exact ⟨by rw [HI2.out]; rfl, rfl⟩
set_option maxRecDepth 100000 in
set_option maxHeartbeats 400000 in
theorem contains_any (g : Nat) (cb : Array Value) (p : Int → Bool) (w : World) (S : Nat → Prop) (A : Option Addr) (n c : Nat) (l : List Int) (eg : ∀ args w, (callFunc g args).run Try.prog w = .ok (.enter g args) w) (hl : l.length = n) (hn : n ≤ 9223372036854775807) (hr : Cz w S A (icells l))
    (hf : ∀ z : Int, Calls Try.prog g (#[.int .i64 z] ++ cb) w fun e w' => e = .returned (.bool (p z)) ∧ w = w') :
    Calls Try.prog 24 #[.slice A n c, .func (.func g) #[] cb] w fun e w' => e = .returned (.bool (l.any p)) ∧ w = w' := by
  have HI := Lib.hid (index_any g cb p w S A n c l eg hl hn hr hf)
  have HP := Lib.hid (firstI_any p l 0)
  generalize firstI p l 0 = r at *
  clear hl hr hf
  go_enter Try.func24, Try.ntmps24
  go_wp2_with (go_at_call 27; refine HI.out.mono ?_; rintro e w' ⟨rfl, rfl⟩)
  go_ret
  exact ⟨by rw [← HP.out]; rfl, rfl⟩
section
variable {w : World} {B D H : Nat} {k : List Bool} {own : Nat → Prop}
/-- The predicate: there is no such block. -/
theorem closure_any (h : MapAt w B D k own) (hb : w.cell? ⟨H, 0, none⟩ = some (.pointer (some ⟨D, 0, none⟩))) (z : Int) :
    Calls Try.prog 25 #[.int .i64 z, .pointer (some ⟨H, 0, none⟩)] w fun e w' => e = .returned (.bool (!hasB k.length z)) ∧ w = w' := by
  have HH := Lib.hid (has_any h z)
  clear h
  go_enter Try.func25, Try.ntmps25
  go_wp2_with (go_at_call 22; refine HH.out.mono ?_; rintro e w' ⟨rfl, rfl⟩)
  go_ret
  exact ⟨rfl, rfl⟩
theorem closure_nil (hb : w.cell? ⟨H, 0, none⟩ = some (.pointer none)) (z : Int) :
    Calls Try.prog 25 #[.int .i64 z, .pointer (some ⟨H, 0, none⟩)] w fun e w' => e = .returned (.bool true) ∧ w = w' := by
  have HH := Lib.hid (has_nil w z)
  go_enter Try.func25, Try.ntmps25
  go_wp2_with (go_at_call 22; refine HH.out.mono ?_; rintro e w' ⟨rfl, rfl⟩)
  go_ret
  exact ⟨rfl, rfl⟩
end
end Go.Proofs.Ytjphjlbbeammnaa
