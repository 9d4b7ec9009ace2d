/- Texts put together, for a law: Bc. -/
import Derived.Lib.Bytealg
import Derived.Lib.BytesEntry
import Derived.Laws.Externs
import Derived.Test.YteaibgnelnblnaaKQ3
import Derived.Test.YteaibgnelnblnaaKQ2
section
namespace Go.Proofs.Yteaibgnelnblnaa
open Go.RowKit Me Rn

theorem cmpB_eq : ∀ a b : List UInt8, Lib.compareBytes a b = cmpB a b
  | [], [] => by simp [Lib.compareBytes, cmpB, Op.bytesLess]
  | [], b :: y => by simp [Lib.compareBytes, cmpB, Op.bytesLess]
  | a :: x, [] => by simp [Lib.compareBytes, cmpB, Op.bytesLess]
  | a :: x, b :: y => by
    have ih := cmpB_eq x y
    rw [Lib.compareBytes]
    by_cases h1 : a < b
    · rw [if_pos h1]
      have : Op.bytesLess (a :: x) (b :: y) = true := (bl_cons a b x y).2 (.inl (UInt8.lt_iff_toNat_lt.1 h1))
      rw [cmpB, this]; rfl
    · rw [if_neg h1]
      by_cases h2 : b < a
      · rw [if_pos h2]
        have k1 : Op.bytesLess (b :: y) (a :: x) = true := (bl_cons b a y x).2 (.inl (UInt8.lt_iff_toNat_lt.1 h2))
        have k2 : Op.bytesLess (a :: x) (b :: y) = false := leB_of k1
        rw [cmpB, k1, k2]; rfl
      · rw [if_neg h2]
        have e : a = b := by
          rw [UInt8.lt_iff_toNat_lt] at h1 h2
          exact UInt8.toNat.inj (by omega)
        subst e
        have k : ∀ u v : List UInt8, Op.bytesLess (a :: u) (a :: v) = Op.bytesLess u v := fun u v => by
          rw [Bool.eq_iff_iff, bl_cons]
          simp
        rw [ih, cmpB, cmpB, k, k]
theorem run_bytesOf {P : Program} (w : World) (B : Nat) (A : Option Addr) (n c : Nat) (l : List UInt8) (hl : l.length = n) (hr : Rd w B A l) : (Extern.Bytes.bytesOf (.slice A n c)).run P w = .ok ⟨l.toArray⟩ w := by
  cases A with
  | none =>
    have : l = [] := by
      cases l with
      | nil => rfl
      | cons x l =>
        obtain ⟨a, h, -⟩ := hr (by simp)
        cases h
    subst this
    rfl
  | some a =>
    have hh := Lib.run_loadBytesX (P := P) w (l.map fun u => (u.toNat : Int)) a .empty (fun j x hj => by
      rw [List.getElem?_map] at hj
      cases hu : l[j]? with
      | none => rw [hu] at hj; cases hj
      | some u =>
        rw [hu] at hj
        injection hj with hj
        subst hj
        have hj' := (List.getElem?_eq_some_iff.1 hu).1
        obtain ⟨a', u', e, -, h1, h2⟩ := hr.at hj'
        injection e with e
        subst e
        rw [hu] at h1
        injection h1 with h1
        subst h1
        exact h2)
    rw [List.length_map, hl] at hh
    have e : Lib.bytesOf (l.map fun u => (u.toNat : Int)) = l := by
      simp only [Lib.bytesOf, List.map_map]
      conv => rhs; rw [← List.map_id l]
      refine List.map_congr_left fun u _ => ?_
      simp [Function.comp]
    rw [e] at hh
    have he : (⟨ByteArray.empty.data ++ l.toArray⟩ : ByteArray) = ⟨l.toArray⟩ := by
      apply ByteArray.ext
      show (#[] : Array UInt8) ++ l.toArray = l.toArray
      simp
    rw [he] at hh
    exact hh
theorem run_compare {P : Program} (w : World) (B B' : Nat) (A A' : Option Addr) (n c n' c' : Nat) (l m : List UInt8) (hl : l.length = n) (hr : Rd w B A l) (hm : m.length = n') (hr' : Rd w B' A' m) :
    (Extern.BytealgCompare.compare #[.slice A n c, .slice A' n' c']).run P w = .ok (.int .i64 (cmpB l m)) w := by
  change Sem.run P (do pure (goInt (Extern.BytealgCompare.cmp (← Extern.Bytes.bytesOf (.slice A n c)) (← Extern.Bytes.bytesOf (.slice A' n' c'))))) w = _
  simp only [Sem.run_bind, run_bytesOf w B A n c l hl hr, run_bytesOf w B' A' n' c' m hm hr', Sem.run_pure, Result.andThen]
  rw [Lib.cmp_eq, cmpB_eq]
  rfl
set_option maxRecDepth 100000 in
theorem bcompare_any (A A' : Option Addr) (n c n' c' : Nat) (l m : List UInt8) (w : World) (B B' : Nat) (hl : l.length = n) (hr : Rd w B A l) (hm : m.length = n') (hr' : Rd w B' A' m) :
    Calls Try.prog 30 #[.slice A n c, .slice A' n' c'] w fun e w' => e = .returned (.int .i64 (cmpB l m)) ∧ w' = w := by
  have HC := Lib.hid (run_compare (P := Try.prog) w B B' A A' n c n' c' l m hl hr hm hr')
  clear hl hr hm hr'
  go_enter Try.func30, Try.ntmps30
  go_wp2
  rw [run_callFunc_extern Try.func48 (by kernel_rfl) (by kernel_rfl) (by kernel_rfl) (e := Extern.BytealgCompare.compare) (by kernel_rfl), HC.out]
  simp only [Result.andThen]
  rw [Oper.upon_value]
  go_wp2
  go_ret
  exact ⟨rfl, rfl⟩
end Go.Proofs.Yteaibgnelnblnaa
end
