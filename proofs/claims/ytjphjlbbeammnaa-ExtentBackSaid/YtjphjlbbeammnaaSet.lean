/- Blocks of a map are made so, whatever they were. -/
import Derived.Test.YtjphjlbbeammnaaFun
namespace Go.Proofs.Ytjphjlbbeammnaa
open Go.RowKit Me Ex

/-- Numbers of blocks that there are. -/
def Good (n : Nat) (l : List Int) : Prop := ∀ z ∈ l, ∃ i : Nat, z = (i : Int) ∧ i < n
theorem Good.at {n : Nat} {l : List Int} (h : Good n l) {j : Nat} (hj : j < l.length) : ∃ i : Nat, l[j]? = some (i : Int) ∧ i < n := by
  obtain ⟨i, hi, hlt⟩ := h _ (List.getElem_mem hj)
  exact ⟨i, by rw [List.getElem?_eq_getElem hj, hi], hlt⟩
theorem Good.take {n : Nat} {l : List Int} (h : Good n l) (j : Nat) : Good n (l.take j) := fun z hz => h z (List.mem_of_mem_take hz)
theorem setAll_drop (v : Bool) {l : List Int} {j i : Nat} (cur : List Bool) (h : l[j]? = some (i : Int)) : setAll v cur (l.drop j) = setAll v (cur.set i v) (l.drop (j + 1)) := by
  have hlt := (List.getElem?_eq_some_iff.1 h).1
  have e := List.drop_eq_getElem_cons hlt
  rw [List.getElem?_eq_getElem hlt] at h
  injection h with h
  rw [e, h, setAll, Int.toNat_natCast]
theorem cz_cell {w : World} {S : Nat → Prop} {A : Option Addr} {l : List Int} (h : Cz w S A (icells l)) {j : Nat} {z : Int} (hj : l[j]? = some z) : ∃ a, A = some a ∧ w.cell? (a.add j) = some (.int .i64 z) := by
  obtain ⟨a, e, -, -, hc⟩ := h (by rw [icells_length]; have := (List.getElem?_eq_some_iff.1 hj).1; omega)
  exact ⟨a, e, hc j _ (icells_get hj)⟩
set_option maxRecDepth 100000 in
set_option maxHeartbeats 400000 in
theorem set_any {w : World} {B D : Nat} {Pv : Value} {k : List Bool} {own : Nat → Prop} (h : Laid w B D Pv k own) (A : Option Addr) (m c : Nat) (l : List Int) (v : Bool) (hl : l.length = m) (hm : m ≤ 9223372036854775807) (hr : Cz w own A (icells l)) (hg : Good k.length l) :
    Calls Try.prog 26 #[.pointer (some ⟨D, 0, none⟩), .slice A m c, .bool v] w fun e w' => e = .returned (.tuple #[]) ∧ Laid w' B D Pv (setAll v k l) own ∧ Out own w w' := by
  obtain ⟨R, hR⟩ : ∃ R, R = setAll v k l := ⟨_, rfl⟩
  rw [← hR]
  have HR0 := Lib.hid hR
  have HL := Lib.hid hl
  have HH := Lib.hid h
  have HC := Lib.hid hr
  have HG := Lib.hid hg
  clear hR hl h hr hg
  go_enter Try.func26, Try.ntmps26
  go_wp2
  go_loopw [10] (fun x wr => ∃ j : Nat, x = .int .i64 (j : Int) ∧ j ≤ m ∧ ∃ cur, Hid (setAll v cur (l.drop j) = R ∧ cur.length = k.length) ∧ Hid (Laid wr B D Pv cur own) ∧ Hid (Out own w wr)) (fun x _ => m - (intOf x).toNat)
  case atStart => exact ⟨0, rfl, Nat.zero_le _, k, Lib.hid ⟨HR0.out.symm, rfl⟩, HH, Lib.hid (Out.refl _ _)⟩
  case round =>
    obtain ⟨j, rfl, hjm, cur, HS, HK, HO⟩ := hrel
    by_cases hlt : j < m
    · have hj : j < l.length := by rw [HL.out]; exact hlt
      obtain ⟨i, hi, hin⟩ := HG.out.at hj
      obtain ⟨a, rfl, e0⟩ := cz_cell (HC.out.out HO.out) hi
      have hin' : i < cur.length := by rw [HS.out.2]; exact hin
      obtain ⟨g, c', hv, hog, hgd, hat⟩ := HK.out.at hin'
      obtain ⟨e1, f1⟩ := hat i hin'
      obtain ⟨hk2, ho2⟩ := HK.out.set hv hgd i v
      have c0 := HK.out.blk.cell (i := 0) rfl
      obtain ⟨n, hn⟩ : ∃ n, n = cur.length := ⟨_, rfl⟩
      rw [hv, ← hn] at c0
      have hlti : (i : Int) < (n : Int) := by omega
      have HS2 := Lib.hid (show setAll v (cur.set i v) (l.drop (j + 1)) = R ∧ (cur.set i v).length = k.length from ⟨by rw [← setAll_drop v cur hi]; exact HS.out.1, by rw [List.length_set]; exact HS.out.2⟩)
      have HK2 := Lib.hid hk2
      have HO2 := Lib.hid (HO.out.trans ho2)
      clear hi hin hin' hv hog hgd hat hk2 ho2 hn hj
      go_wp2
      go_roundw
      case rel => exact ⟨j + 1, by go_num, by omega, _, HS2, HK2, HO2⟩
      case measure => simp [intOf]; omega
    · have hjm' : j = m := by omega
      subst hjm'
      have hs := HS.out.1
      rw [List.drop_of_length_le (by rw [HL.out]; exact Nat.le_refl _)] at hs
      have HS2 := Lib.hid (show cur = R from hs)
      clear hs
      go_wp2
      go_end0
      refine ⟨rfl, ?_, HO.out⟩
      rw [← HS2.out]
      exact HK.out
end Go.Proofs.Ytjphjlbbeammnaa
