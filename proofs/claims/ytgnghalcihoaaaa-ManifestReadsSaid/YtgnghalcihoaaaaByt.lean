/- Bytes at this program: how a law's bytes are opened, bytes read as a string, a copy of bytes. -/
import Derived.Test.YtgnghalcihoaaaaBas
import Derived.Test.YtgnghalcihoaaaaMem
import Derived.Test.YtgnghalcihoaaaaLaw
import Derived.WalkKit
import Derived.WalkSpells
import Derived.Lib.Hide
import Derived.Lib.SliceRun
import Derived.WalkLawsBesides
namespace Go.Proofs.Ytgnghalcihoaaaa
open Go.RowKit Me

theorem cells_u8 : Try.prog.cellsOf 5 = 1 := by kernel_rfl
theorem u8_info : (Try.prog.info? 5).map (fun i => (i.zero, i.size, i.bytes)) = some (some (.int .u8 0), 1, 1) := by kernel_rfl
theorem str_any (A : Option Addr) (n c : Nat) (l : List UInt8) (w : World) (B : Nat) (hl : l.length = n) (hr : Rd w B A l) : (convert 22 9 (.slice A n c)).run Try.prog w = .ok (.string ⟨l.toArray⟩) w :=
  run_str 22 5 9 Try.underlying22 Try.underlying5 Try.underlying9 w B A l n c hl hr

/-- New memory is answered that reads as these bytes; nothing that was there has turned. -/
def News (w : World) (l : List UInt8) (e : Ending) (w' : World) : Prop :=
  ∃ v n, e = .returned v ∧ w'.ownsRow w.heap.size 5 1 v n (cellsOf l) ∧ Below w.heap.size w w'
theorem News.open {w w' : World} {l : List UInt8} {e : Ending} (h : News w l e w') :
    ∃ A n c, e = .returned (.slice A n c) ∧ l.length = n ∧ n ≤ c ∧ w'.ownsRow w.heap.size 5 1 (.slice A n c) n (cellsOf l) ∧ Rd w' w'.heap.size A l ∧ Below w.heap.size w w' := by
  obtain ⟨v, n, he, ho, hb⟩ := h
  obtain ⟨A, c, rfl⟩ := own_slice ho
  have hn := ho.1
  rw [cellsOf_length, Nat.mul_one] at hn
  refine ⟨A, n, c, he, hn, ?_, ho, Rd.of_own ho, hb⟩
  rcases Nat.eq_zero_or_pos n with h0 | h0
  · omega
  · exact own_cap ho h0

/-- Bytes as an argument: a slice, nil or not. -/
theorem open_bytes {H : Type} {enc : TypeId × Value → H} {P : Program} {W : World} {b0 : Nat} {t e : TypeId} {v : Value} {d : DataW H} {ps : List MemPlace} (ht : P.underlying t = some (.slice e)) (he : P.underlying e = some (.int .u8)) (hc : P.cellsOf e = 1)
    (hv : Value.okWide P W .any b0 t v) (h : DataW.Trod enc P W 0 (fun _ => true) true t v d ps) :
    ∃ A n c l, v = .slice A n c ∧ l.length = n ∧ n ≤ c ∧ c ≤ 9223372036854775807 ∧ Rd W W.heap.size A l := by
  obtain ⟨A, n, c, rfl⟩ := WideShapes.okWide_slice ht hv
  obtain ⟨fuel, hf⟩ := h
  rcases ChangeShapes.open_ints ht he hc hf with ⟨hcs, hx⟩ | ⟨a, len, cap, zs, hcs, _, hl, hm, hz, hx, hcell, hwz⟩
  · simp [Value.cells] at hcs
    obtain ⟨rfl, rfl, rfl⟩ := hcs
    exact ⟨_, _, _, [], rfl, rfl, Nat.le_refl _, by omega, Rd.empty⟩
  · simp [Value.cells] at hcs
    obtain ⟨rfl, rfl, rfl⟩ := hcs
    simp only [if_true] at hz
    refine ⟨_, _, _, (zs.take n).map (fun z => UInt8.ofNat z.toNat), rfl, by simp; omega, hl, by unfold maxLen at hm; omega, fun hn => ?_⟩
    have hn' : 0 < n := by simp at hn; omega
    have h0 := hcell 0 (by omega)
    have hb := block_lt_of_cell h0
    rw [block_add] at hb
    refine ⟨a, rfl, hb, fun i u hu => ?_⟩
    rw [List.getElem?_map] at hu
    have hi : i < n := by
      rcases Nat.lt_or_ge i n with h | h
      · exact h
      · rw [List.getElem?_take, if_neg (by omega)] at hu; cases hu
    rw [List.getElem?_take, if_pos hi, List.getElem?_eq_getElem (by omega)] at hu
    injection hu with hu
    have hw := hwz zs[i] (List.getElem_mem _)
    have e1 : zs.getD i 0 = zs[i] := by rw [List.getD_eq_getElem?_getD, List.getElem?_eq_getElem (by omega)]; rfl
    rw [hcell i (by omega), e1, ← hu]
    simp [Lit.wf, IntKind.min, IntKind.max, IntKind.bits, IntKind.signed] at hw
    congr 2
    rw [UInt8.toNat_ofNat']
    omega

end Go.Proofs.Ytgnghalcihoaaaa
