/- Rows of numbers: their cells; as an argument's. -/
import Derived.Test.YtgnghalcihoaaaaCel0
namespace Go.Proofs.Ytgnghalcihoaaaa
open Go.RowKit Me

/-- Bytes as a string. -/
abbrev sv (b : List UInt8) : Value := .string ⟨b.toArray⟩
def icells (l : List Int) : List Value := l.map (Value.int .i64)
theorem icells_length (l : List Int) : (icells l).length = l.length := by simp [icells]
theorem icells_get {l : List Int} {i : Nat} {z : Int} (h : l[i]? = some z) : (icells l)[i]? = some (.int .i64 z) := by simp [icells, h]
theorem icells_one (l : List Int) : ∀ v ∈ icells l, v.oneCell' = true := by
  intro v hv
  simp only [icells, List.mem_map] at hv
  obtain ⟨u, -, rfl⟩ := hv
  rfl
theorem icells_append (k m : List Int) : icells (k ++ m) = icells k ++ icells m := by simp [icells]
open Go.ChangeShapes Go.WideShapes
/-- Numbers out of a slice's cell. -/
theorem ints_of_trod {H : Type} {enc : TypeId × Value → H} {P : Program} {W : World} {t e : TypeId} {fuel : Nat} {cs : List Value} {x : DataW H × List MemPlace} (ht : P.underlying t = some (.slice e)) (he : P.underlying e = some (.int .i64)) (hc : P.cellsOf e = 1)
    (hf : DataW.trod enc P W 0 (fun _ => true) true fuel t cs = some x) : ∃ A n c l, cs = [.slice A n c] ∧ l.length = n ∧ n ≤ c ∧ n ≤ 9223372036854775807 ∧ Cs W W.heap.size A (icells l) := by
  rcases ChangeShapes.open_ints ht he hc hf with ⟨hcs, hx⟩ | ⟨a, len, cap, zs, hcs, _, hl, hm, hz, hx, hcell, hwz⟩
  · exact ⟨_, _, _, [], hcs, rfl, by omega, by omega, Cs.empty⟩
  · simp only [if_true] at hz
    refine ⟨_, _, _, zs.take len, hcs, by simp; omega, hl, by unfold maxLen at hm; omega, fun hn => ?_⟩
    have hn' : 0 < len := by rw [icells_length] at hn; simp at hn; omega
    have h0 := hcell 0 (by omega)
    have hb := block_lt_of_cell h0
    rw [Me.block_add] at hb
    refine ⟨a, rfl, hb, fun i u hu => ?_⟩
    unfold icells at hu
    rw [List.getElem?_map] at hu
    have hi : i < len := by
      rcases Nat.lt_or_ge i len with h | h
      · exact h
      · rw [List.getElem?_take, if_neg (by omega)] at hu; cases hu
    rw [List.getElem?_take, if_pos hi, List.getElem?_eq_getElem (by omega)] at hu
    injection hu with hu
    have e1 : zs.getD i 0 = zs[i] := by rw [List.getD_eq_getElem?_getD, List.getElem?_eq_getElem (by omega)]; rfl
    rw [hcell i (by omega), e1, ← hu]
theorem add_at (x : Addr) (j : Nat) : x.add (j + 1) = ⟨x.block, x.off + (j + 1), none⟩ := by
  have := add_field x 0 j
  rw [Nat.zero_add] at this
  rw [this]
  unfold Addr.add
  simp
theorem sv_data (s : ByteArray) : sv s.data.toList = .string s := by obtain ⟨⟨l⟩⟩ := s; rfl
end Go.Proofs.Ytgnghalcihoaaaa
