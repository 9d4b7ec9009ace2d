/- The program and the document read the same manifest. -/
import Derived.Test.YtcnmamdfiicdaaaRReadB
import Derived.Test.YtcnmamdfiicdaaaModel
namespace Go.Proofs.Ytcnmamdfiicdaaa
open Go.RowKit Me Mf Rw Ds

theorem mread_any {w : World} {B D : Nat} {S : Dsk} {own : Nat → Prop} {T : Nat → Option ManD} {Z : Nat → Bool} (h : DiskAt w B D S own) (hp : S.pend.length < 4611686018427387904)
    (hT : ∀ k, k < 2 → Says (slotD S k 16) (T k)) (hZ : ∀ k, k < 2 → Z k = zeros (slotD S k 16)) :
    Calls Try.prog 17 #[.pointer (some ⟨D, 0, none⟩)] w (RdPost w (ansD S T Z)) := by
  by_cases hs : S.stored.length ≤ 32
  · have : ansD S T Z = (noMan, 1) := by unfold ansD; rw [if_pos hs]
    rw [this]
    exact mread_small h hs
  · exact mread_big h hp (by omega) hT hZ
theorem rread_any' {own : Nat → Prop} {w : World} {M : RefM} {Am Aw : Option Addr} {nm cm nw cw : Nat} {T : Nat → Option ManD} {Z : Nat → Bool} (h : RefAt w own M Am cm Aw cw) (hm : M.made.length = nm) (hw : M.wait.length = nw) (hnm : nm ≤ 4611686018427387904) (hnw : nw ≤ 4611686018427387904) (hb : ∀ i, (readR M i).length ≤ 128)
    (hT : M.off = false → ∀ k, k < 2 → Says (slotR M k 16) (T k)) (hZ : M.off = false → ∀ k, k < 2 → Z k = zeros (slotR M k 16)) :
    Calls Try.prog 22 #[.agg #[.int .i64 (M.count : Int), .bool M.off, .int .i64 M.fuse, .slice Am nm cm, .slice Aw nw cw]] w (RdPost w (ansR M T Z)) := by
  by_cases hs : M.count ≤ 32
  · have : ansR M T Z = (noMan, 1) := by unfold ansR; rw [if_pos hs]
    rw [this]
    exact rread_small (own := own) hs
  · cases ho : M.off with
    | true =>
      have : ansR M T Z = (noMan, 6) := by unfold ansR; rw [if_neg hs, ho]; rfl
      rw [this, ← ho]
      exact rread_off (own := own) hs ho
    | false =>
      have : ansR M T Z = ansOf (curOf T 2) (blkOf Z 2) := by unfold ansR; rw [if_neg hs, ho]; rfl
      rw [this, ← ho]
      exact rread_big h hm hw hnm hnw hb (by omega) ho (hT ho) (hZ ho)
/-- The document's disk off. -/
def offR (M : RefM) : RefM := { M with off := true }
theorem ans_on {S : Dsk} (hon : S.on = true) (T : Nat → Option ManD) (Z : Nat → Bool) : ansR (mdlR S) T Z = ansD S T Z := by
  unfold ansR ansD
  rw [hon]
  rfl
theorem ans_off {S : Dsk} (T T' : Nat → Option ManD) (Z Z' : Nat → Bool) : ansR (offR (mdlR S)) T Z = ansD { S with on := false } T' Z' := by
  unfold ansR ansD offR
  rfl
/-- What the slots of a disk tell. -/
theorem slots_say (S : Dsk) : ∃ (T : Nat → Option ManD) (Z : Nat → Bool), (∀ k, k < 2 → Says (slotD S k 16) (T k)) ∧ ∀ k, k < 2 → Z k = zeros (slotD S k 16) := by
  obtain ⟨x0, h0⟩ := says_any (slotD S 0 16)
  obtain ⟨x1, h1⟩ := says_any (slotD S 1 16)
  refine ⟨fun k => if k = 0 then x0 else x1, fun k => zeros (slotD S k 16), fun k hk => ?_, fun k _ => rfl⟩
  match k, hk with
  | 0, _ => exact h0
  | 1, _ => exact h1
/-- A write that is done. -/
theorem writeD_ok {S : Dsk} (hon : S.on = true) (hf : S.fuse < 0) {k : Nat} (hk : k < S.stored.length) {l : List UInt8} (hl : l.length = 128) : writeD S (k : Int) l = ({ S with pend := S.pend ++ [⟨k, l⟩] }, 0) := by
  unfold writeD
  rw [hasB_nat, decide_eq_true hk, power_neg hf, hon]
  simp [hl, hon]
end Go.Proofs.Ytcnmamdfiicdaaa
