/- Bytes copied into a row of bytes of one's own. -/
import Derived.Test.YtgnghalcihoaaaaCel
import Derived.Test.YtgnghalcihoaaaaFoot
import Derived.Laws.CopyOwn
namespace Go.Proofs.Ytgnghalcihoaaaa
open Go.RowKit Me

theorem wpList_copy_bytes {P : Program} {w : World} {ops : Array Oper} {rest : List Oper} {o : Oper} {a : Act} {Q : Exit → Act → World → Prop} (hgd : o.guard = none) (d s : Operand) (t : TypeId)
    (ho : o.op = .call { callee := .builtin .copy, args := #[d, s], argTypes := #[t, t] }) (e : TypeId) (hu : P.underlying t = some (.slice e)) (hsz : (P.info? e).map (·.size) = some 1)
    (base g N off dLen dCap : Nat) (l : List UInt8) (hown : w.ownsRow base e 1 (.slice (some ⟨g, 0, none⟩) N N) N (cellsOf l)) (hd : a.eval d = .slice (some ⟨g, off, none⟩) dLen dCap)
    (B : Nat) (A : Option Addr) (m c : Nat) (x : List UInt8) (hs : a.eval s = .slice A m c) (hm : x.length = m) (hr : Rd w B A x) (hml : m ≤ dLen) (hoff : off + m ≤ N) (w0 : World) (hb : Below base w0 w)
    (h : ∀ w', w'.ownsRow base e 1 (.slice (some ⟨g, 0, none⟩) N N) N (cellsOf (l.take off ++ x ++ l.drop (off + m))) → Below base w0 w' → wpList P ops Q rest (a.put o.dst (goInt m)) w') : wpList P ops Q (o :: rest) a w := by
  have hl := hown.1
  rw [cellsOf_length, Nat.mul_one] at hl
  rcases hown.2 with ⟨e1, -⟩ | ⟨g', cap, cur, e1, hg, hh, h1, h2, h3, h4⟩
  · cases e1
  · injection e1 with e1 _ e2
    injection e1 with e1
    injection e1 with e1 _ _
    subst e1 e2
    rw [Nat.mul_one] at h3 h4
    have hcur : cur.toList = cellsOf l := by
      rw [← h4]
      exact (List.take_of_length_le (by simp; omega)).symm
    have hh' : w.heap[g]? = some (.cells (cellsOf l).toArray e (0, 0)) := by rw [hh, ← hcur]
    refine wpList_copy_splice hgd d s t t ho e hu hsz _ A dLen dCap m c hd hs g off (cellsOf l) e hh' (cellsOf x) (by rw [cellsOf_length, hm]; exact (Nat.min_eq_left hml).symm) (fun hp => ⟨rfl, ?_⟩) (by rw [cellsOf_length, cellsOf_length]; omega) (cellsOf_one x) base w0 hb hg ?_
    · rw [cellsOf_length] at hp
      obtain ⟨ad, e3, -, hc⟩ := hr hp
      refine ⟨ad, e3, fun j v hv => ?_⟩
      simp only [cellsOf, List.getElem?_map] at hv
      cases hj : x[j]? with
      | none => simp [hj] at hv
      | some u =>
        simp [hj] at hv
        subst hv
        exact hc j u hj
    · intro w' hw' hb'
      have e4 : splice (cellsOf l) off (cellsOf x) = cellsOf (l.take off ++ x ++ l.drop (off + m)) := by
        unfold splice
        rw [cellsOf_length, hm]
        simp [cellsOf]
      have hlen : (l.take off ++ x ++ l.drop (off + m)).length = N := by
        simp only [List.length_append, List.length_take, List.length_drop]
        omega
      rw [cellsOf_length, hm]
      refine h w' ⟨by rw [cellsOf_length, hlen, Nat.mul_one], .inr ⟨g, N, (cellsOf (l.take off ++ x ++ l.drop (off + m))).toArray, rfl, hg, ?_, Nat.le_refl _, h2, ?_, ?_⟩⟩ hb'
      · rw [← e4]; exact hw'
      · rw [List.size_toArray, cellsOf_length, hlen, Nat.mul_one]
      · rw [Nat.mul_one]
        exact List.take_of_length_le (by rw [cellsOf_length, hlen]; exact Nat.le_refl _)
end Go.Proofs.Ytgnghalcihoaaaa
