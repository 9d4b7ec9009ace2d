/- Texts put together: Byt, Clo, Cel, Equ, Copy, Step2. -/
import Derived.Test.YtoflbfkmkalgcaaGen
import Derived.WalkKit
import Derived.WalkSpells
import Derived.Lib.Hide
import Derived.Lib.SliceRun
import Derived.WalkLawsBesides
import Derived.Laws.CopyOwn
import Derived.Maps.AppendAt
import Derived.Deep.RegionLaw
/-! Bytes at this program: how a law's bytes are opened, bytes read as a string, a copy of bytes. -/
namespace Go.Proofs.Ytoflbfkmkalgcaa
open Go.RowKit Me

theorem cells_u8 : Try.prog.cellsOf 5 = 1 := by kernel_rfl
theorem u8_info : (Try.prog.info? 5).map (fun i => (i.zero, i.size, i.bytes)) = some (some (.int .u8 0), 1, 1) := by kernel_rfl
/-- New memory is answered that reads as these bytes; nothing that was there has turned. -/
def News (w : World) (l : List UInt8) (e : Ending) (w' : World) : Prop :=
  ∃ v n, e = .returned v ∧ w'.ownsRow w.heap.size 5 1 v n (cellsOf l) ∧ Below w.heap.size w w'
theorem News.open {w w' : World} {l : List UInt8} {e : Ending} (h : News w l e w') :
    ∃ A n c, e = .returned (.slice A n c) ∧ l.length = n ∧ n ≤ c ∧ w'.ownsRow w.heap.size 5 1 (.slice A n c) n (cellsOf l) ∧ Rd w' w'.heap.size A l ∧ Below w.heap.size w w' := by
  obtain ⟨v, n, he, ho, hb⟩ := h
  obtain ⟨A, c, rfl⟩ := own_slice ho
  have hn := ho.1
  rw [cellsOf_length, Nat.mul_one] at hn
  refine ⟨A, n, c, he, hn, ?_, ho, Rd.of_own ho, hb⟩
  rcases Nat.eq_zero_or_pos n with h0 | h0
  · omega
  · exact own_cap ho h0

/-- Bytes as an argument: a slice, nil or not. -/
theorem open_bytes {H : Type} {enc : TypeId × Value → H} {P : Program} {W : World} {b0 : Nat} {t e : TypeId} {v : Value} {d : DataW H} {ps : List MemPlace} (ht : P.underlying t = some (.slice e)) (he : P.underlying e = some (.int .u8)) (hc : P.cellsOf e = 1)
    (hv : Value.okWide P W .any b0 t v) (h : DataW.Trod enc P W 0 (fun _ => true) true t v d ps) :
    ∃ A n c l, v = .slice A n c ∧ l.length = n ∧ n ≤ c ∧ c ≤ 9223372036854775807 ∧ Rd W W.heap.size A l := by
  obtain ⟨A, n, c, rfl⟩ := WideShapes.okWide_slice ht hv
  obtain ⟨fuel, hf⟩ := h
  rcases ChangeShapes.open_ints ht he hc hf with ⟨hcs, hx⟩ | ⟨a, len, cap, zs, hcs, _, hl, hm, hz, hx, hcell, hwz⟩
  · simp [Value.cells] at hcs
    obtain ⟨rfl, rfl, rfl⟩ := hcs
    exact ⟨_, _, _, [], rfl, rfl, Nat.le_refl _, by omega, Rd.empty⟩
  · simp [Value.cells] at hcs
    obtain ⟨rfl, rfl, rfl⟩ := hcs
    simp only [if_true] at hz
    refine ⟨_, _, _, (zs.take n).map (fun z => UInt8.ofNat z.toNat), rfl, by simp; omega, hl, by unfold maxLen at hm; omega, fun hn => ?_⟩
    have hn' : 0 < n := by simp at hn; omega
    have h0 := hcell 0 (by omega)
    have hb := block_lt_of_cell h0
    rw [block_add] at hb
    refine ⟨a, rfl, hb, fun i u hu => ?_⟩
    rw [List.getElem?_map] at hu
    have hi : i < n := by
      rcases Nat.lt_or_ge i n with h | h
      · exact h
      · rw [List.getElem?_take, if_neg (by omega)] at hu; cases hu
    rw [List.getElem?_take, if_pos hi, List.getElem?_eq_getElem (by omega)] at hu
    injection hu with hu
    have hw := hwz zs[i] (List.getElem_mem _)
    have e1 : zs.getD i 0 = zs[i] := by rw [List.getD_eq_getElem?_getD, List.getElem?_eq_getElem (by omega)]; rfl
    rw [hcell i (by omega), e1, ← hu]
    simp [Lit.wf, IntKind.min, IntKind.max, IntKind.bits, IntKind.signed] at hw
    congr 2
    rw [UInt8.toNat_ofNat']
    omega

end Go.Proofs.Ytoflbfkmkalgcaa

/-! A copy of bytes: bytes.Clone. -/
namespace Go.Proofs.Ytoflbfkmkalgcaa
open Go.RowKit Me

end Go.Proofs.Ytoflbfkmkalgcaa

/-! Bytes of one's own that are answered with an error's number. -/
namespace Go.Proofs.Ytoflbfkmkalgcaa
open Go.RowKit Me

/-- Bytes of one's own and an error's number are answered. -/
def PutPost (w : World) (l : List UInt8) (x : Int) (e : Ending) (w' : World) : Prop :=
  ∃ v n, e = .returned (.tuple #[v, .int .i64 x]) ∧ w'.ownsRow w.heap.size 5 1 v n (cellsOf l) ∧ Below w.heap.size w w'
theorem PutPost.open {w w' : World} {l : List UInt8} {x : Int} {e : Ending} (h : PutPost w l x e w') :
    ∃ A n c, e = .returned (.tuple #[.slice A n c, .int .i64 x]) ∧ l.length = n ∧ n ≤ c ∧ w'.ownsRow w.heap.size 5 1 (.slice A n c) n (cellsOf l) ∧ Rd w' w'.heap.size A l ∧ Below w.heap.size w w' := by
  obtain ⟨v, n, he, ho, hb⟩ := h
  obtain ⟨A, n', c, e2, h1, h2, h3, h4, h5⟩ := News.open (w := w) (w' := w') (l := l) (e := .returned v) ⟨v, n, rfl, ho, hb⟩
  injection e2 with e2
  subst e2
  exact ⟨A, n', c, he, h1, h2, h3, h4, h5⟩
theorem or_bytes (k x y : Nat) (hx : x < 2 ^ k) (h1 : x < 4294967296) (h2 : 2 ^ k * y < 4294967296) : bits .or .u32 (x : Int) ((2 ^ k * y : Nat) : Int) = ((x + 2 ^ k * y : Nat) : Int) := by
  rw [u32_or_nat _ _ h1 h2, Nat.or_comm, ← Nat.two_pow_add_eq_or_of_lt hx y, Nat.add_comm]
end Go.Proofs.Ytoflbfkmkalgcaa

/-! Equality of bytes: bytes.Equal. -/
namespace Go.Proofs.Ytoflbfkmkalgcaa
open Go.RowKit Me

end Go.Proofs.Ytoflbfkmkalgcaa

/-! Bytes copied into a row of bytes of one's own. -/
namespace Go.Proofs.Ytoflbfkmkalgcaa
open Go.RowKit Me

theorem wpList_copy_bytes {P : Program} {w : World} {ops : Array Oper} {rest : List Oper} {o : Oper} {a : Act} {Q : Exit → Act → World → Prop} (hgd : o.guard = none) (d s : Operand) (t : TypeId)
    (ho : o.op = .call { callee := .builtin .copy, args := #[d, s], argTypes := #[t, t] }) (e : TypeId) (hu : P.underlying t = some (.slice e)) (hsz : (P.info? e).map (·.size) = some 1)
    (base g N off dLen dCap : Nat) (l : List UInt8) (hown : w.ownsRow base e 1 (.slice (some ⟨g, 0, none⟩) N N) N (cellsOf l)) (hd : a.eval d = .slice (some ⟨g, off, none⟩) dLen dCap)
    (B : Nat) (A : Option Addr) (m c : Nat) (x : List UInt8) (hs : a.eval s = .slice A m c) (hm : x.length = m) (hr : Rd w B A x) (hml : m ≤ dLen) (hoff : off + m ≤ N) (w0 : World) (hb : Below base w0 w)
    (h : ∀ w', w'.ownsRow base e 1 (.slice (some ⟨g, 0, none⟩) N N) N (cellsOf (l.take off ++ x ++ l.drop (off + m))) → Below base w0 w' → wpList P ops Q rest (a.put o.dst (goInt m)) w') : wpList P ops Q (o :: rest) a w := by
  have hl := hown.1
  rw [cellsOf_length, Nat.mul_one] at hl
  rcases hown.2 with ⟨e1, -⟩ | ⟨g', cap, cur, e1, hg, hh, h1, h2, h3, h4⟩
  · cases e1
  · injection e1 with e1 _ e2
    injection e1 with e1
    injection e1 with e1 _ _
    subst e1 e2
    rw [Nat.mul_one] at h3 h4
    have hcur : cur.toList = cellsOf l := by
      rw [← h4]
      exact (List.take_of_length_le (by simp; omega)).symm
    have hh' : w.heap[g]? = some (.cells (cellsOf l).toArray e (0, 0)) := by rw [hh, ← hcur]
    refine wpList_copy_splice hgd d s t t ho e hu hsz _ A dLen dCap m c hd hs g off (cellsOf l) e hh' (cellsOf x) (by rw [cellsOf_length, hm]; exact (Nat.min_eq_left hml).symm) (fun hp => ⟨rfl, ?_⟩) (by rw [cellsOf_length, cellsOf_length]; omega) (cellsOf_one x) base w0 hb hg ?_
    · rw [cellsOf_length] at hp
      obtain ⟨ad, e3, -, hc⟩ := hr hp
      refine ⟨ad, e3, fun j v hv => ?_⟩
      simp only [cellsOf, List.getElem?_map] at hv
      cases hj : x[j]? with
      | none => simp [hj] at hv
      | some u =>
        simp [hj] at hv
        subst hv
        exact hc j u hj
    · intro w' hw' hb'
      have e4 : splice (cellsOf l) off (cellsOf x) = cellsOf (l.take off ++ x ++ l.drop (off + m)) := by
        unfold splice
        rw [cellsOf_length, hm]
        simp [cellsOf]
      have hlen : (l.take off ++ x ++ l.drop (off + m)).length = N := by
        simp only [List.length_append, List.length_take, List.length_drop]
        omega
      rw [cellsOf_length, hm]
      refine h w' ⟨by rw [cellsOf_length, hlen, Nat.mul_one], .inr ⟨g, N, (cellsOf (l.take off ++ x ++ l.drop (off + m))).toArray, rfl, hg, ?_, Nat.le_refl _, h2, ?_, ?_⟩⟩ hb'
      · rw [← e4]; exact hw'
      · rw [List.size_toArray, cellsOf_length, hlen, Nat.mul_one]
      · rw [Nat.mul_one]
        exact List.take_of_length_le (by rw [cellsOf_length, hlen]; exact Nat.le_refl _)
end Go.Proofs.Ytoflbfkmkalgcaa

/-! An append to a row of one's own as one step of a region that draws its order. -/
namespace Go.Proofs.Ytoflbfkmkalgcaa
open Go.RowKit Me

theorem step_append_own {P : Program} {ops : Array Oper} {o : Oper} {a : Act} {w : World} {K : Act → World → Prop} {Q : Exit → Act → World → Prop} {E : Prop}
    (hg : o.guard = none) (s x : Operand) (t : TypeId) (hop : o.op = Op.call { callee := Callee.builtin Builtin.append, args := #[s, x], argTypes := #[t, t] })
    (base : Nat) (e : TypeId) (i : TypeInfo) (z : Value) (size bytes : Nat) (ht : P.underlying t = some (.slice e)) (hi : P.info? e = some i) (hz : i.zero = some z)
    (hsize : i.size = size) (hby : i.bytes = bytes) (hzs : z.cells.size = size) (hsz : 0 < size)
    (v : Value) (n : Nat) (xs : List Value) (hs : a.eval s = v) (hown : w.ownsRow base e size v n xs)
    (ad : Addr) (m c : Nat) (news : List Value) (hx : a.eval x = .slice (some ad) m c) (hl : news.length = m * size) (hnews : ∀ j u, news[j]? = some u → w.cell? (ad.add j) = some u) (h1 : ∀ u ∈ news, u.oneCell' = true)
    (h63 : n + m ≤ maxLen) (hbytes : (n + m) * bytes ≤ 140737488355328) (hbase : base ≤ w.heap.size)
    (hK : ∀ v' w', w'.ownsRow base e size v' (n + m) (xs ++ news) → w.grownBy w' v.ownBlock → (v'.ownBlock = v.ownBlock ∨ v'.ownBlock = some w.heap.size) → K (a.put o.dst v') w') :
    if Region.wanted o (yielded ops a.tmps) = true then Oper.wp P o a w K Q else E := by
  have hw : Region.wanted o (yielded ops a.tmps) = true := by simp [Region.wanted, hg]
  rw [if_pos hw]
  obtain ⟨v', w', hr, h2, h3, -, h5⟩ := run_append_own_at (P := P) w base t o.type e i z size bytes ht hi hz hsize hby hzs hsz v n xs hown ad m c news hl hnews h1 h63 hbytes hbase
  unfold Oper.wp execOp
  simp only [hop, resolve, invoke, builtin, Sem.run_bind, Sem.run_pure, Result.andThen_ok, List.map_toArray, List.map_cons, List.map_nil, hs, hx, hr]
  exact hK v' w' h2 h3 h5
end Go.Proofs.Ytoflbfkmkalgcaa
