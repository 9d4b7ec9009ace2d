/- What whoever goes through keys' rows has met: plain mathematics; the law's state. -/
import Derived.Test.YtniffijjdehnaaaMRows
import Derived.Test.YtniffijjdehnaaaMmN
namespace Go.Proofs.Ytniffijjdehnaaa
open Go.RowKit Me Tx Ed Mg Va

/-- The rows that were met; the last error. -/
def goodL (l : List TellR) : List RwD := (l.filter fun x => x.2 == 0).map Prod.fst
def badL (l : List TellR) : Int := match l.getLast? with
  | some x => x.2
  | none => 0
theorem goodL_snoc (l : List TellR) (x : TellR) : goodL (l ++ [x]) = if x.2 = 0 then goodL l ++ [x.1] else goodL l := by
  unfold goodL
  rw [List.filter_append, List.map_append]
  by_cases h : x.2 = 0
  · rw [if_pos h]; simp [h]
  · rw [if_neg h]; simp [h]
theorem badL_snoc (l : List TellR) (x : TellR) : badL (l ++ [x]) = x.2 := by
  unfold badL
  rw [List.getLast?_append]
  rfl
theorem tell_pre {keys : List (List UInt8)} {pre post : List TellR} {x : TellR} (h : tellX keys = pre ++ x :: post) : ∀ y ∈ pre, y.2 = 0 := by
  intro y hy
  rcases Decidable.em (y.2 = 0) with h0 | h0
  · exact h0
  · obtain ⟨p, q, rfl⟩ := List.append_of_mem hy
    have h1 := tell_good (pre := p) (post := q ++ x :: post) (by rw [h]; simp) h0
    have h2 := h1.2
    simp at h2
theorem tell_bad {keys : List (List UInt8)} {x : TellR} (h : x ∈ tellX keys) (hx : x.2 ≠ 0) : x.1 = (0, []) := by
  unfold tellX tellQ at h
  split at h
  · obtain ⟨r, -, hr⟩ := List.mem_map.1 h
    rw [← hr] at hx
    exact absurd rfl hx
  · rcases List.mem_append.1 h with h | h
    · unfold told at h
      obtain ⟨r, -, hr⟩ := List.mem_map.1 h
      rw [← hr] at hx
      exact absurd rfl hx
    · rw [List.mem_singleton.1 h]
theorem badL_zero {l : List TellR} (h : ∀ y ∈ l, y.2 = 0) : badL l = 0 := by
  unfold badL
  cases hl : l.getLast? with
  | none => rfl
  | some x => exact h x (List.mem_of_getLast? hl)
theorem goodL_zero {l : List TellR} (h : ∀ y ∈ l, y.2 = 0) : goodL l = l.map Prod.fst := by
  unfold goodL
  rw [List.filter_eq_self.2 fun y hy => by simp [h y hy]]
theorem goodL_all (keys : List (List UInt8)) : goodL (tellX keys) = toldR keys ∧ badL (tellX keys) = (goK [] none keys).2.2.2 := by
  unfold tellX tellQ toldR
  by_cases h : (goK [] none keys).2.2.2 = 0
  · rw [if_pos h, if_pos h, h]
    have h0 : ∀ y ∈ (rowM (goK [] none keys).2.1).map (fun r => ((r, 0) : TellR)), y.2 = 0 := fun y hy => by
      obtain ⟨r, -, rfl⟩ := List.mem_map.1 hy
      rfl
    refine ⟨?_, badL_zero h0⟩
    rw [goodL_zero h0, List.map_map]
    exact List.map_id' _
  · rw [if_neg h, if_neg h, badL_snoc, goodL_snoc, if_neg h]
    refine ⟨?_, rfl⟩
    have h0 : ∀ y ∈ told (goK [] none keys).2.1, y.2 = 0 := fun y hy => by
      obtain ⟨r, -, rfl⟩ := List.mem_map.1 hy
      rfl
    rw [goodL_zero h0]
    unfold told
    rw [List.map_map]
    exact List.map_id' _
/-- What was met is the front of what is told. -/
theorem goodL_take {keys : List (List UInt8)} {pre post : List TellR} (h : tellX keys = pre ++ post) (h0 : ∀ y ∈ pre, y.2 = 0) : goodL pre = (toldR keys).take (goodL pre).length ∧ (goodL pre).length ≤ (toldR keys).length := by
  have h1 := (goodL_all keys).1
  rw [h] at h1
  have h2 : goodL (pre ++ post) = goodL pre ++ goodL post := by unfold goodL; rw [List.filter_append, List.map_append]
  rw [h2] at h1
  rw [← h1]
  exact ⟨by rw [List.take_append_of_le_length (Nat.le_refl _), List.take_length], by rw [List.length_append]; omega⟩
/-- What the law knows between two rows. -/
structure MeI (w : World) (H N kk : Nat) (O : Nat → Prop) (pre : List TellR) (W : World) : Prop where
  ex : ∃ A n c vs, ColX (fun k => O k ∨ k = N + 4) (N + 2) (N + 5) (N + 3) (goodL pre) W A n c vs
  few : (goodL pre).length ≤ kk
  bad : Blk W (N + 4) [.int .i64 (badL pre)]
  res : Blk W (H + 1) [.bool false]
  arg : Blk W H [.int .u8 (kk : Int)]
  low : ∀ k, O k → N + 5 ≤ k
  size : N + 5 ≤ W.heap.size
  out : Below w.heap.size w W
theorem MeI.stays {w : World} {H N kk : Nat} (hH : w.heap.size = H) (hN : H + 2 ≤ N) : Ru.Stays (MeI w H N kk) := by
  intro O O' pre W W' h ho hk
  obtain ⟨A, n, c, vs, hx⟩ := h.ex
  have hs5 := h.size
  exact ⟨⟨A, n, c, vs, hx.stay (ho.more fun k _ e => .inl e) (fun k e => e.elim (fun e => (hk k e).imp .inl id) (fun e => .inl (.inr e))) (fun e => e.elim (fun e => by have := h.low _ e; omega) (fun e => by omega))⟩, h.few, h.bad.out ho (fun e => by have := h.low _ e; omega), h.res.out ho (fun e => by have := h.low _ e; omega), h.arg.out ho (fun e => by have := h.low _ e; omega), fun k e => (hk k e).elim (h.low k) (fun e => by omega), Nat.le_trans hs5 ho.size, h.out.trans (ho.below (fun k _ e => by have := h.low k e; omega) h.out.size)⟩
/-- How the law's loop is left ahead of the end. -/
structure MeX (w : World) (H N kk : Nat) (O : Nat → Prop) (pre : List TellR) (W : World) : Prop where
  ex : ∃ A n c vs, ColX (fun k => O k ∨ k = N + 4) (N + 2) (N + 5) (N + 3) (goodL pre) W A n c vs
  few : (goodL pre).length = kk + 1
  zero : ∀ y ∈ pre, y.2 = 0
  bad : Blk W (N + 4) [.int .i64 0]
  res : Blk W (H + 1) [.bool false]
  arg : Blk W H [.int .u8 (kk : Int)]
  low : ∀ k, O k → N + 5 ≤ k
  size : N + 5 ≤ W.heap.size
  out : Below w.heap.size w W
theorem MeX.stays {w : World} {H N kk : Nat} (hH : w.heap.size = H) (hN : H + 2 ≤ N) : Ru.Stays (MeX w H N kk) := by
  intro O O' pre W W' h ho hk
  obtain ⟨A, n, c, vs, hx⟩ := h.ex
  have hs5 := h.size
  exact ⟨⟨A, n, c, vs, hx.stay (ho.more fun k _ e => .inl e) (fun k e => e.elim (fun e => (hk k e).imp .inl id) (fun e => .inl (.inr e))) (fun e => e.elim (fun e => by have := h.low _ e; omega) (fun e => by omega))⟩, h.few, h.zero, h.bad.out ho (fun e => by have := h.low _ e; omega), h.res.out ho (fun e => by have := h.low _ e; omega), h.arg.out ho (fun e => by have := h.low _ e; omega), fun k e => (hk k e).elim (h.low k) (fun e => by omega), Nat.le_trans hs5 ho.size, h.out.trans (ho.below (fun k _ e => by have := h.low k e; omega) h.out.size)⟩
/-- The rows that were met, in memory. -/
theorem ColX.rowsAt {O : Nat → Prop} {B0 B L : Nat} {pre : List RwD} {W : World} {A : Option Addr} {n c : Nat} {vs : List RwV} (h : ColX O B0 B L pre W A n c vs) {lo : Nat} (h0 : lo ≤ B0) (h1 : lo ≤ B) : RowsAt W lo W.heap.size A pre :=
  rows_own (own_more h.own h0) (Nat.le_refl _) h.len fun i p r hp hr => by
    obtain ⟨h2, -⟩ := h.rows i p r hp hr
    exact { h2 with low := fun a e => Nat.le_trans h1 (h2.low a e) }
end Go.Proofs.Ytniffijjdehnaaa
