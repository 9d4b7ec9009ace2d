/- Pending writes from the last one on: the library's backward iterator over a slice of structs that hold an array. -/
import Derived.Test.YtpdhnkmihlgdjaaDNew
import Derived.Test.YtpdhnkmihlgdjaaIn
import Derived.WalkKit
namespace Go.Proofs.Ytpdhnkmihlgdjaa
open Go.RowKit Me Rw Ds

/-- A write as it is handed on: its place, itself. -/
abbrev WI := { x : Nat × WD // x.2.b.length = 128 }
def encWI (x : WI) : Array Value := #[.int .i64 (x.1.1 : Int), .agg (wrCells x.1.2).toArray]
/-- The last ones of a row, so many as they are. -/
def LastOf (l : List WD) (pre : List WI) : Prop := pre.length ≤ l.length ∧ ∀ j (h : j < pre.length), l[l.length - 1 - j]? = some (pre[j]'h).1.2
theorem LastOf.nil (l : List WD) : LastOf l [] := ⟨Nat.zero_le _, fun j h => by simp at h⟩
theorem LastOf.snoc {l : List WD} {pre : List WI} (h : LastOf l pre) (x : WI) (hlt : pre.length < l.length) (hx : l[l.length - 1 - pre.length]? = some x.1.2) : LastOf l (pre ++ [x]) :=
  ⟨by simp; omega, fun j hj => by
    by_cases hl : j < pre.length
    · rw [List.getElem_append_left hl]; exact h.2 j hl
    · have e : j = pre.length := by simp at hj; omega
      subst e
      simpa using hx⟩
attribute [local go_sem] Oper.semAt_some
set_option maxRecDepth 100000 in
set_option maxHeartbeats 1000000 in
theorem back1_in (n : Nat) (hn : 1 ≤ n) (l Bs n₀ : Nat) (Pv : Value) (L : List WD) (hL : ∀ x ∈ L, x.b.length = 128) (hl62 : L.length < 4611686018427387904) (J Jx : List WI → World → Prop)
    (hY : ∀ pre x W, J pre W → pre.length < L.length → YieldAt Fence.wide (n - 1) Try.prog l (encWI x) W fun e W' =>
      (e = .returned (.bool true) ∧ J (pre ++ [x]) W' ∧ Below n₀ W W') ∨ (e = .returned (.bool false) ∧ Jx (pre ++ [x]) W'))
    (W : World) (hB : Bs < n₀) (hBs : W.cell? ⟨Bs, 0, none⟩ = some Pv) (hP : (Pv = .slice none 0 0 ∧ L = []) ∨ ∃ p c, Pv = .slice (some ⟨p, 0, none⟩) L.length c ∧ p < n₀ ∧ ∀ (k : Nat) (x : WD), L[k]? = some x → W.rangeAt p (k * 129) (wrCells x)) (h0 : J [] W) :
    CallsIn Fence.wide n Try.prog 39 #[.func (.yield l) #[] #[], .pointer (some ⟨Bs, 0, none⟩)] W fun e W' => (∃ v, e = .returned v) ∧
      ((∃ ys, (LastOf L ys ∧ ys.length = L.length) ∧ J ys W') ∨ (∃ pre, LastOf L pre ∧ Jx pre W')) := by
  obtain ⟨A, c, hPv⟩ : ∃ A c, Pv = .slice A L.length c := by
    rcases hP with ⟨e, e2⟩ | ⟨p, c, e, -⟩
    · subst e2; exact ⟨_, _, e⟩
    · exact ⟨_, _, e⟩
  subst hPv
  obtain ⟨m, hm⟩ : ∃ m, m = L.length := ⟨_, rfl⟩
  have HM := Lib.hid hm
  have HP := Lib.hid hP
  have HL := Lib.hid hL
  rw [← hm] at hBs hl62
  have ew : wrap64 ((m : Int) - 1) = (m : Int) - 1 := by unfold wrap64; omega
  have hJ0 := Lib.hid h0
  have HB0 := Lib.hid (Below.refl n₀ W)
  clear hP hL h0 hm
  refine callsIn_of_wp Try.func39 rfl trivial ?_ rfl
  simp only [Try.ntmps39, List.size_toArray, List.length_cons, List.length_nil, Nat.reduceAdd, Nat.reduceSub, Array.replicate_succ, Array.replicate_zero, List.push_toArray, List.append_toArray, List.nil_append, List.cons_append]
  gi_wp2
  gi_loopw [3] (fun i wr => ∃ (pre : List WI) (z : Int), i = .int .i64 z ∧ Hid (z = (m : Int) - 1 - (pre.length : Int)) ∧ Hid (LastOf L pre) ∧ Hid (J pre wr) ∧ Hid (Below n₀ W wr))
    (fun i _ => (intOf i + 1).toNat)
  case atStart => exact ⟨[], _, rfl, Lib.hid (by simp), Lib.hid (LastOf.nil L), hJ0, HB0⟩
  case round =>
    obtain ⟨pre, z, rfl, HZ, HLo, HJ, HB⟩ := hrel
    have hbx := (HB.out.cell (p := ⟨Bs, 0, none⟩) hB).trans hBs
    by_cases hlt : 0 ≤ z
    · obtain ⟨k, rfl⟩ : ∃ k : Nat, z = (k : Int) := ⟨z.toNat, by omega⟩
      have ek : wrap64 ((k : Int) - 1) = (k : Int) - 1 := by have := HZ.out; unfold wrap64; omega
      have hkm : k + 1 + pre.length = m := by have := HZ.out; omega
      have hkL : k < L.length := by rw [← HM.out]; omega
      obtain ⟨x, hx⟩ : ∃ x, L[k]? = some x := ⟨_, List.getElem?_eq_getElem hkL⟩
      have hx128 := HL.out x (List.mem_of_getElem? hx)
      rcases HP.out with ⟨-, e2⟩ | ⟨p, c', hpv, hpn, hpr⟩
      · exfalso; rw [e2] at hkL; simp at hkL
      · injection hpv with hA _ hc
        subst hA hc
        have hR := Lib.hid (show wr.rangeAt p (k * 129) (wrCells x) from fun j v hv => (HB.out.cell (p := ⟨p, k * 129 + j, none⟩) hpn).trans (hpr k x hx j v hv))
        obtain ⟨fn, tmps, assign, body, hy, hRo⟩ := hY pre ⟨(k, x), hx128⟩ wr HJ.out (by rw [← HM.out]; omega)
        dsimp only [encWI] at hy
        have HRo := Lib.hid hRo
        have HSz := Lib.hid (show (Try.prog.info? 69).map (·.size) = some (wrCells x).length by rw [wrCells_length hx128]; exact wr_size)
        have HSn := Lib.hid (HLo.out.snoc ⟨(k, x), hx128⟩ (by rw [← HM.out]; omega) (by rw [← HM.out, show m - 1 - pre.length = k by omega]; exact hx))
        have hq : (k : Int) < (m : Int) := by omega
        clear hRo hx hpr hkL
        gi_wp2_with (refine wpListIn_load_mid rfl 69 _ rfl p (k * 129) rfl (wrCells x) _ hR.out Try.underlying69 rfl HSz.out ?_)
        refine HRo.out.mono ?_
        rintro e W3 (⟨rfl, hJ3, hk3⟩ | ⟨rfl, hJx3⟩)
        · have HJ3 := Lib.hid hJ3
          have HK3 := Lib.hid (HB.out.trans hk3)
          clear hJ3 hk3
          gi_wp2
          go_roundw
          case rel => exact ⟨_, _, rfl, Lib.hid (by simp; omega), HSn, HJ3, HK3⟩
          case measure => simp [intOf]
        · gi_wp2
          refine bodyPost_ret (results_none rfl _ _ _) rfl ?_
          exact ⟨⟨_, rfl⟩, .inr ⟨_, HSn.out, hJx3⟩⟩
    · gi_wp2
      go_end0
      have hle := HLo.out.1
      have hz := HZ.out
      rw [HM.out] at hz
      exact ⟨⟨_, rfl⟩, .inl ⟨pre, ⟨HLo.out, by omega⟩, HJ.out⟩⟩
set_option maxRecDepth 100000 in
theorem backward_any (A : Option Addr) (n c : Nat) (w : World) :
    Calls Try.prog 36 #[.slice A n c] w fun e w' => e = .returned (.func (.func 39) #[] #[.pointer (some ⟨w.heap.size, 0, none⟩)]) ∧ w' = w.alloc (.cells #[.slice A n c] 54) := by
  go_enter Try.func36, Try.ntmps36
  go_wp2
  go_ret
  exact ⟨rfl, rfl⟩
theorem back_stops (n : Nat) (hn : 1 ≤ n) (Bs n₀ : Nat) (Pv : Value) (L : List WD) (hL : ∀ x ∈ L, x.b.length = 128) (hl62 : L.length < 4611686018427387904) (w : World) (hB : Bs < n₀) (hn₀ : n₀ ≤ w.heap.size) (hc : w.cell? ⟨Bs, 0, none⟩ = some Pv)
    (hP : (Pv = .slice none 0 0 ∧ L = []) ∨ ∃ p c, Pv = .slice (some ⟨p, 0, none⟩) L.length c ∧ p < n₀ ∧ ∀ (k : Nat) (x : WD), L[k]? = some x → w.rangeAt p (k * 129) (wrCells x)) :
    SeqStopsK Fence.wide n Try.prog 39 #[.pointer (some ⟨Bs, 0, none⟩)] encWI (Below n₀) (fun ys => LastOf L ys ∧ ys.length = L.length) (LastOf L) L.length w := fun l J Jx W hW _ _ hY h0 => by
  refine back1_in n hn l Bs n₀ Pv L hL hl62 J Jx hY W hB ((hW.cell (p := ⟨Bs, 0, none⟩) (Nat.lt_of_lt_of_le hB hn₀)).trans hc) ?_ h0
  rcases hP with h | ⟨p, c, e, hp, hr⟩
  · exact .inl h
  · exact .inr ⟨p, c, e, hp, fun k x hx j v hv => (hW.cell (p := ⟨p, k * 129 + j, none⟩) (Nat.lt_of_lt_of_le hp hn₀)).trans (hr k x hx j v hv)⟩
end Go.Proofs.Ytpdhnkmihlgdjaa
