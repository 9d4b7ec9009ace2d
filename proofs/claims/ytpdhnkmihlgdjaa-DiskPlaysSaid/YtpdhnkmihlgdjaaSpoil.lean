/- A byte of a disk's block is spoilt. -/
import Derived.Test.YtpdhnkmihlgdjaaDskY
namespace Go.Proofs.Ytpdhnkmihlgdjaa
open Go.RowKit Me Rw Ds

/-- A block with a byte turned. -/
def turnB (b : List UInt8) (j : Nat) (y : UInt8) : List UInt8 := b.set j (b.getD j 0 ^^^ y)
/-- The disk with a byte spoilt, the error. -/
def spoilD (S : Dsk) (i at_ : Int) (y : UInt8) : Dsk × Int :=
  if hasB S.stored.length i && hasB 128 at_ then ({ S with stored := S.stored.set i.toNat (turnB (S.stored.getD i.toNat []) at_.toNat y) }, 0) else (S, 9)
theorem hasB_true {n : Nat} {i : Int} (h : hasB n i = true) : ∃ k : Nat, i = (k : Int) ∧ k < n := by
  unfold hasB at h
  simp at h
  exact ⟨i.toNat, by omega, by omega⟩
theorem hasB_nat (n k : Nat) : hasB n (k : Int) = decide (k < n) := by
  unfold hasB
  by_cases h : k < n
  · rw [decide_eq_true (by omega), decide_eq_true (by omega), decide_eq_true h]; rfl
  · rw [decide_eq_true (by omega), decide_eq_false (by omega), decide_eq_false h]; rfl
section
variable {w w' : World} {B D g : Nat} {Pv : Value} {S : Dsk} {own : Nat → Prop}
theorem Laid.spoil (h : Laid w B D g Pv S own) {k j : Nat} (hk : k < S.stored.length) (hj : j < 128) (y : UInt8) :
    (∃ u : UInt8, w.cell? ⟨g, k * 128 + j, none⟩ = some (.int .u8 (u.toNat : Int)) ∧ w.frozen? ⟨g, k * 128 + j, none⟩ = false ∧
      Laid (w.setCell ⟨g, k * 128 + j, none⟩ (.int .u8 ((u ^^^ y).toNat : Int))) B D g Pv { S with stored := S.stored.set k (turnB (S.stored.getD k []) j y) } own ∧
      Out own w (w.setCell ⟨g, k * 128 + j, none⟩ (.int .u8 ((u ^^^ y).toNat : Int)))) := by
  have hall : ∀ y ∈ S.stored, (cellsOf y).length = 128 := fun y hy => by rw [cellsOf_length]; exact h.good.1 y hy
  have hx : S.stored[k]? = some (S.stored.getD k []) := by rw [List.getD_eq_getElem?_getD, List.getElem?_eq_getElem hk]; rfl
  generalize hb : S.stored.getD k [] = b at *
  have hb128 : b.length = 128 := h.good.1 b (List.mem_of_getElem? hx)
  have hbj : b[j]? = some (b.getD j 0) := by rw [List.getD_eq_getElem?_getD, List.getElem?_eq_getElem (by omega)]; rfl
  generalize hu : b.getD j 0 = u at *
  have hown : own g := (h.own _).2 (.inr (.inl rfl))
  have hcell : (Rw.rows cellsOf S.stored)[k * 128 + j]? = some (.int .u8 (u.toNat : Int)) := by rw [rows_get hall hx hj]; exact cellsOf_get hbj
  have hout : Out (fun j => j = g) w (w.setCell ⟨g, k * 128 + j, none⟩ (.int .u8 ((u ^^^ y).toNat : Int))) := (Out.refl (fun j => j = g) _).setCell (p := ⟨g, k * 128 + j, none⟩) (.inl rfl) _
  refine ⟨u, h.rows.cell hcell, h.rows.frozen _, ⟨?_, ?_, own_out h.pend hout fun i hi e => h.pg (by rw [hi, e]), h.dg, h.pd, h.pg, h.ld, h.lg, h.own, ⟨?_, ?_, ?_⟩⟩, hout.more fun i _ e => by rw [e]; exact hown⟩
  · have := h.blk.out hout (fun e => h.dg e)
    simpa using this
  · have h1 := h.rows.set (k * 128 + j) (.int .u8 ((u ^^^ y).toNat : Int))
    have e : (Rw.rows cellsOf S.stored).set (k * 128 + j) (.int .u8 ((u ^^^ y).toNat : Int)) = Rw.rows cellsOf (S.stored.set k (turnB b j y)) := by
      rw [rows_set hall (by rw [cellsOf_length]; simp [turnB, hb128]) hk]
      have hp := rows_part hall hx
      have hl : (cellsOf b).length = 128 := by rw [cellsOf_length, hb128]
      rw [set_splice (p := cellsOf b) _ (by rw [hl]; exact hp) (by rw [hl, rows_length hall]; omega) (by omega)]
      congr 1
      unfold turnB
      rw [hu]
      simp [cellsOf, List.map_set]
    rw [e] at h1
    exact h1
  · intro z hz
    rcases List.mem_or_eq_of_mem_set hz with hz | rfl
    · exact h.good.1 z hz
    · simp [turnB, hb128]
  · intro z hz
    rw [List.length_set]
    exact h.good.2.1 z hz
  · rw [List.length_set]
    exact h.good.2.2
/-- What is known of each slot of the region that spoils. -/
def spoG (D g k j n : Nat) (u y : UInt8) : Gw.Fact := fun t v _ =>
  match t with
  | 0 | 21 | 22 | 23 => v = .pointer (some ⟨D, 0, none⟩)
  | 1 | 25 => v = .int .i64 (k : Int)
  | 2 | 26 => v = .int .i64 (j : Int)
  | 3 | 30 => v = .int .u8 (y.toNat : Int)
  | 24 => v = .slice (some ⟨g, 0, none⟩) n n
  | 27 | 32 => v = .pointer (some ⟨g, k * 128, none⟩)
  | 28 | 33 => v = .pointer (some ⟨g, k * 128 + j, none⟩)
  | 29 => v = .int .u8 (u.toNat : Int)
  | 31 => v = .int .u8 ((u ^^^ y).toNat : Int)
  | _ => True
set_option maxRecDepth 100000 in
set_option maxHeartbeats 1000000 in
theorem spoil_any (h : DiskAt w B D S own) (i at_ : Int) (y : UInt8) :
    Calls Try.prog 22 #[.pointer (some ⟨D, 0, none⟩), .int .i64 i, .int .i64 at_, .int .u8 (y.toNat : Int)] w fun e w' => e = .returned (.int .i64 (spoilD S i at_ y).2) ∧ DPost w B D (spoilD S i at_ y).1 own w' := by
  have hy := y.toNat_lt
  cases hi : hasB S.stored.length i with
  | false =>
    have H1 := has_any h i
    rw [hi] at H1
    have HH := Lib.hid H1
    have HD := Lib.hid h
    have HE := Lib.hid (show spoilD S i at_ y = (S, 9) by unfold spoilD; rw [hi]; rfl)
    clear h hi H1
    go_enter Try.func22, Try.ntmps22
    go_wp2_with (go_at_call 27; refine HH.out.mono ?_; rintro e w' ⟨rfl, rfl⟩)
    go_ret
    rw [HE.out]
    exact ⟨rfl, .same HD.out (Out.refl _ _)⟩
  | true =>
    have H1 := has_any h i
    rw [hi] at H1
    have HH := Lib.hid H1
    obtain ⟨k, rfl, hk⟩ := hasB_true hi
    cases ha : hasB 128 at_ with
    | false =>
      have HD := Lib.hid h
      have HE := Lib.hid (show spoilD S k at_ y = (S, 9) by unfold spoilD; rw [hi, ha]; rfl)
      unfold hasB at ha
      by_cases h0 : 0 ≤ at_
      · have d1 : decide (at_ < 0) = false := by simp; omega
        have d2 : decide (128 ≤ at_) = true := by simp at ha ⊢; omega
        clear h hi H1 ha
        go_enter Try.func22, Try.ntmps22
        go_wp2_with (go_at_call 27; refine HH.out.mono ?_; rintro e w' ⟨rfl, rfl⟩)
        go_ret
        rw [HE.out]
        exact ⟨rfl, .same HD.out (Out.refl _ _)⟩
      · have d1 : decide (at_ < 0) = true := by simp; omega
        clear h hi H1 ha
        go_enter Try.func22, Try.ntmps22
        go_wp2_with (go_at_call 27; refine HH.out.mono ?_; rintro e w' ⟨rfl, rfl⟩)
        go_ret
        rw [HE.out]
        exact ⟨rfl, .same HD.out (Out.refl _ _)⟩
    | true =>
      have HE := Lib.hid (show spoilD S k at_ y = ({ S with stored := S.stored.set k (turnB (S.stored.getD k []) at_.toNat y) }, 0) by unfold spoilD; rw [hi, ha]; rfl)
      obtain ⟨j, rfl, hj⟩ := hasB_true ha
      rw [Int.toNat_natCast] at HE
      obtain ⟨R, hR⟩ : ∃ R, R = spoilD S k j y := ⟨_, rfl⟩
      rw [← hR] at HE ⊢
      obtain ⟨g, Pv, hl⟩ := h
      have hld := hl.out (out_drew (fun _ => False) w) (fun _ _ h => h)
      obtain ⟨b0, -, -, -⟩ := hld.blk.four
      obtain ⟨u, e1, f1, hl2, ho2⟩ := hld.spoil hk hj y
      have HL2 := Lib.hid hl2
      have HO2 := Lib.hid ho2
      have hu := u.toNat_lt
      have hx8 := (u ^^^ y).toNat_lt
      have ex := xor_u8 u y
      obtain ⟨n, hn⟩ : ∃ n, n = S.stored.length := ⟨_, rfl⟩
      rw [← hn] at hk b0
      have hk' : (k : Int) < (n : Int) := by omega
      have hj' : (j : Int) < 128 := by omega
      have HJ := Lib.hid hj'
      have d1 : decide ((j : Int) < 0) = false := by simp
      have d2 : decide (128 ≤ (j : Int)) = false := by simp; omega
      clear hi H1 ha hR hl hl2 ho2 hn hld
      go_enter Try.func22, Try.ntmps22
      go_wp2_with (first | (go_at_call 27; refine HH.out.mono ?_; rintro e w' ⟨rfl, rfl⟩) | fail)
      refine Gw.wp_region_phase (fun _ _ => True) (fun _ => trivial) (fun _ _ _ _ _ => trivial) (fun p W => if p = 0 then W = w.drew else W = w.drew.setCell ⟨g, k * 128 + j, none⟩ (.int .u8 ((u ^^^ y).toNat : Int))) (spoG D g k j n u y) [13] [21, 22, 23, 24, 25, 26, 27, 28, 29, 30, 31, 32, 33] [([0], none, [0], false), ([21], none, [0], false), ([22], none, [0], false), ([23], none, [0], false), ([1], none, [0], false), ([2], none, [0], false), ([24, 25], none, [0], false), ([27, 26], none, [0], false), ([28], none, [0], false), ([3], none, [0], false), ([29, 30], none, [0], false), ([24, 25], none, [0], false), ([32, 26], none, [0], false), ([33, 31], none, [0], true)] 34 1 (by kernel_rfl) (by kernel_rfl) rfl trivial (by simp) ?h0 ?hreq ?hend
      case h0 =>
        intro t W hnd _
        unfold spoG
        split <;> first | rfl | trivial | exact absurd (by simp) hnd
      case hreq =>
        refine ⟨⟨?_, trivial⟩, ⟨?_, trivial⟩, ⟨?_, trivial⟩, ⟨?_, trivial⟩, ⟨?_, trivial⟩, ⟨?_, trivial⟩, ⟨?_, trivial⟩, ⟨?_, trivial⟩, ⟨?_, trivial⟩, ⟨?_, trivial⟩, ⟨?_, trivial⟩, ⟨?_, trivial⟩, ⟨?_, trivial⟩, ⟨?_, trivial⟩, trivial⟩
        all_goals
          intro ac W _ hI hk'
          rw [if_pos rfl] at hI
          subst hI
          simp only [Gw.Knows, spoG] at hk'
          try (simp [go_sem, Gw.POpReq, Gw.OkP, Gw.PPost, Gw.HoldsR, spoG, hk', b0, e1, f1, ex, hk, HJ.out]; done)
      case hend =>
        intro x' w' _ hI hx
        rw [if_neg (by simp)] at hI
        subst hI
        clear hx
        simp only [Gw.putAll, Act.put, List.setIfInBounds_toArray, List.set_cons_zero, List.set_cons_succ]
        go_wp2
        go_ret
        rw [HE.out]
        exact ⟨rfl, .same ⟨g, Pv, HL2.out⟩ ((out_drew _ _).trans HO2.out)⟩
end
end Go.Proofs.Ytpdhnkmihlgdjaa
