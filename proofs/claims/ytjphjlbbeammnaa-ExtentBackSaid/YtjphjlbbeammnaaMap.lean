/- A map of blocks in memory; what its small methods answer. -/
import Derived.Test.YtjphjlbbeammnaaFoot
import Derived.Test.YtjphjlbbeammnaaExt
import Derived.WalkKit
import Derived.Lib.Hide
namespace Go.Proofs.Ytjphjlbbeammnaa
open Go.RowKit Me Ex

theorem bool_info : (Try.prog.info? 4).map (fun i => (i.zero, i.size, i.bytes)) = some (some (.bool false), 1, 1) := by kernel_rfl
theorem int_info : (Try.prog.info? 3).map (fun i => (i.zero, i.size, i.bytes)) = some (some (.int .i64 0), 1, 8) := by kernel_rfl
/-- The cells of blocks that are taken or not; of numbers. -/
def bcells (k : List Bool) : List Value := k.map Value.bool
def icells (l : List Int) : List Value := l.map (Value.int .i64)
theorem bcells_length (k : List Bool) : (bcells k).length = k.length := by simp [bcells]
theorem icells_length (l : List Int) : (icells l).length = l.length := by simp [icells]
theorem bcells_get {k : List Bool} {i : Nat} {b : Bool} (h : k[i]? = some b) : (bcells k)[i]? = some (.bool b) := by simp [bcells, h]
theorem icells_get {l : List Int} {i : Nat} {z : Int} (h : l[i]? = some z) : (icells l)[i]? = some (.int .i64 z) := by simp [icells, h]
theorem bcells_one (k : List Bool) : ∀ v ∈ bcells k, v.oneCell' = true := by
  intro v hv
  simp only [bcells, List.mem_map] at hv
  obtain ⟨u, -, rfl⟩ := hv
  rfl
theorem icells_one (l : List Int) : ∀ v ∈ icells l, v.oneCell' = true := by
  intro v hv
  simp only [icells, List.mem_map] at hv
  obtain ⟨u, -, rfl⟩ := hv
  rfl
theorem bcells_append (k m : List Bool) : bcells (k ++ m) = bcells k ++ bcells m := by simp [bcells]
theorem icells_append (k m : List Int) : icells (k ++ m) = icells k ++ icells m := by simp [icells]
theorem bcells_set (k : List Bool) (i : Nat) (b : Bool) : bcells (k.set i b) = (bcells k).set i (.bool b) := by simp [bcells, List.map_set]
theorem getD_of {k : List Bool} {i : Nat} (h : i < k.length) (b : Bool) : k[i]? = some (k.getD i b) := by rw [List.getD_eq_getElem?_getD, List.getElem?_eq_getElem h]; rfl
theorem getI_of {l : List Int} {i : Nat} (h : i < l.length) : l[i]? = some (l.getD i 0) := by rw [List.getD_eq_getElem?_getD, List.getElem?_eq_getElem h]; rfl

/-- A map in memory: its struct at D, its row; own: the blocks in which all this lies. -/
structure Laid (w : World) (B D : Nat) (Pv : Value) (k : List Bool) (own : Nat → Prop) : Prop where
  blk : Blk w D [Pv]
  row : w.ownsRow B 4 1 Pv k.length (bcells k)
  pd : Pv.ownBlock ≠ some D
  ld : B ≤ D
  own : ∀ j, own j ↔ (j = D ∨ Pv.ownBlock = some j)
  most : k.length ≤ 65536
def MapAt (w : World) (B D : Nat) (k : List Bool) (own : Nat → Prop) : Prop := ∃ Pv, Laid w B D Pv k own
section
variable {w w' : World} {B B' D : Nat} {Pv : Value} {k : List Bool} {own T : Nat → Prop}
theorem Laid.out (h : Laid w B D Pv k own) (ho : Out T w w') (hn : ∀ j, own j → ¬ T j) : Laid w' B D Pv k own :=
  { h with
    blk := h.blk.out ho (hn _ ((h.own _).2 (.inl rfl)))
    row := own_out h.row ho fun _ hk => hn _ ((h.own _).2 (.inr hk)) }
theorem Laid.lt (h : Laid w B D Pv k own) {j : Nat} (hj : own j) : B ≤ j ∧ j < w.heap.size := by
  rcases (h.own j).1 hj with rfl | hj
  · exact ⟨h.ld, h.blk.lt⟩
  · exact h.row.lt j hj
theorem Laid.past (h : Laid w B D Pv k own) (hb : Below w.heap.size w w') : Laid w' B D Pv k own := h.out (T := fun _ => False) (.of_below hb) fun _ _ h => h
theorem Laid.slice (h : Laid w B D Pv k own) : ∃ A c, Pv = .slice A k.length c ∧ k.length ≤ c := own_slice' h.row
theorem Laid.at (h : Laid w B D Pv k own) {j : Nat} (hj : j < k.length) : ∃ g c, Pv = .slice (some ⟨g, 0, none⟩) k.length c ∧ own g ∧ g ≠ D ∧
    ∀ i, i < k.length → w.cell? ⟨g, i, none⟩ = some (.bool (k.getD i false)) ∧ w.frozen? ⟨g, i, none⟩ = false := by
  obtain ⟨g, cap, hv, -, -⟩ := h.row.form (by omega)
  subst hv
  refine ⟨g, cap, rfl, (h.own _).2 (.inr rfl), fun e => h.pd (by rw [← e]; rfl), fun i hi => ⟨?_, h.row.frozenAt i⟩⟩
  rw [h.row.cellAt i (by rw [Nat.mul_one]; exact hi)]
  exact bcells_get (getD_of hi false)
theorem Laid.set (h : Laid w B D Pv k own) {g c : Nat} (hv : Pv = .slice (some ⟨g, 0, none⟩) k.length c) (hg : g ≠ D) (j : Nat) (b : Bool) :
    Laid (w.setCell ⟨g, j, none⟩ (.bool b)) B D Pv (k.set j b) own ∧ Out own w (w.setCell ⟨g, j, none⟩ (.bool b)) := by
  subst hv
  have ho : Out (fun i => i = g) w (w.setCell ⟨g, j, none⟩ (.bool b)) := (Out.refl (fun i => i = g) w).setCell (p := ⟨g, j, none⟩) (.inl rfl) _
  have hown : own g := (h.own _).2 (.inr rfl)
  refine ⟨⟨h.blk.out ho (fun e => hg e.symm), ?_, h.pd, h.ld, h.own, by rw [List.length_set]; exact h.most⟩, ho.more fun i _ e => by rw [e]; exact hown⟩
  rw [List.length_set, bcells_set]
  exact (h.row.stored j (.bool b)).1
theorem MapAt.out (h : MapAt w B D k own) (ho : Out T w w') (hn : ∀ j, own j → ¬ T j) : MapAt w' B D k own := by
  obtain ⟨Pv, h⟩ := h
  exact ⟨Pv, h.out ho hn⟩
theorem MapAt.past (h : MapAt w B D k own) (hb : Below w.heap.size w w') : MapAt w' B D k own := h.out (T := fun _ => False) (.of_below hb) fun _ _ h => h
theorem MapAt.lt (h : MapAt w B D k own) {j : Nat} (hj : own j) : B ≤ j ∧ j < w.heap.size := by
  obtain ⟨Pv, h⟩ := h
  exact h.lt hj
theorem MapAt.most (h : MapAt w B D k own) : k.length ≤ 65536 := by
  obtain ⟨Pv, h⟩ := h
  exact h.most
theorem MapAt.self (h : MapAt w B D k own) : own D := by
  obtain ⟨Pv, h⟩ := h
  exact (h.own _).2 (.inl rfl)
end
/-- What a method leaves: the map, in its blocks; all else as it was, but for new memory. -/
def MPost (w : World) (B D : Nat) (k : List Bool) (own : Nat → Prop) (w' : World) : Prop := MapAt w' B D k own ∧ Out own w w'

section
variable {w : World} {B D : Nat} {k : List Bool} {own : Nat → Prop}
set_option maxRecDepth 100000 in
theorem has_any (h : MapAt w B D k own) (i : Int) : Calls Try.prog 22 #[.pointer (some ⟨D, 0, none⟩), .int .i64 i] w fun e w' => e = .returned (.bool (hasB k.length i)) ∧ w = w' := by
  obtain ⟨Pv, h⟩ := h
  obtain ⟨A, c, rfl, -⟩ := h.slice
  have c0 := h.blk.cell (i := 0) rfl
  obtain ⟨n, hn⟩ : ∃ n, n = k.length := ⟨_, rfl⟩
  rw [← hn] at c0 ⊢
  clear h hn
  unfold hasB
  by_cases h0 : 0 ≤ i
  · have d0 : decide (0 ≤ i) = true := by simp; omega
    by_cases h1 : i < n
    · have d1 : decide (i < (n : Int)) = true := by simp; omega
      go_enter Try.func22, Try.ntmps22
      go_wp2
      go_ret
      exact ⟨by first | rfl | (rw [d0, d1]; rfl), rfl⟩
    · have d1 : decide (i < (n : Int)) = false := by simp; omega
      go_enter Try.func22, Try.ntmps22
      go_wp2
      go_ret
      exact ⟨by first | rfl | (rw [d0, d1]; rfl), rfl⟩
  · have d0 : decide (0 ≤ i) = false := by simp; omega
    go_enter Try.func22, Try.ntmps22
    go_wp2
    go_ret
    exact ⟨by first | rfl | (rw [d0]; rfl), rfl⟩
set_option maxRecDepth 100000 in
theorem has_nil (w : World) (i : Int) : Calls Try.prog 22 #[.pointer none, .int .i64 i] w fun e w' => e = .returned (.bool false) ∧ w = w' := by
  go_enter Try.func22, Try.ntmps22
  go_wp2
  go_ret
  exact ⟨rfl, rfl⟩
/-- Whether block i is taken. -/
def isD (k : List Bool) (i : Int) : Bool := hasB k.length i && k.getD i.toNat false
set_option maxRecDepth 100000 in
theorem is_any (h : MapAt w B D k own) (i : Int) : Calls Try.prog 14 #[.pointer (some ⟨D, 0, none⟩), .int .i64 i] w fun e w' => e = .returned (.bool (isD k i)) ∧ w = w' := by
  have HC := Lib.hid (has_any h i)
  unfold isD
  cases hi : hasB k.length i with
  | false =>
    rw [hi] at HC
    clear h hi
    go_enter Try.func14, Try.ntmps14
    go_wp2_with (go_at_call 22; refine HC.out.mono ?_; rintro e w' ⟨rfl, rfl⟩)
    go_ret
    exact ⟨rfl, rfl⟩
  | true =>
    rw [hi] at HC
    obtain ⟨j, rfl, hj⟩ := hasB_true hi
    obtain ⟨Pv, h⟩ := h
    obtain ⟨g, c, rfl, -, -, hat⟩ := h.at hj
    obtain ⟨e1, f1⟩ := hat j hj
    have c0 := h.blk.cell (i := 0) rfl
    rw [Int.toNat_natCast]
    obtain ⟨n, hn⟩ : ∃ n, n = k.length := ⟨_, rfl⟩
    obtain ⟨b, hb⟩ : ∃ b, b = k.getD j false := ⟨_, rfl⟩
    rw [← hn] at c0 hj
    rw [← hb] at e1 ⊢
    have hj' : (j : Int) < (n : Int) := by omega
    clear h hi hat hb hn
    go_enter Try.func14, Try.ntmps14
    go_wp2_with (go_at_call 22; refine HC.out.mono ?_; rintro e w' ⟨rfl, rfl⟩)
    go_ret
    exact ⟨rfl, rfl⟩
set_option maxRecDepth 100000 in
theorem is_nil (w : World) (i : Int) : Calls Try.prog 14 #[.pointer none, .int .i64 i] w fun e w' => e = .returned (.bool false) ∧ w = w' := by
  have HC := Lib.hid (has_nil w i)
  go_enter Try.func14, Try.ntmps14
  go_wp2_with (go_at_call 22; refine HC.out.mono ?_; rintro e w' ⟨rfl, rfl⟩)
  go_ret
  exact ⟨rfl, rfl⟩
theorem free_nil (w : World) : Calls Try.prog 12 #[.pointer none] w fun e w' => e = .returned (.int .i64 0) ∧ w = w' := by
  go_enter Try.func12, Try.ntmps12
  go_wp2
  go_ret
  exact ⟨rfl, rfl⟩
set_option maxRecDepth 100000 in
set_option maxHeartbeats 400000 in
theorem free_any (h : MapAt w B D k own) : Calls Try.prog 12 #[.pointer (some ⟨D, 0, none⟩)] w fun e w' => e = .returned (.int .i64 (free k : Int)) ∧ w = w' := by
  obtain ⟨Pv, h⟩ := h
  have hm := h.most
  obtain ⟨A, c, rfl, hc⟩ := h.slice
  have c0 := h.blk.cell (i := 0) rfl
  obtain ⟨n, hn⟩ : ∃ n, n = k.length := ⟨_, rfl⟩
  rw [← hn] at c0 hm hc
  have HH := Lib.hid h
  have HN := Lib.hid hn
  clear h hn
  go_enter Try.func12, Try.ntmps12
  go_wp2
  go_loopw [13, 3] (fun x y wr => ∃ j f : Nat, x = .int .i64 (j : Int) ∧ y = .int .i64 (f : Int) ∧ j ≤ n ∧ f ≤ j ∧ Hid (f = free (k.take j)) ∧ w = wr) (fun x _ _ => n - (intOf x).toNat)
  case atStart => exact ⟨0, 0, rfl, rfl, Nat.zero_le _, Nat.le_refl _, Lib.hid rfl, rfl⟩
  case round =>
    obtain ⟨j, f, rfl, rfl, hjn, hfj, HF, rfl⟩ := hrel
    by_cases hlt : j < n
    · have hj : j < k.length := by rw [← HN.out]; exact hlt
      obtain ⟨g, c', e, -, -, hat⟩ := HH.out.at hj
      obtain ⟨e1, -⟩ := hat j hj
      injection e with e2 e3 e4
      subst e2
      have ht := free_take (getD_of hj false)
      rw [← HF.out] at ht
      cases hb : k.getD j false with
      | true =>
        rw [hb] at e1 ht
        have HT := Lib.hid ht
        clear ht hat e3 e4 hj hb
        go_wp2
        go_roundw
        case rel => exact ⟨j + 1, f, by go_num, rfl, by omega, by omega, Lib.hid (by rw [HT.out]; rfl), trivial⟩
        case measure => simp [intOf]; omega
      | false =>
        rw [hb] at e1 ht
        have HT := Lib.hid ht
        clear ht hat e3 e4 hj hb
        go_wp2
        go_roundw
        case rel => exact ⟨j + 1, f + 1, by go_num, by go_num, by omega, by omega, Lib.hid (by rw [HT.out]; rfl), trivial⟩
        case measure => simp [intOf]; omega
    · have hjn' : j = n := by omega
      subst hjn'
      have hf := HF.out
      rw [HN.out, List.take_length] at hf
      have HF2 := Lib.hid hf
      clear hf
      go_wp2
      go_ret
      exact ⟨by rw [HF2.out]; rfl, rfl⟩
end
end Go.Proofs.Ytjphjlbbeammnaa
