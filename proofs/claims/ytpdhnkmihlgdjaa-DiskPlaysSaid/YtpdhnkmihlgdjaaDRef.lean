/- The document's disk in memory; what it reads. -/
import Derived.Test.YtpdhnkmihlgdjaaAwakeD
namespace Go.Proofs.Ytpdhnkmihlgdjaa
open Go.RowKit Me Rw Ds

/-- Bytes as a string. -/
abbrev sv (b : List UInt8) : Value := .string ⟨b.toArray⟩
/-- The cells of a write of the document's. -/
def wCells (x : WD) : List Value := [.int .i64 (x.i : Int), sv x.b]
theorem wCells_length (x : WD) : (wCells x).length = 2 := rfl
theorem wCells_one (x : WD) : ∀ v ∈ wCells x, v.oneCell' = true := by
  intro v hv
  simp only [wCells, List.mem_cons, List.not_mem_nil, or_false] at hv
  rcases hv with rfl | rfl <;> rfl
theorem wRows_one (l : List WD) : ∀ v ∈ Rw.rows wCells l, v.oneCell' = true := by
  intro v hv
  obtain ⟨x, -, hx⟩ := List.mem_flatMap.1 hv
  exact wCells_one x v hx
theorem wRows_length (l : List WD) : (Rw.rows wCells l).length = l.length * 2 := rows_length fun x _ => wCells_length x
/-- Writes in a row, at the head of a block outside own. -/
def Cy (w : World) (own : Nat → Prop) (A : Option Addr) (l : List WD) : Prop :=
  0 < l.length → ∃ g, A = some ⟨g, 0, none⟩ ∧ g < w.heap.size ∧ ¬ own g ∧ ∀ i v, (Rw.rows wCells l)[i]? = some v → w.cell? ⟨g, i, none⟩ = some v
section
variable {own own' T : Nat → Prop} {w w' : World} {A : Option Addr} {l : List WD}
theorem Cy.empty : Cy w own A [] := fun h => by simp at h
theorem Cy.out (h : Cy w own A l) (ho : Out own w w') : Cy w' own A l := fun hn => by
  obtain ⟨g, e, hb, hs, hc⟩ := h hn
  exact ⟨g, e, Nat.lt_of_lt_of_le hb ho.size, hs, fun j u hu => (ho.cell (p := ⟨g, j, none⟩) hb hs).trans (hc j u hu)⟩
theorem Cy.past (h : Cy w own A l) (hb : Below w.heap.size w w') : Cy w' own A l := h.out (.of_below hb)
theorem Cy.less (h : Cy w own A l) (hs : ∀ k, k < w.heap.size → own' k → own k) : Cy w own' A l := fun hn => by
  obtain ⟨g, e, hb, hn', hc⟩ := h hn
  exact ⟨g, e, hb, fun hS => hn' (hs _ hb hS), hc⟩
theorem Cy.of_own {base n c : Nat} {e : TypeId} (h : w.ownsRow base e 2 (.slice A n c) n (Rw.rows wCells l)) (hs : ∀ k, base ≤ k → ¬ own k) : Cy w own A l := fun hn => by
  have hl := h.1
  rw [wRows_length] at hl
  obtain ⟨g, cap, hv, hg, hlt⟩ := h.form (by omega)
  injection hv with e1
  refine ⟨g, e1, hlt, hs g hg, fun i v hv => ?_⟩
  have := h.cells (g := g) (by rw [e1]; rfl) i v hv
  rwa [Addr.add_mid, Nat.zero_add] at this
theorem Cy.at (h : Cy w own A l) {k : Nat} {x : WD} (hk : l[k]? = some x) :
    ∃ g, A = some ⟨g, 0, none⟩ ∧ g < w.heap.size ∧ ¬ own g ∧ w.cell? ⟨g, k * 2, none⟩ = some (.int .i64 (x.i : Int)) ∧ w.cell? ⟨g, k * 2 + 1, none⟩ = some (sv x.b) := by
  have hlt := (List.getElem?_eq_some_iff.1 hk).1
  obtain ⟨g, e, hb, hn, hc⟩ := h (by omega)
  have r0 := rows_get (f := wCells) (s := 2) (fun x _ => wCells_length x) hk (j := 0) (by omega)
  have r1 := rows_get (f := wCells) (s := 2) (fun x _ => wCells_length x) hk (j := 1) (by omega)
  exact ⟨g, e, hb, hn, hc _ _ r0, hc _ _ r1⟩
end
/-- The document's disk, as a value. -/
structure RefAt (w : World) (own : Nat → Prop) (m : RefM) (Am : Option Addr) (cm : Nat) (Aw : Option Addr) (cw : Nat) : Prop where
  made : Cy w own Am m.made
  wait : Cy w own Aw m.wait
  cm : m.made.length ≤ cm
  cw : m.wait.length ≤ cw
def refVs (m : RefM) (Am : Option Addr) (cm : Nat) (Aw : Option Addr) (cw : Nat) : List Value :=
  [.int .i64 (m.count : Int), .bool m.off, .int .i64 m.fuse, .slice Am m.made.length cm, .slice Aw m.wait.length cw]
section
variable {own own' : Nat → Prop} {w w' : World} {m : RefM} {Am Aw : Option Addr} {cm cw : Nat}
theorem RefAt.out (h : RefAt w own m Am cm Aw cw) (ho : Out own w w') : RefAt w' own m Am cm Aw cw := ⟨h.made.out ho, h.wait.out ho, h.cm, h.cw⟩
theorem RefAt.past (h : RefAt w own m Am cm Aw cw) (hb : Below w.heap.size w w') : RefAt w' own m Am cm Aw cw := h.out (.of_below hb)
theorem RefAt.less (h : RefAt w own m Am cm Aw cw) (hs : ∀ k, k < w.heap.size → own' k → own k) : RefAt w own' m Am cm Aw cw := ⟨h.made.less hs, h.wait.less hs, h.cm, h.cw⟩
end

theorem zero_made : (madeCells (Value.int .u8 0).cells (128 * 1)).toList = cellsOf zero128 := made_zero 128
set_option maxRecDepth 100000 in
theorem zeros_any (w : World) : Calls Try.prog 37 #[] w fun e w' => e = .returned (sv zero128) ∧ Below w.heap.size w w' := by
  obtain ⟨i0, hi0, hz0, hz1, hz2⟩ := info_parts u8_info
  have hlen := zero128_length
  go_enter Try.func37, Try.ntmps37
  go_wp2_with (refine wpList_make_full w rfl _ _ 38 rfl w.heap.size 5 i0 _ 1 Try.underlying38 hi0 hz0 hz1 .i64 .i64 _ _ 128 rfl rfl rfl rfl (by rw [hz2]; omega) (by unfold maxLen; omega) (Nat.le_refl _) ?_
               intro w1 ho1 hg1
               rw [zero_made] at ho1
               have HB1 := Lib.hid (show Below w.heap.size w w1 from (Below.refl _ _).grown hg1 (Nat.le_refl _) (fun k e => by cases e))
               have e1 := str_any (some ⟨w.heap.size, 0, none⟩) 128 128 zero128 w1 _ hlen (Rd.of_own ho1)
               clear ho1 hg1)
  go_ret
  exact ⟨rfl, HB1.out⟩
set_option maxRecDepth 100000 in
set_option maxHeartbeats 400000 in
theorem last_any (A : Option Addr) (n c : Nat) (l : List WD) (i : Nat) (b : List UInt8) (own : Nat → Prop) (w : World) (hl : l.length = n) (hn : n ≤ 4611686018427387904) (h : Cy w own A l) :
    Calls Try.prog 29 #[.slice A n c, .int .i64 (i : Int), sv b] w fun e w' => e = .returned (sv (lastW l i b)) ∧ w = w' := by
  have HL := Lib.hid hl
  have HA := Lib.hid h
  obtain ⟨R, hR⟩ : ∃ R, R = lastW l i b := ⟨_, rfl⟩
  rw [← hR]
  have HR := Lib.hid hR
  clear hl h hR
  go_enter Try.func29, Try.ntmps29
  go_wp2
  go_loop [2, 10] (fun bv iv => ∃ k : Nat, k ≤ n ∧ iv = .int .i64 k ∧ ∃ b', bv = sv b' ∧ Hid (lastW (l.drop k) i b' = R)) (fun _ iv => n - (intOf iv).toNat)
  case atStart => exact ⟨0, Nat.zero_le _, rfl, b, rfl, Lib.hid HR.out.symm⟩
  case round =>
    obtain ⟨k, hk, rfl, b', rfl, HS⟩ := hrel
    by_cases hlt : k < n
    · have hlt' : k < l.length := by rw [HL.out]; exact hlt
      obtain ⟨x, hx⟩ : ∃ x, l[k]? = some x := ⟨_, List.getElem?_eq_getElem hlt'⟩
      obtain ⟨g, rfl, -, -, c0, c1⟩ := HA.out.at hx
      have hd : l.drop k = x :: l.drop (k + 1) := by
        rw [List.drop_eq_getElem_cons hlt']
        congr 1
        exact (List.getElem?_eq_some_iff.1 hx).2
      by_cases hxi : x.i = i
      · have d1 : ((x.i : Int) == (i : Int)) = true := by rw [beq_iff_eq]; omega
        have HN := Lib.hid (show lastW (l.drop (k + 1)) i x.b = R by rw [← HS.out, hd, lastW, if_pos hxi])
        clear hx hd hlt' HS
        go_wp2
        go_round
        case rel => exact ⟨k + 1, by omega, by go_num, x.b, rfl, HN⟩
        case measure => simp [intOf]; omega
      · have d1 : ((x.i : Int) == (i : Int)) = false := by rw [beq_eq_false_iff_ne]; omega
        have HN := Lib.hid (show lastW (l.drop (k + 1)) i b' = R by rw [← HS.out, hd, lastW, if_neg hxi])
        clear hx hd hlt' HS
        go_wp2
        go_round
        case rel => exact ⟨k + 1, by omega, by go_num, b', rfl, HN⟩
        case measure => simp [intOf]; omega
    · have HE := Lib.hid (show b' = R by rw [← HS.out, List.drop_of_length_le (by rw [HL.out]; omega)]; rfl)
      go_wp2
      go_ret
      exact ⟨by rw [HE.out]; rfl, rfl⟩
end Go.Proofs.Ytpdhnkmihlgdjaa
