/- Manifests in memory: a value, a row of files, a row of manifests; as arguments. -/
import Derived.Test.YtgnghalcihoaaaaMf
import Derived.Test.YtgnghalcihoaaaaInts
import Derived.Test.YtgnghalcihoaaaaCel
namespace Go.Proofs.Ytgnghalcihoaaaa
open Go.RowKit Me Mf

/-- A file's cells, at a place. -/
def FAt (w : World) (B : Nat) (x : Addr) (f : FileD) : Prop := ∃ A n c, w.cell? x = some (sv f.name) ∧ w.cell? ⟨x.block, x.off + 1, none⟩ = some (.int .u32 (f.id : Int)) ∧ w.cell? ⟨x.block, x.off + 2, none⟩ = some (.int .i64 f.size) ∧
  w.cell? ⟨x.block, x.off + 3, none⟩ = some (.slice A n c) ∧ f.blocks.length = n ∧ n ≤ c ∧ n ≤ 9223372036854775807 ∧ Cs w B A (icells f.blocks)
/-- Files in a row, at L. -/
def Files (w : World) (B : Nat) (L : Option Addr) (l : List FileD) : Prop := 0 < l.length → ∃ a, L = some a ∧ a.block < B ∧ ∀ i f, l[i]? = some f → FAt w B (a.add (i * 4)) f
section
variable {w w' : World} {B B' : Nat} {L : Option Addr} {l : List FileD}
theorem FAt.below {x : Addr} {f : FileD} (h : FAt w B x f) (hx : x.block < B) (hb : Below B w w') : FAt w' B x f := by
  obtain ⟨A, n, c, h1, h2, h3, h4, h5, h6, h7, h8⟩ := h
  exact ⟨A, n, c, (hb.cell hx).trans h1, (hb.cell (p := ⟨x.block, x.off + 1, none⟩) hx).trans h2, (hb.cell (p := ⟨x.block, x.off + 2, none⟩) hx).trans h3, (hb.cell (p := ⟨x.block, x.off + 3, none⟩) hx).trans h4, h5, h6, h7, h8.below hb⟩
theorem FAt.more {x : Addr} {f : FileD} (h : FAt w B x f) (hB : B ≤ B') : FAt w B' x f := by
  obtain ⟨A, n, c, h1, h2, h3, h4, h5, h6, h7, h8⟩ := h
  exact ⟨A, n, c, h1, h2, h3, h4, h5, h6, h7, h8.more hB⟩
theorem Files.empty : Files w B L [] := fun h => by simp at h
theorem Files.below (h : Files w B L l) (hb : Below B w w') : Files w' B L l := fun hn => by
  obtain ⟨a, rfl, h1, hc⟩ := h hn
  exact ⟨a, rfl, h1, fun i p hp => (hc i p hp).below (by rw [block_add]; exact h1) hb⟩
theorem Files.more (h : Files w B L l) (hB : B ≤ B') : Files w B' L l := fun hn => by
  obtain ⟨a, rfl, h1, hc⟩ := h hn
  exact ⟨a, rfl, by omega, fun i p hp => (hc i p hp).more hB⟩
theorem Files.past (h : Files w w.heap.size L l) (hb : Below w.heap.size w w') : Files w' w'.heap.size L l := (h.below hb).more hb.size
theorem Files.at (h : Files w B L l) {i : Nat} (hi : i < l.length) : ∃ a f, L = some a ∧ a.block < B ∧ l[i]? = some f ∧ FAt w B (a.add (i * 4)) f := by
  obtain ⟨a, e, h1, hc⟩ := h (by omega)
  exact ⟨a, l[i], e, h1, List.getElem?_eq_getElem hi, hc i _ (List.getElem?_eq_getElem hi)⟩
theorem Files.get (h : Files w B L l) {i : Nat} {f : FileD} (hf : l[i]? = some f) : ∃ a, L = some a ∧ a.block < B ∧ FAt w B (a.add (i * 4)) f := by
  have hi : i < l.length := (List.getElem?_eq_some_iff.1 hf).1
  obtain ⟨a, e, h1, hc⟩ := h (by omega)
  exact ⟨a, e, h1, hc i _ hf⟩
end
/-- A manifest's value. -/
abbrev mval (v x : Nat) (A : Option Addr) (n c : Nat) : Value := .agg #[.int .u64 (v : Int), .int .u32 (x : Int), .slice A n c]
structure ManAt (w : World) (B : Nat) (A : Option Addr) (n c : Nat) (m : ManD) : Prop where
  files : Files w B A m.files
  len : m.files.length = n
  cap : n ≤ c
  most : n ≤ 9223372036854775807
  wf : Wf m
section
variable {w w' : World} {B B' : Nat} {A : Option Addr} {n c : Nat} {m : ManD}
theorem ManAt.below (h : ManAt w B A n c m) (hb : Below B w w') : ManAt w' B A n c m := { h with files := h.files.below hb }
theorem ManAt.more (h : ManAt w B A n c m) (hB : B ≤ B') : ManAt w B' A n c m := { h with files := h.files.more hB }
theorem ManAt.past (h : ManAt w w.heap.size A n c m) (hb : Below w.heap.size w w') : ManAt w' w'.heap.size A n c m := (h.below hb).more hb.size
theorem wf_none : Wf noMan := ⟨by decide, by decide, fun f h => (by cases h)⟩
theorem ManAt.none (w : World) (B : Nat) : ManAt w B Option.none 0 0 noMan := ⟨Files.empty, rfl, Nat.le_refl _, by omega, wf_none⟩
end
/-- A row of manifests, at L. -/
def MAt (w : World) (B : Nat) (x : Addr) (m : ManD) : Prop := ∃ A n c, w.cell? x = some (.int .u64 (m.version : Int)) ∧ w.cell? ⟨x.block, x.off + 1, none⟩ = some (.int .u32 (m.next : Int)) ∧ w.cell? ⟨x.block, x.off + 2, none⟩ = some (.slice A n c) ∧ ManAt w B A n c m
def Mans (w : World) (B : Nat) (L : Option Addr) (l : List ManD) : Prop := 0 < l.length → ∃ a, L = some a ∧ a.block < B ∧ ∀ i m, l[i]? = some m → MAt w B (a.add (i * 3)) m
theorem Mans.below {w w' : World} {B : Nat} {L : Option Addr} {l : List ManD} (h : Mans w B L l) (hb : Below B w w') : Mans w' B L l := fun hn => by
  obtain ⟨a, rfl, h1, hc⟩ := h hn
  refine ⟨a, rfl, h1, fun i p hp => ?_⟩
  have hx : (a.add (i * 3)).block < B := by rw [block_add]; exact h1
  obtain ⟨A, n, c, g0, g1, g2, g3⟩ := hc i p hp
  exact ⟨A, n, c, (hb.cell hx).trans g0, (hb.cell (p := ⟨_, _, none⟩) hx).trans g1, (hb.cell (p := ⟨_, _, none⟩) hx).trans g2, g3.below hb⟩
open Go.ChangeShapes Go.WideShapes
variable {H : Type} {enc : TypeId × Value → H} {W : World}
theorem u32_of {z : Int} (h : (Lit.int IntKind.u32 z).wf = true) : ∃ i : Nat, z = (i : Int) ∧ i < 4294967296 := by
  simp [Lit.wf, IntKind.min, IntKind.max, IntKind.bits, IntKind.signed] at h
  exact ⟨z.toNat, by omega, by omega⟩
theorem u64_of {z : Int} (h : (Lit.int IntKind.u64 z).wf = true) : ∃ i : Nat, z = (i : Int) ∧ i < 18446744073709551616 := by
  simp [Lit.wf, IntKind.min, IntKind.max, IntKind.bits, IntKind.signed] at h
  exact ⟨z.toNat, by omega, by omega⟩
theorem i64_of {z : Int} (h : (Lit.int IntKind.i64 z).wf = true) : -9223372036854775808 ≤ z ∧ z ≤ 9223372036854775807 := by
  simp [Lit.wf, IntKind.min, IntKind.max, IntKind.bits, IntKind.signed] at h
  omega
theorem add_zero' (x : Addr) : x.add 0 = x := by unfold Addr.add; simp
theorem file_hone : ∃ f0 f1 f2 f3 : Field, Try.prog.underlying 41 = some (.struct #[f0, f1, f2, f3]) ∧ Go.Deep.oneCellFields Try.prog #[f0, f1, f2, f3] = true ∧ f0.type = 9 ∧ f1.type = 25 ∧ f2.type = 3 ∧ f3.type = 39 :=
  ⟨_, _, _, _, Try.underlying41, by kernel_rfl, rfl, rfl, rfl, rfl⟩
theorem man_hone : ∃ f0 f1 f2 : Field, Try.prog.underlying 28 = some (.struct #[f0, f1, f2]) ∧ Go.Deep.oneCellFields Try.prog #[f0, f1, f2] = true ∧ f0.type = 24 ∧ f1.type = 25 ∧ f2.type = 26 :=
  ⟨_, _, _, Try.underlying28, by kernel_rfl, rfl, rfl, rfl⟩
theorem file_cells : Try.prog.cellsOf 41 = 4 := by kernel_rfl
theorem man_cells : Try.prog.cellsOf 28 = 3 := by kernel_rfl
theorem int_cells : Try.prog.cellsOf 3 = 1 := by kernel_rfl
set_option maxRecDepth 100000 in
/-- A file out of its cells. -/
theorem file_of_trod {fuel : Nat} {cs : List Value} {x : DataW H × List MemPlace} {y : Addr} (hf : DataW.trod enc Try.prog W 0 (fun _ => true) true fuel 41 cs = some x) (hcl : cs.length = 4) (hat : ∀ j, j < cs.length → W.cell? (y.add j) = cs[j]?) :
    ∃ f, FAt W W.heap.size y f ∧ WfF f := by
  obtain ⟨f0, f1, f2, f3, he, hone, h0, h1, h2, h3⟩ := file_hone
  obtain ⟨ys, n2, hn2, hy, hlen, hyl, hfld⟩ := DataW.trod_struct he hf
  obtain ⟨o0, k0⟩ := Go.Deep.hone_of hone 0 f0 rfl
  obtain ⟨o1, k1⟩ := Go.Deep.hone_of hone 1 f1 rfl
  obtain ⟨o2, k2⟩ := Go.Deep.hone_of hone 2 f2 rfl
  obtain ⟨o3, k3⟩ := Go.Deep.hone_of hone 3 f3 rfl
  match cs, hcl, hat with
  | [c0, c1, c2, c3], _, hat =>
    match ys, hyl with
    | [y0, y1, y2, y3], _ =>
      have g0 := hfld 0 f0 rfl
      have g1 := hfld 1 f1 rfl
      have g2 := hfld 2 f2 rfl
      have g3 := hfld 3 f3 rfl
      rw [o0, k0, h0] at g0
      rw [o1, k1, h1] at g1
      rw [o2, k2, h2] at g2
      rw [o3, k3, h3] at g3
      obtain ⟨s, e0, -, hs⟩ := DataW.trod_string Try.underlying9 g0
      obtain ⟨z1, e1, -, w1⟩ := DataW.trod_int Try.underlying25 g1
      obtain ⟨z2, e2, -, w2⟩ := DataW.trod_int Try.underlying3 g2
      have hall : ∃ A n c l, [c3] = [Value.slice A n c] ∧ l.length = n ∧ n ≤ c ∧ n ≤ 9223372036854775807 ∧ Cs W W.heap.size A (icells l) ∧ ∀ b ∈ l, -9223372036854775808 ≤ b ∧ b ≤ 9223372036854775807 := by
        rcases ChangeShapes.open_ints Try.underlying39 Try.underlying3 int_cells g3 with ⟨hcs, hx⟩ | ⟨a, len, cap, zs, hcs, _, hl, hm, hz, hx, hcell, hwz⟩
        · exact ⟨_, _, _, [], hcs, rfl, by omega, by omega, Cs.empty, fun b hb => (by cases hb)⟩
        · obtain ⟨A, n, c, l, q0, q1, q2, q3, q4⟩ := ints_of_trod Try.underlying39 Try.underlying3 int_cells g3
          refine ⟨A, n, c, l, q0, q1, q2, q3, q4, fun b hb => ?_⟩
          obtain ⟨i, hi, rfl⟩ := List.mem_iff_getElem.1 hb
          obtain ⟨a', e', -, hc'⟩ := q4 (by rw [icells_length]; omega)
          have hq := hc' i _ (icells_get (List.getElem?_eq_getElem hi))
          have q0' : [c3] = [Value.slice A n c] := q0
          have hcs' : [c3] = [Value.slice (some a) len cap] := hcs
          rw [hcs'] at q0'
          injection q0' with q0' _
          injection q0' with q0' q1' q2'
          subst q0' q1' q2'
          injection e' with e'
          subst e'
          have hz' : zs.length = cap := by simpa using hz
          have := hcell i (by omega)
          rw [hq] at this
          injection this with this
          injection this with _ this
          rw [this]
          refine i64_of (hwz _ ?_)
          rw [List.getD_eq_getElem?_getD, List.getElem?_eq_getElem (by omega)]
          exact List.getElem_mem _
      obtain ⟨A, n3, c3', l, e3, q1, q2, q3, q4, q5⟩ := hall
      simp at e0 e1 e2 e3
      subst e0 e1 e2 e3
      have a0 := hat 0 (by simp)
      have a1 := hat 1 (by simp)
      have a2 := hat 2 (by simp)
      have a3 := hat 3 (by simp)
      rw [add_zero'] at a0
      rw [add_at _ 0] at a1
      rw [add_at _ 1] at a2
      rw [add_at _ 2] at a3
      obtain ⟨i, rfl, hi⟩ := u32_of w1
      have wz := i64_of w2
      exact ⟨⟨s.data.toList, i, z2, l⟩, ⟨A, n3, c3', by rw [sv_data]; exact a0, a1, a2, a3, q1, q2, q3, q4⟩, ⟨hi, wz.1, wz.2, q5⟩⟩
set_option maxRecDepth 100000 in
/-- Files out of a slice's cell. -/
theorem files_of_trod {fuel : Nat} {cs : List Value} {x : DataW H × List MemPlace} (hf : DataW.trod enc Try.prog W 0 (fun _ => true) true fuel 26 cs = some x) :
    ∃ A n c l, cs = [.slice A n c] ∧ l.length = n ∧ n ≤ c ∧ n ≤ 9223372036854775807 ∧ Files W W.heap.size A l ∧ ∀ f ∈ l, WfF f := by
  rcases Go.Deep.open_slice Try.underlying26 hf with ⟨hcs, hx⟩ | ⟨a, n, c, m, n', D, Pl, hcs, hb, hl, hm, hmm, hx, hi'⟩
  · exact ⟨_, _, _, [], hcs, rfl, by omega, by omega, Files.empty, fun f h => (by cases h)⟩
  · have hone' : ∀ i, i < n → ∃ f : FileD, FAt W W.heap.size (a.add (i * 4)) f ∧ WfF f := by
      intro i hin
      obtain ⟨cs', hc, ht'⟩ := hi' i (by rw [hmm]; simp; omega)
      rw [file_cells] at hc
      obtain ⟨_, hcl, hat⟩ := World.cells?_some hc
      exact file_of_trod ht' hcl fun j hj => hat j (by omega)
    refine ⟨_, n, c, (List.range n).map (fun i => if h : i < n then (hone' i h).choose else noFile), hcs, by simp, hl, by unfold maxLen at hm; omega, fun hn => ?_, fun f hf => ?_⟩
    · have hn0 : 0 < n := by simpa using hn
      refine ⟨a, rfl, ?_, fun i p hp => ?_⟩
      · obtain ⟨⟨A, n, c, h1, -⟩, -⟩ := (hone' 0 hn0).choose_spec
        have := block_lt_of_cell h1
        rwa [Me.block_add] at this
      · rw [List.getElem?_map] at hp
        by_cases hin : i < n
        · simp [hin] at hp
          subst hp
          exact (hone' i hin).choose_spec.1
        · simp [hin] at hp
    · obtain ⟨i, hi, rfl⟩ := List.mem_map.1 hf
      rw [List.mem_range] at hi
      rw [dif_pos hi]
      exact (hone' i hi).choose_spec.2
set_option maxRecDepth 100000 in
/-- A manifest out of its cells. -/
theorem man_of_trod {fuel : Nat} {cs : List Value} {x : DataW H × List MemPlace} (hf : DataW.trod enc Try.prog W 0 (fun _ => true) true fuel 28 cs = some x) (hcl : cs.length = 3) :
    ∃ A n c m, cs = [.int .u64 (m.version : Int), .int .u32 (m.next : Int), .slice A n c] ∧ ManAt W W.heap.size A n c m := by
  obtain ⟨f0, f1, f2, he, hone, h0, h1, h2⟩ := man_hone
  obtain ⟨ys, n2, hn2, hy, hlen, hyl, hfld⟩ := DataW.trod_struct he hf
  obtain ⟨o0, k0⟩ := Go.Deep.hone_of hone 0 f0 rfl
  obtain ⟨o1, k1⟩ := Go.Deep.hone_of hone 1 f1 rfl
  obtain ⟨o2, k2⟩ := Go.Deep.hone_of hone 2 f2 rfl
  match cs, hcl with
  | [c0, c1, c2], _ =>
    match ys, hyl with
    | [y0, y1, y2], _ =>
      have g0 := hfld 0 f0 rfl
      have g1 := hfld 1 f1 rfl
      have g2 := hfld 2 f2 rfl
      rw [o0, k0, h0] at g0
      rw [o1, k1, h1] at g1
      rw [o2, k2, h2] at g2
      obtain ⟨z0, e0, -, w0⟩ := DataW.trod_int Try.underlying24 g0
      obtain ⟨z1, e1, -, w1⟩ := DataW.trod_int Try.underlying25 g1
      obtain ⟨A, n3, c3, l, e2, q1, q2, q3, q4, q5⟩ := files_of_trod g2
      simp at e0 e1 e2
      subst e0 e1 e2
      obtain ⟨i, rfl, hi⟩ := u64_of w0
      obtain ⟨j, rfl, hj⟩ := u32_of w1
      exact ⟨A, n3, c3, ⟨i, j, l⟩, rfl, ⟨q4, q1, q2, q3, ⟨hi, hj, q5⟩⟩⟩
set_option maxRecDepth 100000 in
/-- A manifest as an argument. -/
theorem open_man {b0 : Nat} {v : Value} {d : DataW H} {ps : List MemPlace} (hv : Value.okWide Try.prog W .any b0 28 v) (h : DataW.Trod enc Try.prog W 0 (fun _ => true) true 28 v d ps) :
    ∃ A n c m, v = mval m.version m.next A n c ∧ ManAt W W.heap.size A n c m := by
  obtain ⟨f0, f1, f2, he, hone, h0, h1, h2⟩ := man_hone
  obtain ⟨cs, rfl, hsz⟩ := WideShapes.okWide_struct he hv
  obtain ⟨fuel, hf⟩ := h
  obtain ⟨A, n, c, m, hcs, hm⟩ := man_of_trod hf (by
    obtain ⟨ys, n2, hn2, hy, hlen, hyl, hfld⟩ := DataW.trod_struct he hf
    rw [hlen, man_cells])
  refine ⟨A, n, c, m, ?_, hm⟩
  congr 1
  apply Array.toList_inj.1
  exact hcs
set_option maxRecDepth 100000 in
/-- Manifests as an argument. -/
theorem open_mans {b0 : Nat} {v : Value} {d : DataW H} {ps : List MemPlace} (hv : Value.okWide Try.prog W .any b0 43 v) (h : DataW.Trod enc Try.prog W 0 (fun _ => true) true 43 v d ps) :
    ∃ A n c l, v = .slice A n c ∧ l.length = n ∧ n ≤ c ∧ n ≤ 9223372036854775807 ∧ Mans W W.heap.size A l := by
  obtain ⟨A, n, c, rfl⟩ := WideShapes.okWide_slice Try.underlying43 hv
  obtain ⟨fuel, hf⟩ := h
  rcases Go.Deep.open_slice Try.underlying43 hf with ⟨hcs, hx⟩ | ⟨a, len, cap, m, n', D, Pl, hcs, hb, hl, hm, hmm, hx, hi'⟩
  · simp [Value.cells] at hcs
    obtain ⟨rfl, rfl, rfl⟩ := hcs
    exact ⟨_, _, _, [], rfl, rfl, Nat.le_refl _, by omega, fun hn => by simp at hn⟩
  · simp [Value.cells] at hcs
    obtain ⟨rfl, rfl, rfl⟩ := hcs
    have hone' : ∀ i, i < n → ∃ f : ManD, MAt W W.heap.size (a.add (i * 3)) f := by
      intro i hin
      obtain ⟨cs', hc, ht'⟩ := hi' i (by rw [hmm]; simp; omega)
      rw [man_cells] at hc
      obtain ⟨_, hcl, hat⟩ := World.cells?_some hc
      obtain ⟨A, n, c, m, rfl, hm⟩ := man_of_trod ht' hcl
      have a0 := hat 0 (by omega)
      have a1 := hat 1 (by omega)
      have a2 := hat 2 (by omega)
      rw [add_zero'] at a0
      rw [add_at _ 0] at a1
      rw [add_at _ 1] at a2
      exact ⟨m, A, n, c, a0, a1, a2, hm⟩
    refine ⟨_, n, c, (List.range n).map (fun i => if h : i < n then (hone' i h).choose else noMan), rfl, by simp, hl, by unfold maxLen at hm; omega, fun hn => ?_⟩
    have hn0 : 0 < n := by simpa using hn
    refine ⟨a, rfl, ?_, fun i p hp => ?_⟩
    · obtain ⟨A, n, c, h1, -⟩ := (hone' 0 hn0).choose_spec
      have := block_lt_of_cell h1
      rwa [Me.block_add] at this
    · rw [List.getElem?_map] at hp
      by_cases hin : i < n
      · simp [hin] at hp
        subst hp
        exact (hone' i hin).choose_spec
      · simp [hin] at hp
end Go.Proofs.Ytgnghalcihoaaaa
