/- edge.Read: a text's edges. -/
import Derived.Test.YtbedepnmgnlijaaDoorEdO
import Derived.Test.YtbedepnmgnlijaaDoorEdS
import Derived.Test.YtbedepnmgnlijaaDoorTxCq
import Derived.Test.YtbedepnmgnlijaaDoorTxJ
namespace Go.Proofs.YtbedepnmgnlijaaDoor
open Go.RowKit Me Tx Ed Go.Shelf Go.Lib

theorem ed_info : (Tryd.prog.info? 25).map (fun i => (i.zero, i.size, i.bytes)) = some (some (.agg #[.int .u32 0, .int .u32 0, .int .u32 0]), 3, 12) := by kernel_rfl
theorem one_ed {w : World} {t u x : Int} {T : TypeId} {H : Nat} (hH : w.heap.size = H) : ∀ (j : Nat) (v : Value), ([.int .u32 t, .int .u32 u, .int .u32 x] : List Value)[j]? = some v → (w.alloc (.cells #[.int .u32 t, .int .u32 u, .int .u32 x] T)).cell? ((⟨H, 0, none⟩ : Addr).add j) = some v := by
  intro j v hj
  subst hH
  obtain ⟨a, e, -, hc⟩ := Cs.lit w #[.int .u32 t, .int .u32 u, .int .u32 x] T (by simp)
  injection e with e
  subst e
  exact hc j v hj
theorem ed_one_cells {t u x : Int} : ∀ v ∈ ([.int .u32 t, .int .u32 u, .int .u32 x] : List Value), v.oneCell' = true := by
  intro v hv
  simp only [List.mem_cons, List.not_mem_nil, or_false] at hv
  rcases hv with rfl | rfl | rfl <;> rfl
/-- Edges, a line's number and an error are answered. -/
def ReadPost (w : World) (r : List EdD × Nat × Int) (e : Ending) (w' : World) : Prop :=
  ∃ A c, e = .returned (.tuple #[.slice A r.1.length c, .int .i64 (r.2.1 : Int), .int .i64 r.2.2]) ∧ r.1.length ≤ c ∧ Eds w' w'.heap.size A r.1 ∧ Below w.heap.size w w'
/-- .. in new memory. -/
def ReadPost2 (w : World) (r : List EdD × Nat × Int) (e : Ending) (w' : World) : Prop :=
  ∃ A c, e = .returned (.tuple #[.slice A r.1.length c, .int .i64 (r.2.1 : Int), .int .i64 r.2.2]) ∧ r.1.length ≤ c ∧ Eds w' w'.heap.size A r.1 ∧ Below w.heap.size w w' ∧ (∀ a, A = some a → w.heap.size ≤ a.block) ∧ (A = none → c = 0)
theorem ReadPost2.less {w w' : World} {r : List EdD × Nat × Int} {e : Ending} (h : ReadPost2 w r e w') : ReadPost w r e w' := by
  obtain ⟨A, c, h1, h2, h3, h4, -⟩ := h
  exact ⟨A, c, h1, h2, h3, h4⟩
theorem own_new {w : World} {base size n m c : Nat} {e : TypeId} {A : Option Addr} {xs : List Value} (h : w.ownsRow base e size (.slice A n c) m xs) : (∀ a, A = some a → base ≤ a.block) ∧ (A = none → c = 0) := by
  rcases h.2 with ⟨e, h0⟩ | ⟨g, cap, cur, e, hb, _⟩
  · injection e with e1 _ e2
    exact ⟨(fun a h => by rw [e1] at h; cases h), fun _ => e2⟩
  · injection e with e1
    refine ⟨fun a h => ?_, (fun h => by rw [e1] at h; cases h)⟩
    rw [e1] at h
    injection h with h
    subst h
    exact hb
/-- What stands between the rounds. -/
structure LoI (H : Nat) (ls : List (List UInt8)) (pre : List (Nat × List UInt8)) (acc : List EdD) (v : Value) (W : World) : Prop where
  r0 : Blk W H [.slice none 0 0]
  r1 : Blk W (H + 1) [.int .i64 0]
  r2 : Blk W (H + 2) [.int .i64 0]
  l : Blk W (H + 3) [v]
  o : W.ownsRow (H + 13) 25 3 v acc.length (edCells acc)
  f : ∀ p ∈ acc, Fits p
  m : acc.length ≤ pre.length
  k : acc.length ≤ 65536
  g : readM 65536 0 [] ls = readM 65536 pre.length acc (ls.drop pre.length)
/-- .. and where it ended early. -/
structure LoX (H : Nat) (ls : List (List UInt8)) (k : Nat) (e : Int) (W : World) : Prop where
  r0 : Blk W H [.slice none 0 0]
  r1 : Blk W (H + 1) [.int .i64 (k : Int)]
  r2 : Blk W (H + 2) [.int .i64 e]
  g : readM 65536 0 [] ls = ([], k, e)
theorem own_grown {w w' : World} {base size n : Nat} {e : TypeId} {v : Value} {xs : List Value} {row : Option Nat} (h : w.ownsRow base e size v n xs) (hg : w.grownBy w' row) (hr : ∀ r, row = some r → r < base) : w'.ownsRow base e size v n xs :=
  own_out (S := fun k => row = some k) h (Out.of_grown hg fun k e _ => e) (fun k hk h2 => by have := (h.lt k hk).1; have := hr k h2; omega)
theorem LoI.free {H : Nat} {ls : List (List UInt8)} {pre : List (Nat × List UInt8)} {acc : List EdD} {v : Value} {W W' : World} {row : Option Nat} (h : LoI H ls pre acc v W) (hg : W.grownBy W' row) (hr : ∀ r, row = some r → H + 5 ≤ r ∧ r < H + 13) : LoI H ls pre acc v W' :=
  ⟨h.r0.grown hg (fun e => by have := hr _ e; omega), h.r1.grown hg (fun e => by have := hr _ e; omega), h.r2.grown hg (fun e => by have := hr _ e; omega), h.l.grown hg (fun e => by have := hr _ e; omega), own_grown h.o hg (fun r e => (hr r e).2), h.f, h.m, h.k, h.g⟩
theorem LoX.free {H : Nat} {ls : List (List UInt8)} {k : Nat} {e : Int} {W W' : World} {row : Option Nat} (h : LoX H ls k e W) (hg : W.grownBy W' row) (hr : ∀ r, row = some r → H + 5 ≤ r ∧ r < H + 13) : LoX H ls k e W' :=
  ⟨h.r0.grown hg (fun e => by have := hr _ e; omega), h.r1.grown hg (fun e => by have := hr _ e; omega), h.r2.grown hg (fun e => by have := hr _ e; omega), h.g⟩
theorem cs_own {w : World} {base size n m c : Nat} {e : TypeId} {A : Option Addr} {xs : List Value} (h : w.ownsRow base e size (.slice A n c) m xs) : Cs w w.heap.size A xs := by
  have hn : n = m := by
    rcases h.2 with ⟨e, h0⟩ | ⟨g, cap, cur, e, _⟩
    · injection e with _ e _; omega
    · injection e with _ e _
  subst hn
  exact Cs.of_own h
/-- What a round writes. -/
abbrev LoS (H : Nat) : Nat → Prop := fun k => k = H ∨ k = H + 1 ∨ k = H + 2 ∨ k = H + 3 ∨ H + 13 ≤ k
theorem lo_end {H k : Nat} {kk er : Int} {ls : List (List UInt8)} {W1 w3 : World} {a0 a1 a2 : Value} {o : Obj} (hb : Below W1.heap.size W1 w3) (r0 : Blk w3 H [a0]) (r1 : Blk w3 (H + 1) [a1]) (r2 : Blk w3 (H + 2) [a2]) (hk : kk = (k : Int)) (g : readM 65536 0 [] ls = ([], k, er)) :
    Out (LoS H) W1 ((((w3.setCell ⟨H, 0, none⟩ (.slice none 0 0)).setCell ⟨H + 1, 0, none⟩ (.int .i64 kk)).setCell ⟨H + 2, 0, none⟩ (.int .i64 er)).alloc o) ∧
      LoX H ls k er ((((w3.setCell ⟨H, 0, none⟩ (.slice none 0 0)).setCell ⟨H + 1, 0, none⟩ (.int .i64 kk)).setCell ⟨H + 2, 0, none⟩ (.int .i64 er)).alloc o) := by
  subst hk
  refine ⟨((((Out.of_below hb).setCell (p := ⟨H, 0, none⟩) (.inl (.inl rfl)) _).setCell (p := ⟨H + 1, 0, none⟩) (.inl (.inr (.inl rfl))) _).setCell (p := ⟨H + 2, 0, none⟩) (.inl (.inr (.inr (.inl rfl)))) _).alloc o, ?_, ?_, ?_, g⟩
  · exact (((r0.set 0 _).other (p := ⟨H + 1, 0, none⟩) (show H + 1 ≠ H by omega) _).other (p := ⟨H + 2, 0, none⟩) (show H + 2 ≠ H by omega) _).alloc o
  · exact (((r1.other (p := ⟨H, 0, none⟩) (show H ≠ H + 1 by omega) _).set 0 _).other (p := ⟨H + 2, 0, none⟩) (show H + 2 ≠ H + 1 by omega) _).alloc o
  · exact (((r2.other (p := ⟨H, 0, none⟩) (show H ≠ H + 2 by omega) _).other (p := ⟨H + 1, 0, none⟩) (show H + 1 ≠ H + 2 by omega) _).set 0 _).alloc o
/-- The answer's three boxes, and the block of the loop's calls behind it. -/
theorem lo_done {H n c : Nat} {A : Option Addr} {acc : List EdD} {w W : World} {a0 a1 a2 : Value} (r0 : Blk W H [a0]) (r1 : Blk W (H + 1) [a1]) (r2 : Blk W (H + 2) [a2]) (o : W.ownsRow (H + 13) 25 3 (.slice A n c) acc.length (edCells acc)) (hf : ∀ p ∈ acc, Fits p)
    (hK : W.heap[H + 5]? = some (.deferred (some []))) (hw : w.heap.size ≤ H) (hb : Below w.heap.size w W) :
    (((W.setCell ⟨H, 0, none⟩ (.slice A n c)).setCell ⟨H + 1, 0, none⟩ (.int .i64 0)).setCell ⟨H + 2, 0, none⟩ (.int .i64 0)).heap[H + 5]? = some (.deferred (some [])) ∧
    (∃ W', W' = (((W.setCell ⟨H, 0, none⟩ (.slice A n c)).setCell ⟨H + 1, 0, none⟩ (.int .i64 0)).setCell ⟨H + 2, 0, none⟩ (.int .i64 0)).putObj (H + 5) (.deferred none) ∧
      W'.cell? ⟨H, 0, none⟩ = some (.slice A n c) ∧ W'.cell? ⟨H + 1, 0, none⟩ = some (.int .i64 0) ∧ W'.cell? ⟨H + 2, 0, none⟩ = some (.int .i64 0) ∧ Eds W' W'.heap.size A acc ∧ Below w.heap.size w W') := by
  have g : ∀ W : World, W.grownBy (W.putObj (H + 5) (.deferred none)) (some (H + 5)) := fun W => grownBy_putObj' W _ _
  refine ⟨?_, _, rfl, ?_, ?_, ?_, ?_, ?_⟩
  · rw [Below.heap_setCell _ _ _ _ (show H + 5 ≠ H + 2 by omega), Below.heap_setCell _ _ _ _ (show H + 5 ≠ H + 1 by omega), Below.heap_setCell _ _ _ _ (show H + 5 ≠ H by omega)]
    exact hK
  · exact ((((r0.set 0 _).other (p := ⟨H + 1, 0, none⟩) (show H + 1 ≠ H by omega) _).other (p := ⟨H + 2, 0, none⟩) (show H + 2 ≠ H by omega) _).grown (g _) (fun e => by injection e with e; omega)).cell (i := 0) rfl
  · exact ((((r1.other (p := ⟨H, 0, none⟩) (show H ≠ H + 1 by omega) _).set 0 _).other (p := ⟨H + 2, 0, none⟩) (show H + 2 ≠ H + 1 by omega) _).grown (g _) (fun e => by injection e with e; omega)).cell (i := 0) rfl
  · exact ((((r2.other (p := ⟨H, 0, none⟩) (show H ≠ H + 2 by omega) _).other (p := ⟨H + 1, 0, none⟩) (show H + 1 ≠ H + 2 by omega) _).set 0 _).grown (g _) (fun e => by injection e with e; omega)).cell (i := 0) rfl
  · have o3 := ownsRow_setCell_below (ownsRow_setCell_below (ownsRow_setCell_below o (a := ⟨H, 0, none⟩) (show H < _ by omega) (.slice A n c)) (a := ⟨H + 1, 0, none⟩) (show H + 1 < _ by omega) (.int .i64 0)) (a := ⟨H + 2, 0, none⟩) (show H + 2 < _ by omega) (.int .i64 0)
    have o4 := own_grown o3 (g _) (fun r e => by injection e with e; omega)
    refine ⟨?_, hf⟩
    exact cs_own o4
  · refine ((((hb.setCell (p := ⟨H, 0, none⟩) hw _).setCell (p := ⟨H + 1, 0, none⟩) (show w.heap.size ≤ H + 1 by omega) _).setCell (p := ⟨H + 2, 0, none⟩) (show w.heap.size ≤ H + 2 by omega) _).grown (g _) ?_ (fun k e => by injection e with e; omega))
    have := hb.size
    simpa [World.setCell] using this
theorem lo_next {H q c1 c5 n5 : Nat} {ls : List (List UInt8)} {pre' : List (Nat × List UInt8)} {acc : List EdD} {e0 : EdD} {A1 A5 : Option Addr} {W1 w3 w5 : World} {a3 : Value} (hb : Below W1.heap.size W1 w3)
    (r0 : Blk w3 H [.slice none 0 0]) (r1 : Blk w3 (H + 1) [.int .i64 0]) (r2 : Blk w3 (H + 2) [.int .i64 0]) (l : Blk w3 (H + 3) [a3]) (o : w3.ownsRow (H + 13) 25 3 (.slice A1 q c1) acc.length (edCells acc)) (hs : H + 13 ≤ w3.heap.size)
    (o5 : w5.ownsRow (H + 13) 25 3 (.slice A5 n5 c5) (acc.length + 1) (edCells acc ++ [.int .u32 (e0.src : Int), .int .u32 (e0.dst : Int), .int .u32 (e0.wgt : Int)]))
    (hg : ((w3.alloc (.cells #[.int .u32 (e0.src : Int), .int .u32 (e0.dst : Int), .int .u32 (e0.wgt : Int)] 25)).alloc (.cells #[.int .u32 (e0.src : Int), .int .u32 (e0.dst : Int), .int .u32 (e0.wgt : Int)] 25)).grownBy w5 (Value.slice A1 q c1).ownBlock)
    (hm : acc.length + 1 ≤ pre'.length) (hk : acc.length + 1 ≤ 65536) (hf : ∀ p ∈ acc, Fits p) (hf0 : Fits e0) (g : readM 65536 0 [] ls = readM 65536 pre'.length (acc ++ [e0]) (ls.drop pre'.length)) :
    Out (LoS H) W1 (w5.setCell ⟨H + 3, 0, none⟩ (.slice A5 n5 c5)) ∧ LoI H ls pre' (acc ++ [e0]) (.slice A5 n5 c5) (w5.setCell ⟨H + 3, 0, none⟩ (.slice A5 n5 c5)) := by
  have key : ∀ k, (Value.slice A1 q c1).ownBlock = some k → H + 13 ≤ k := fun k e => (o.lt k e).1
  have o1 : Out (LoS H) W1 w5 := ((((Out.of_below hb).alloc _).alloc _).grown hg fun k e => .inl (.inr (.inr (.inr (.inr (key k e))))))
  have ne : ∀ j, j < H + 13 → (Value.slice A1 q c1).ownBlock ≠ some j := fun j hj e => by have := key _ e; omega
  refine ⟨o1.setCell (p := ⟨H + 3, 0, none⟩) (.inl (.inr (.inr (.inr (.inl rfl))))) _, ?_, ?_, ?_, ?_, ?_, ?_, ?_, ?_, g⟩
  · exact (((r0.alloc _).alloc _).grown hg (ne _ (by omega))).other (p := ⟨H + 3, 0, none⟩) (show H + 3 ≠ H by omega) _
  · exact (((r1.alloc _).alloc _).grown hg (ne _ (by omega))).other (p := ⟨H + 3, 0, none⟩) (show H + 3 ≠ H + 1 by omega) _
  · exact (((r2.alloc _).alloc _).grown hg (ne _ (by omega))).other (p := ⟨H + 3, 0, none⟩) (show H + 3 ≠ H + 2 by omega) _
  · exact (((l.alloc _).alloc _).grown hg (ne _ (by omega))).set 0 _
  · rw [List.length_append, edCells_snoc]
    exact ownsRow_setCell_below o5 (a := ⟨H + 3, 0, none⟩) (show H + 3 < _ by omega) _
  · intro p hp
    rcases List.mem_append.1 hp with hp | hp
    · exact hf p hp
    · rw [List.mem_singleton.1 hp]; exact hf0
  · rw [List.length_append]; exact hm
  · rw [List.length_append]; exact hk
theorem readM_bad {m k : Nat} {acc : List EdD} {l : List UInt8} {ls : List (List UInt8)} (h : (oneS l).2.2 ≠ 0) : readM m k acc (l :: ls) = ([], k + 1, (oneS l).2.2) := by rw [readM, if_pos h]
theorem readM_full {m k : Nat} {acc : List EdD} {l : List UInt8} {ls : List (List UInt8)} (h : (oneS l).2.2 = 0) (h1 : (oneS l).2.1 = true) (h2 : m ≤ acc.length) : readM m k acc (l :: ls) = ([], k + 1, 4) := by rw [readM, if_neg (by rw [h]; simp), if_pos h1, if_pos h2]
theorem readM_one {m k : Nat} {acc : List EdD} {l : List UInt8} {ls : List (List UInt8)} (h : (oneS l).2.2 = 0) (h1 : (oneS l).2.1 = true) (h2 : ¬ m ≤ acc.length) : readM m k acc (l :: ls) = readM m (k + 1) (acc ++ [(oneS l).1]) ls := by rw [readM, if_neg (by rw [h]; simp), if_pos h1, if_neg h2]
theorem readM_no {m k : Nat} {acc : List EdD} {l : List UInt8} {ls : List (List UInt8)} (h : (oneS l).2.2 = 0) (h1 : (oneS l).2.1 = false) : readM m k acc (l :: ls) = readM m (k + 1) acc ls := by rw [readM, if_neg (by rw [h]; simp), if_neg (by rw [h1]; simp)]
theorem linesG_short : ∀ (l c : List UInt8), ∀ x ∈ linesG c l, x.length ≤ c.length + l.length
  | [], c => fun x hx => by
    rw [linesG] at hx
    split at hx
    · simp at hx
    · rw [List.mem_singleton.1 hx]; simp
  | u :: l, c => fun x hx => by
    rw [linesG] at hx
    split at hx
    · rcases List.mem_cons.1 hx with rfl | hx
      · simp
      · have := linesG_short l [] x hx
        simp at this ⊢; omega
    · have := linesG_short l _ x hx
      simp at this ⊢; omega

attribute [local go_sem] Oper.semAt_some
set_option maxRecDepth 100000 in
set_option maxHeartbeats 2000000 in
theorem read_any2 (A : Option Addr) (n c : Nat) (b : List UInt8) (hb : b.length = n) (hnc : n ≤ c) (hc : c ≤ 9223372036854775807) (w : World) (hr : Rd w w.heap.size A b) (hE : Evs w) :
    Calls Tryd.prog 12 #[.slice A n c] w (ReadPost2 w (readB b)) := by
  refine (callsIn_wide (n := 4)).1 ?_
  have HE := Lib.hid hE
  have HL := Lib.hid hb
  have HR := Lib.hid hr
  have HC := Lib.hid hc
  obtain ⟨R, hRR⟩ : ∃ R, R = readB b := ⟨_, rfl⟩
  have HRR := Lib.hid hRR
  rw [← hRR]
  clear hE hb hr hc hRR
  obtain ⟨H, hH⟩ : ∃ H, H = w.heap.size := ⟨_, rfl⟩
  obtain ⟨W0, hW0⟩ : ∃ W0, ((w.alloc (.cells #[.slice none 0 0] 33)).alloc (.cells #[.int .i64 0] 3)).alloc (.cells #[.int .i64 0] 26) = W0 := ⟨_, rfl⟩
  have r0 : Blk W0 H [.slice none 0 0] := by rw [← hW0, hH]; exact ((Blk.new w [.slice none 0 0] _).alloc _).alloc _
  have r1 : Blk W0 (H + 1) [.int .i64 0] := by rw [← hW0, hH]; exact (Blk.new' (w.alloc _) [.int .i64 0] _ (by simp)).alloc _
  have r2 : Blk W0 (H + 2) [.int .i64 0] := by rw [← hW0, hH]; exact Blk.new' ((w.alloc _).alloc _) [.int .i64 0] _ (by simp)
  have hb0 : Below w.heap.size w W0 := by rw [← hW0]; exact (((Below.refl _ w).alloc (Nat.le_refl _) _).alloc (by simp) _).alloc (by simp; omega) _
  have hs0 : W0.heap.size = H + 3 := by rw [← hW0, hH]; simp
  have HH := Lib.hid hH
  have B0 := Lib.hid (And.intro r0 (And.intro r1 (And.intro r2 hb0)))
  have HS0 := Lib.hid hs0
  have HW0 := Lib.hid hW0
  clear r0 r1 r2 hb0 hs0 hH hW0
  refine callsIn_of_wp_marks Tryd.func12 rfl trivial ?_ rfl
  simp only [Tryd.ntmps12, List.size_toArray, List.length_cons, List.length_nil, Nat.reduceAdd, Nat.reduceSub, Array.replicate_succ, Array.replicate_zero, List.push_toArray, List.append_toArray, List.nil_append, List.cons_append]
  gi_wp2
  refine wpIn_scope (wpIn_seq (wpIn_seq ?_))
  by_cases h : 1048576 < n
  · have h1 : (1048576 : Int) < (n : Int) := by omega
    have HN := Lib.hid h
    have hRB : R = ([], 0, 4) := by rw [HRR.out, readB_long (by rw [HL.out]; exact h)]
    have c0 : Blk (((w.alloc (.cells #[.slice none 0 0] 33)).alloc (.cells #[.int .i64 0] 3)).alloc (.cells #[.int .i64 4] 26)) w.heap.size [.slice none 0 0] := ((Blk.new w [.slice none 0 0] _).alloc _).alloc _
    have c1 : Blk (((w.alloc (.cells #[.slice none 0 0] 33)).alloc (.cells #[.int .i64 0] 3)).alloc (.cells #[.int .i64 4] 26)) (w.heap.size + 1) [.int .i64 0] := (Blk.new' (w.alloc _) [.int .i64 0] _ (by simp)).alloc _
    have c2 : Blk (((w.alloc (.cells #[.slice none 0 0] 33)).alloc (.cells #[.int .i64 0] 3)).alloc (.cells #[.int .i64 4] 26)) (w.heap.size + 1 + 1) [.int .i64 4] := Blk.new' ((w.alloc _).alloc _) [.int .i64 4] _ (by simp)
    have cb : Below w.heap.size w (((w.alloc (.cells #[.slice none 0 0] 33)).alloc (.cells #[.int .i64 0] 3)).alloc (.cells #[.int .i64 4] 26)) := (((Below.refl _ w).alloc (Nat.le_refl _) _).alloc (by simp) _).alloc (by simp; omega) _
    have z0 := c0.cell (i := 0) rfl
    have z1 := c1.cell (i := 0) rfl
    have z2 := c2.cell (i := 0) rfl
    have HCB := Lib.hid cb
    subst hRB
    clear c0 c1 c2 cb h
    gi_wp2
    rw [Exit.noGoto_ret]
    refine ⟨.tuple #[.slice none 0 0, .int .i64 0, .int .i64 4], by simp [results, Tryd.results12, go_sem, z0, z1, z2], ?_⟩
    exact ⟨none, 0, rfl, Nat.le_refl _, Eds.empty, HCB.out, (fun a h => by cases h), fun _ => rfl⟩
  · have h1 : ¬ (1048576 : Int) < (n : Int) := by omega
    have HN := Lib.hid (show n ≤ 1048576 by omega)
    obtain ⟨ls, hls⟩ : ∃ ls, ls = linesG [] b := ⟨_, rfl⟩
    have hRB : R = readM 65536 0 [] ls := by rw [HRR.out]; unfold readB; rw [if_neg (by rw [HL.out]; exact h), hls]
    have hshort : ∀ x ∈ ls, x.length ≤ 1048576 := fun x hx => by
      rw [hls] at hx
      have := linesG_short b [] x hx
      rw [HL.out] at this
      simp at this; omega
    have hlen : ls.length ≤ 1048577 := by
      have := linesG_length b []
      rw [← hls, HL.out] at this
      omega
    obtain ⟨W2, hW2⟩ : ∃ W2, (W0.alloc (.cells #[.slice none 0 0] 33)).alloc (.cells #[.slice A n c] 32) = W2 := ⟨_, rfl⟩
    have hs0 := HS0.out
    obtain ⟨p0, p1, p2, pb⟩ := B0.out
    have hb02 : Below W0.heap.size W0 W2 := by rw [← hW2]; exact ((Below.refl _ W0).alloc (Nat.le_refl _) _).alloc (by simp) _
    have q0 : Blk W2 H [.slice none 0 0] := p0.past hb02
    have q1 : Blk W2 (H + 1) [.int .i64 0] := p1.past hb02
    have q2 : Blk W2 (H + 2) [.int .i64 0] := p2.past hb02
    have q3 : Blk W2 (H + 3) [.slice none 0 0] := by rw [← hW2, ← hs0]; exact (Blk.new W0 [.slice none 0 0] _).alloc _
    have q4 : Blk W2 (H + 4) [.slice A n c] := by rw [← hW2]; exact Blk.new' (W0.alloc _) [.slice A n c] _ (by simp; omega)
    have qb : Below w.heap.size w W2 := pb.trans (hb02.mono pb.size)
    have hs2 : W2.heap.size = H + 5 := by rw [← hW2]; simp; omega
    have hrW : Rd W2 W2.heap.size A b := (HR.out.below qb).more qb.size
    have hab : ∀ k, MemB (H + 4) A b k → k < H ∨ k = H + 4 := by
      rintro k (rfl | ⟨h0, a, e, rfl⟩)
      · exact .inr rfl
      · obtain ⟨a', e', h2, -⟩ := HR.out h0
        rw [e] at e'
        injection e' with e'
        subst e'
        have := HH.out
        exact .inl (by omega)
    have HW2 := Lib.hid hW2
    have HS2 := Lib.hid hs2
    have HRB := Lib.hid hRB
    have HSH := Lib.hid hshort
    have HLN := Lib.hid hlen
    have HLS := Lib.hid hls
    have hI0 : LoI H ls [] [] (.slice none 0 0) W2 := ⟨q0, q1, q2, q3, World.ownsRow_nil _ _ _ _, fun p hp => by simp at hp, Nat.le_refl _, Nat.zero_le _, rfl⟩
    have Q := Lib.hid (And.intro hI0 (And.intro q4 (And.intro qb (And.intro hrW hab))))
    have hnn := fun w => not_nil ⟨H + 4, 0, none⟩ w
    clear h hls hRB hshort hlen hW2 hs0 p0 p1 p2 pb hb02 q0 q1 q2 q3 q4 qb hs2 hrW hab hI0
    gi_wp2
    rw [HW0.out, ← HH.out]
    rw [show H + 1 + 1 + 1 = H + 3 from rfl, show H + 1 + 1 = H + 2 from rfl]
    refine wpIn_label ?_
    gi_wp2_with ((refine ⟨trivial, ?_⟩); (refine (callsIn_wide.2 (lines_any A n c _)).mono ?_); rintro e w2 ⟨rfl, rfl⟩)
    rw [HW2.out, HS0.out]
    rw [show H + 3 + 1 = H + 4 from rfl]
    obtain ⟨hI0, q4, qb, hrW, hab⟩ := Q.out
    have hs2 := HS2.out
    refine Rq.range_gives (gf := 32) (lb := #[.pointer (some ⟨H + 4, 0, none⟩)]) rfl (enters_of Tryd.func32 (by kernel_rfl) rfl)
      (Rq.lines_gives (H + 4) A n c b HL.out hnc HC.out (by have := HN.out; omega) W2 q4 hrW) (Below.refl _ _) (fun _ => rfl)
      (LoS H) ?hS ?hM
      (fun pre W' => ∃ acc v, LoI H ls pre acc v W') (fun cc _ W' => cc = .ret ∧ ∃ k e, LoX H ls k e W')
      (fun s X Y row hs hg hr => ?fI) (fun cc s X Y row hs hg hr => ?fX) ⟨[], _, hI0⟩
      (fun x a' W => a' = { tmps := #[.slice A n c, undef, .pointer (some ⟨H, 0, none⟩), .pointer (some ⟨H + 1, 0, none⟩), .pointer (some ⟨H + 2, 0, none⟩), .pointer (some ⟨H + 3, 0, none⟩), .int .i64 (x.1 : Int), sv x.2, undef, undef, undef, .slice A n c, .int .i64 (n : Int), .bool false, .slice A n c, .func (.func 32) #[] #[.pointer (some ⟨H + 4, 0, none⟩)], .int .i64 (x.1 : Int), sv x.2, undef, undef, undef, undef, undef, undef, undef, undef, undef, undef, undef, undef, undef, undef, undef, undef, undef, undef, undef, undef, undef, undef, undef, undef], defers := [] })
      (fun x a' _ X Y row hs hg hr => hs)
      ?assign ?body ?done ?stop
    case hS =>
      rintro k hk
      have hk : k = H ∨ k = H + 1 ∨ k = H + 2 ∨ k = H + 3 ∨ H + 13 ≤ k := hk
      refine ⟨by omega, fun hm => ?_⟩
      have := hab k hm
      omega
    case hM =>
      intro k hm
      have := hab k hm
      omega
    case fI =>
      obtain ⟨acc, v, h⟩ := hs
      exact ⟨acc, v, h.free hg (fun r e => by have := hr r e; omega)⟩
    case fX =>
      obtain ⟨hc, k, e, h⟩ := hs
      exact ⟨hc, k, e, h.free hg (fun r e => by have := hr r e; omega)⟩
    case assign =>
      rintro l' m pre x W1 K - hI ho hK
      dsimp only [encL]
      gi_wp2
      exact hK _ _ (Out.refl _ _) hI rfl
    case body =>
      rintro l' m pre ⟨x1, y⟩ post a' W1 hX hsz ho ⟨acc, v, hI⟩ rfl
      rw [← HLS.out] at hX
      obtain ⟨hx1, hxl⟩ := numG_at hX
      simp only at hx1 hxl
      obtain ⟨k, hk⟩ : ∃ k, k = pre.length := ⟨_, rfl⟩
      rw [← hk] at hx1 hxl
      have hx : x1 = k + 1 := by omega
      subst hx
      have hy : y.length ≤ 1048576 := HSH.out y (List.mem_of_getElem? hxl)
      have hkl : k < ls.length := (List.getElem?_eq_some_iff.1 hxl).1
      have hd : ls.drop k = y :: ls.drop (k + 1) := by
        rw [List.drop_eq_getElem_cons hkl]
        rw [List.getElem?_eq_getElem hkl] at hxl
        injection hxl with hxl
        rw [hxl]
      have hbw1 : Below w.heap.size w W1 := qb.trans (ho.below (fun k _ hk => by have hk : k = H ∨ k = H + 1 ∨ k = H + 2 ∨ k = H + 3 ∨ H + 13 ≤ k := hk; have := HH.out; omega) qb.size)
      have hln : (pre ++ [(k + 1, y)]).length = k + 1 := by rw [List.length_append, ← hk]; rfl
      have hg := hI.g
      rw [← hk, hd] at hg
      have HI := Lib.hid hI
      have HG := Lib.hid hg
      have HLN2 := Lib.hid hln
      have HK := Lib.hid hk
      have HEV := Lib.hid (HE.out.below hbw1)
      have HSZ := Lib.hid hsz
      clear hX hxl hkl hd hg hln hI ho hbw1 hx1 hsz q4 qb hrW hab hI0 hk hs2
      gi_wp2_with fail
      refine ⟨trivial, (fun h => by simp [Fence.wide] at h), (CallsIn.inRound l' (callsIn_wide.2 (one_any ⟨y.toArray⟩ (by show y.length ≤ _; omega) W1 HEV.out))).mono ?_⟩
      obtain ⟨⟨e0, is, er⟩, hr⟩ : ∃ r, r = oneS (⟨y.toArray⟩ : ByteArray).data.toList := ⟨_, rfl⟩
      have hr2 : oneS y = (e0, is, er) := hr.symm
      have hfit : Fits e0 := by have := oneS_fits y; rw [hr2] at this; exact this
      rw [← hr]
      rintro e w3 ⟨rfl, hb3⟩
      have HR2 := Lib.hid hr2
      have HFI := Lib.hid hfit
      have hi := HI.out
      have l4 : Blk w3 (H + 3) [v] := hi.l.past hb3
      have r40 := hi.r0.past hb3
      have r41 := hi.r1.past hb3
      have r42 := hi.r2.past hb3
      have o4 : w3.ownsRow (H + 13) 25 3 v acc.length (edCells acc) := own_below' hi.o hb3
      have z0 := r40.cell (i := 0) rfl
      have z1 := r41.cell (i := 0) rfl
      have z2 := r42.cell (i := 0) rfl
      have z3 := l4.cell (i := 0) rfl
      have f0 := r40.frozen 0
      have f1 := r41.frozen 0
      have f2 := r42.frozen 0
      have f3 := l4.frozen 0
      have s3 : H + 13 ≤ w3.heap.size := by have := HSZ.out; have := HS2.out; have := hb3.size; omega
      have t0 : H < w3.heap.size := by omega
      have t1 : H + 1 < w3.heap.size := by omega
      have t2 : H + 2 < w3.heap.size := by omega
      have t3 : H + 3 < w3.heap.size := by omega
      have HO4 := Lib.hid (And.intro hb3 (And.intro r40 (And.intro r41 (And.intro r42 (And.intro l4 o4)))))
      have HS3 := Lib.hid s3
      clear hr hr2 hfit hb3 hi l4 r40 r41 r42 o4 s3
      by_cases her : er = 0
      · subst her
        cases his : is with
        | false =>
          subst his
          have FIN := Lib.hid (show Out (LoS H) W1 (w3.alloc (.cells #[.int .u32 (e0.src : Int), .int .u32 (e0.dst : Int), .int .u32 (e0.wgt : Int)] 25)) ∧ LoI H ls (pre ++ [(k + 1, y)]) acc v (w3.alloc (.cells #[.int .u32 (e0.src : Int), .int .u32 (e0.dst : Int), .int .u32 (e0.wgt : Int)] 25)) by
            obtain ⟨hb3, r40, r41, r42, l4, o4⟩ := HO4.out
            have hi := HI.out
            refine ⟨(Out.of_below hb3).alloc _, r40.alloc _, r41.alloc _, r42.alloc _, l4.alloc _, o4.alloc _, hi.f, ?_, hi.k, ?_⟩
            · have := hi.m; rw [HLN2.out]; have := HK.out; omega
            · rw [HLN2.out, HG.out, readM_no (by rw [HR2.out]) (by rw [HR2.out])])
          clear z0 z1 z2 z3 f0 f1 f2 f3 HO4 HI
          gi_wp2
          exact ⟨FIN.out.1, acc, v, FIN.out.2⟩
        | true =>
          subst his
          obtain ⟨A1, c1, hv, -⟩ := own_slice' HO4.out.2.2.2.2.2
          obtain ⟨q, hq⟩ : ∃ q, q = acc.length := ⟨_, rfl⟩
          rw [← hq] at hv
          subst hv
          have hq65 : q ≤ 65536 := by rw [hq]; exact HI.out.k
          by_cases hfull : q = 65536
          · have k1 : ((q : Int) == 65536) = true := by rw [beq_iff_eq]; omega
            have FIN := Lib.hid (lo_end (kk := (k : Int) + 1) (k := k + 1) (er := 4) (o := .cells #[.int .u32 (e0.src : Int), .int .u32 (e0.dst : Int), .int .u32 (e0.wgt : Int)] 25) HO4.out.1 HO4.out.2.1 HO4.out.2.2.1 HO4.out.2.2.2.1 (by omega)
              (show readM 65536 0 [] ls = ([], k + 1, 4) by rw [HG.out, readM_full (by rw [HR2.out]) (by rw [HR2.out]) (by rw [← hq]; omega)]))
            clear hq hfull hq65 HO4 HI
            gi_wp2
            exact ⟨FIN.out.1, rfl, _, _, FIN.out.2⟩
          · have k1 : ((q : Int) == 65536) = false := beq_eq_false_iff_ne.2 (by omega)
            have HQ := Lib.hid hq
            have hq64 : q < 65536 := by omega
            clear hq hfull
            obtain ⟨i0, hi0, hzz0, hzz1, hzz2⟩ := info_parts ed_info
            have hm1 : acc.length + 1 ≤ maxLen := by have := HQ.out; unfold maxLen; omega
            have hm2 : (acc.length + 1) * 12 ≤ 140737488355328 := by have := HQ.out; omega
            gi_wp2_with (gi_at_builtin
                         go_loud (refine wpListIn_append_own _ rfl (.tmp 37) (.tmp 39) 33 rfl (H + 13) 25 i0 _ 3 12 Tryd.underlying33 hi0 hzz0 hzz1 hzz2 rfl (by decide) _ acc.length _ rfl ((HO4.out.2.2.2.2.2.alloc _).alloc _) ⟨w3.heap.size + 1, 0, none⟩ 1 1 [.int .u32 (e0.src : Int), .int .u32 (e0.dst : Int), .int .u32 (e0.wgt : Int)] rfl rfl (one_ed (by simp)) ed_one_cells hm1 hm2 (by have := HS3.out; simp; omega) ?_)
                         intro v5 w5 hown5 hg5 hnil5
                         refine Classical.byContradiction fun hcontra => ?_)
            obtain ⟨A5, c5, hv5, -⟩ := own_slice' hown5
            subst hv5
            have hne5 : (Value.slice A1 q c1).ownBlock ≠ some (H + 3) := fun e => by have := (HO4.out.2.2.2.2.2.lt _ e).1; omega
            have l5 := ((HO4.out.2.2.2.2.1.alloc (.cells #[.int .u32 (e0.src : Int), .int .u32 (e0.dst : Int), .int .u32 (e0.wgt : Int)] 25)).alloc (.cells #[.int .u32 (e0.src : Int), .int .u32 (e0.dst : Int), .int .u32 (e0.wgt : Int)] 25)).grown hg5 hne5
            have x3 := l5.cell (i := 0) rfl
            have g3 := l5.frozen 0
            have FIN := Lib.hid (lo_next HO4.out.1 HO4.out.2.1 HO4.out.2.2.1 HO4.out.2.2.2.1 HO4.out.2.2.2.2.1 HO4.out.2.2.2.2.2 HS3.out hown5 hg5 (by rw [HLN2.out]; have := HI.out.m; rw [← HK.out, ← HQ.out] at this; have := HQ.out; omega) (by have := HQ.out; omega) HI.out.f HFI.out (show readM 65536 0 [] ls = readM 65536 (pre ++ [(k + 1, y)]).length (acc ++ [e0]) (ls.drop (pre ++ [(k + 1, y)]).length) by
              rw [HLN2.out, HG.out, readM_one (by rw [HR2.out]) (by rw [HR2.out]) (by have := HQ.out; omega), HR2.out]))
            clear hown5 hg5 hnil5 hne5 l5
            apply hcontra
            clear hcontra
            gi_wp2
            exact ⟨FIN.out.1, _, _, FIN.out.2⟩
      · have her2 : (er == 0) = false := beq_eq_false_iff_ne.2 her
        have FIN := Lib.hid (lo_end (kk := (k : Int) + 1) (k := k + 1) (er := er) (o := .cells #[.int .u32 (e0.src : Int), .int .u32 (e0.dst : Int), .int .u32 (e0.wgt : Int)] 25) HO4.out.1 HO4.out.2.1 HO4.out.2.2.1 HO4.out.2.2.2.1 (by omega)
          (show readM 65536 0 [] ls = ([], k + 1, er) by rw [HG.out, readM_bad (by rw [HR2.out]; exact her), HR2.out]))
        clear HO4 HI
        gi_wp2
        exact ⟨FIN.out.1, rfl, _, _, FIN.out.2⟩
    case done =>
      rintro D W1 hD ho ⟨acc, v, hI⟩ hK
      rw [← HLS.out] at hI
      have hRR : R = (acc, 0, 0) := by
        have := hI.g
        rw [numG_length, List.drop_of_length_le (Nat.le_refl _), readM] at this
        rw [HRB.out, this]
      have hbw1 : Below w.heap.size w W1 := qb.trans (ho.below (fun k _ hk => by have hk : k = H ∨ k = H + 1 ∨ k = H + 2 ∨ k = H + 3 ∨ H + 13 ≤ k := hk; have := HH.out; omega) qb.size)
      obtain ⟨A1, c1, hv, hc1⟩ := own_slice' hI.o
      subst hv
      have z0 := hI.r0.cell (i := 0) rfl
      have z1 := hI.r1.cell (i := 0) rfl
      have z2 := hI.r2.cell (i := 0) rfl
      have z3 := hI.l.cell (i := 0) rfl
      have f0 := hI.r0.frozen 0
      have f1 := hI.r1.frozen 0
      have f2 := hI.r2.frozen 0
      rw [hs2] at hD
      subst hD
      have hfin := lo_done (A := A1) (n := acc.length) (c := c1) hI.r0 hI.r1 hI.r2 hI.o hI.f hK (show w.heap.size ≤ H by rw [HH.out]; exact Nat.le_refl _) hbw1
      have hnw := own_new hI.o
      have HF := Lib.hid (And.intro hfin hc1)
      have HNW := Lib.hid (show (∀ a, A1 = some a → w.heap.size ≤ a.block) ∧ (A1 = none → c1 = 0) from ⟨fun a h => by have := hnw.1 a h; have := HH.out; omega, hnw.2⟩)
      have HRR2 := Lib.hid hRR
      clear hnw hI ho hK hRR hbw1 hfin hc1 q4 qb hrW hab hI0 hs2
      gi_wp2
      rw [Exit.noGoto_ret]
      obtain ⟨⟨hk5, W5, hW5, e0, e1, e2, e3, e4⟩, hc1⟩ := HF.out
      refine ⟨by simp, .inl ⟨_, _, rfl, run_takeDeferred hk5, ?_⟩⟩
      rw [← hW5]
      refine ⟨.tuple #[.slice A1 acc.length c1, .int .i64 0, .int .i64 0], by simp [results, Tryd.results12, go_sem, e0, e1, e2], ?_⟩
      rw [HRR2.out]
      exact ⟨A1, c1, rfl, hc1, e3, e4, HNW.out⟩
    case stop =>
      rintro D cc pre post W1 hD ho hX ⟨rfl, k, e, hI⟩ hK
      have hRR : R = ([], k, e) := by rw [HRB.out, hI.g]
      have hbw1 : Below w.heap.size w W1 := qb.trans (ho.below (fun k _ hk => by have hk : k = H ∨ k = H + 1 ∨ k = H + 2 ∨ k = H + 3 ∨ H + 13 ≤ k := hk; have := HH.out; omega) qb.size)
      rw [hs2] at hD
      subst hD
      have g : W1.grownBy (W1.putObj (H + 5) (.deferred none)) (some (H + 5)) := grownBy_putObj' W1 _ _
      have e0 := (hI.r0.grown g (fun e => by injection e with e; omega)).cell (i := 0) rfl
      have e1 := (hI.r1.grown g (fun e => by injection e with e; omega)).cell (i := 0) rfl
      have e2 := (hI.r2.grown g (fun e => by injection e with e; omega)).cell (i := 0) rfl
      have e4 : Below w.heap.size w (W1.putObj (H + 5) (.deferred none)) := hbw1.grown g hbw1.size (fun k e => by injection e with e; have := HH.out; omega)
      have HF := Lib.hid (And.intro hK (And.intro e0 (And.intro e1 (And.intro e2 e4))))
      have HRR2 := Lib.hid hRR
      clear hI ho hK hRR hbw1 g e0 e1 e2 e4 hX q4 qb hrW hab hI0 hs2
      gi_wp2
      rw [Exit.noGoto_ret]
      obtain ⟨hk5, e0, e1, e2, e4⟩ := HF.out
      refine ⟨by simp, .inl ⟨_, _, rfl, run_takeDeferred hk5, ?_⟩⟩
      refine ⟨.tuple #[.slice none 0 0, .int .i64 (k : Int), .int .i64 e], by simp [results, Tryd.results12, go_sem, e0, e1, e2], ?_⟩
      rw [HRR2.out]
      exact ⟨none, 0, rfl, Nat.le_refl _, Eds.empty, e4, (fun a h => by cases h), fun _ => rfl⟩
theorem read_any (A : Option Addr) (n c : Nat) (b : List UInt8) (hb : b.length = n) (hnc : n ≤ c) (hc : c ≤ 9223372036854775807) (w : World) (hr : Rd w w.heap.size A b) (hE : Evs w) :
    Calls Tryd.prog 12 #[.slice A n c] w (ReadPost w (readB b)) := (read_any2 A n c b hb hnc hc w hr hE).mono fun _ _ h => h.less
end Go.Proofs.YtbedepnmgnlijaaDoor
